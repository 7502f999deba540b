import PyProof.Rows.All
import Wide.All
import OpenK.AllK
import Wide.FinOn
import KE.KCallOwn
import KE.KEqDict
import PyProof.InstEq
import HandS.Base
import HandS.Call
import HandS.List
import HandS.Dict
import HandS.More
import HandS.Comp
import HandS.Words
import HandS.Property
import HandS.IsInst
import PyProof.Rows.SortShellAny
import PyProof.Rows.SetFrom
import HandS.Set
import PyProof.AssignAttr
import PyProof.Rows.StrCountLaw
import HandS.ForMost
import HandS.Wide
import HandS.StrMore
import HandS.Style
import PyProof.ReprReads
import HandS.Ends
import PyProof.ReprRoads
import PyProof.TupleOfSeq
import KE.KExcInit
import HandS.ForExc
import HandS.TryMany
import HandS.Defaults
import HandS.Deep
import HandS.ExcValue
import KE.KExcMake
import KE.KExcIs
import HandS.Lambda
import HandS.EndBits
import KE.KNest
import HandS.Iter
import HandS.Walk
import KE.KDictKeyed
import KE.KDictWalk
import HandS.DictComp
import HandS.DictTup
import HandS.Conv
import KE.SortData
import KE.KDictCopyH
import HandS.DictEq
import KE.KDictPairs
import HandS.FStr
import HandS.ListItems
import HandS.TupAny
import HandS.Star
import HandS.Strs
import HandS.SetBool
import PyProof.SetRoads
import HandS.SetFor
import HandS.TupSets
import KE.KSortTup
import PyProof.Rows.RegFStrParts
import HandS.Small
import KE.SortCalls
import KE.KExcLine
import PySem.Challenge.RW_linkbooks_k17_readers_told
set_option Elab.async false
set_option linter.all false
set_option maxRecDepth 100000
set_option maxHeartbeats 4000000
namespace Gx
open PySem PySem.Spec PySem.Calls PyProof.Rows L2
/-! ### own protocols: in, [], len, str, == and != of instances -/
theorem rel_ref (a : Addr) : RelV (V.ref a) (Value.ref a) := rfl
/-- a method of the class at C that keeps the promise sp, by at most level k -/
def CalM (P : Program) (w : World) (K : PySem.W.Frag) (mg : Str → Option Value) (base : Heap) (C : Addr) (m : Str) (k : Nat) (ps : List Str) (sp : Sp) : Prop :=
  ∃ (f : Addr) (fd : FuncData), FnOk P w K mg base CX0 k f fd ps sp ∧ Meth K C m f ∧ Binds K fd ps [] ∧ PySem.W.fnIn K f = true
theorem CalM.mono {P : Program} {w : World} {K : PySem.W.Frag} {mg : Str → Option Value} {base : Heap} {C : Addr} {m : Str} {j k : Nat} {ps : List Str} {sp : Sp} (c : CalM P w K mg base C m j ps sp) (h : j ≤ k) : CalM P w K mg base C m k ps sp := by
  obtain ⟨f, fd, F, more⟩ := c
  exact ⟨f, fd, F.mono h, more⟩
section
variable {X : Cx} {C : Addr} {k : Nat} {ps : List Str} {sp : Sp} {m : Str}
/-- the method runs, somewhere below the body -/
theorem run_below {f : Addr} {fd : FuncData} {A : Around} {pins : List (Addr × Obj)} {σ : L2.St} {H : Hp} {s : Shared} {us : List Value} {vs : List V} {Q : VK} {E : Value → Shared → Prop} (F : FnOk X.prog X.w X.K X.mg X.base CX0 k f fd ps sp) (room : Room k A) (fr : A.frames = X.A.frames) (b : Binds X.K fd ps [])
    (I : Inv X pins σ H s) (r : Vals vs us) (want : sp vs H Q E0) : wpAny (model X.prog X.w) A (call (.ref f) us) (EP X pins σ Q) E s := by
  have e0 : Env0 X.prog X.w X.K X.mg X.base A X.stack s H := by
    have e := I.env0
    exact ⟨by rw [fr]; exact e.frames, e.mod, e.bs, e.bsz, e.funs, e.frf, e.hok, e.bare⟩
  have hl : us.length = ps.length := r.length.symm.trans (F.len _ _ _ _ want)
  have bt : BindsTo s fd ⟨us, []⟩ (ps.zip us) := by
    have q := b s us I.kIn (by rw [List.append_nil]; exact hl)
    rw [List.append_nil] at q
    exact q
  refine wpAny_call (codeAny_mono (F.run A X.stack s H ⟨us, []⟩ us vs Q E0 room e0 bt r want) fun res s' hres => ?_)
  match res, hres with
  | .error e, hres => exact hres.elim
  | .ok (.ret u), hres => exact I.after hres
/-- x in o, x not in o -/
def rInM (C : Addr) (sp : Sp) (neg : Bool) : R2 := fun x y H Q => ∃ a dx fs, y = .ref a ∧ H a = some (.ins C dx fs) ∧ sp [.ref a, x] H (fun v H' => ∃ b, v = .bl b ∧ Q (.bl (if neg then !b else b)) H') E0
theorem op_inM (c : CalM X.prog X.w X.K X.mg X.base C "__contains__" k ps sp) (hr : Room k X.A) : OpR X (compareOp .In) (rInM C sp false) := by
  intro pins s σ H x y v u Q I rx ry h
  obtain ⟨f, fd, F, me, b, _⟩ := c
  obtain ⟨a, dx, fs, rfl, ea, q⟩ := h
  obtain rfl : u = Value.ref a := ry
  obtain ⟨mA, O, _⟩ := ins_get I.hok ea
  obtain ⟨od, J, _⟩ := O.look
  obtain ⟨mm, hF⟩ := I.fr
  refine PySem.W.in_K hF I.ok.mod.kin J me.at_ me.fn (wpAny_mono (run_below F hr rfl b I (.cons (rel_ref a) (.cons rx .nil)) q) (fun r s' z => ?_) fun _ _ e => e)
  obtain ⟨v', H', I', rv, t, rfl, q'⟩ := z
  cases rv
  exact wpAny_truthy_bool ⟨.bl t, H', I', rfl, q'⟩
theorem op_notinM (c : CalM X.prog X.w X.K X.mg X.base C "__contains__" k ps sp) (hr : Room k X.A) : OpR X (compareOp .NotIn) (rInM C sp true) := by
  intro pins s σ H x y v u Q I rx ry h
  obtain ⟨f, fd, F, me, b, _⟩ := c
  obtain ⟨a, dx, fs, rfl, ea, q⟩ := h
  obtain rfl : u = Value.ref a := ry
  obtain ⟨mA, O, _⟩ := ins_get I.hok ea
  obtain ⟨od, J, _⟩ := O.look
  obtain ⟨mm, hF⟩ := I.fr
  refine PySem.W.notIn_K hF I.ok.mod.kin J me.at_ me.fn (wpAny_mono (run_below F hr rfl b I (.cons (rel_ref a) (.cons rx .nil)) q) (fun r s' z => ?_) fun _ _ e => e)
  obtain ⟨v', H', I', rv, t, rfl, q'⟩ := z
  cases rv
  exact wpAny_truthy_bool ⟨.bl (!t), H', I', rfl, q'⟩
/-- o[x] -/
def rIxM (C : Addr) (sp : Sp) : R2 := fun x y H Q => ∃ a dx fs, x = .ref a ∧ H a = some (.ins C dx fs) ∧ sp [.ref a, y] H Q E0
theorem pe_ixM {a b : Expr} {ta tb : TE} {pos : Pos} (c : CalM X.prog X.w X.K X.mg X.base C "__getitem__" k ps sp) (hr : Room (k + 1) X.A) (ha : PE X a ta) (hb : PE X b tb)
    (hs : ∀ v u, subscripted b true v u = runValue (.builtin "lifetime.subscript" ⟨[v, u], []⟩)) : PE X (.Subscript a b pos) (tOp (rIxM C sp) ta tb) := by
  obtain ⟨f, fd, F, me, bi, fi⟩ := c
  refine ⟨fun pins s σ H Q I h => ?_⟩
  refine Subscript_ (binT ha hb I h fun v u s2 x y H2 I2 rx ry q => ?_)
  obtain ⟨p, dx, fs, rfl, ea, q⟩ := q
  obtain rfl : v = Value.ref p := rx
  obtain ⟨mA, O, _⟩ := ins_get I2.hok ea
  obtain ⟨od, J, _⟩ := O.look
  obtain ⟨mm, hF⟩ := I2.fr
  exact PySem.W.sub_K hF I2.ok.mod.kin J me.at_ fi me.fn (run_below F hr.in1 rfl bi I2 (.cons (rel_ref _) (.cons ry .nil)) q) (hs _ _)
/-- len(o) -/
def rLenM (C : Addr) (sp : Sp) : List V → Hp → VK → Prop := fun vs H Q => ∃ a dx fs, vs = [.ref a] ∧ H a = some (.ins C dx fs) ∧ sp [.ref a] H (fun v H' => ∃ n : Nat, v = .int n ∧ n ≤ 1000000 ∧ Q (.int n) H') E0
theorem call_lenM (c : CalM X.prog X.w X.K X.mg X.base C "__len__" k ps sp) (hr : Room (k + 1) X.A) : CallR X (.builtin "len") (rLenM C sp) := by
  intro pins s σ H xs us Q I r h
  obtain ⟨f, fd, F, me, b, _⟩ := c
  obtain ⟨a, dx, fs, rfl, ea, q⟩ := h
  rw [Vals.ref1 r]
  obtain ⟨mA, O, _⟩ := ins_get I.hok ea
  obtain ⟨od, J, _⟩ := O.look
  obtain ⟨mm, hF⟩ := I.fr
  refine PySem.W.len_K hF I.ok.mod.kin J me.at_ me.fn (wpAny_mono (run_below F hr.in1 rfl b I (.cons (rel_ref a) .nil) q) (fun r s' z => ?_) fun _ _ e => e)
  obtain ⟨v', H', I', rv, n, rfl, hn, q'⟩ := z
  obtain ⟨t, rfl⟩ := (show ∃ t, r = Value.int n t from rv)
  exact ⟨⟨by omega, by omega⟩, .int n, H', I'.tok _, ⟨_, rfl⟩, q'⟩
/-- str(o) -/
def rStrM (C : Addr) (sp : Sp) : List V → Hp → VK → Prop := fun vs H Q => ∃ a dx fs, vs = [.ref a] ∧ H a = some (.ins C dx fs) ∧ sp [.ref a] H (fun v H' => ∃ z : Str, v = .str z ∧ Q (.str z) H') E0
theorem call_strM (c : CalM X.prog X.w X.K X.mg X.base C "__str__" k ps sp) (hr : Room (k + 2) X.A) : CallR X (.type "str") (rStrM C sp) := by
  intro pins s σ H xs us Q I r h
  obtain ⟨f, fd, F, me, b, _⟩ := c
  obtain ⟨a, dx, fs, rfl, ea, q⟩ := h
  rw [Vals.ref1 r]
  obtain ⟨mA, O, _⟩ := ins_get I.hok ea
  obtain ⟨od, J, _⟩ := O.look
  have r2 : Room k X.A.in1.in1 := (hr.in1).in1
  refine PySem.W.kso_call r2.units0 I.kIn J me.at_ me.fn (wpAny_mono (run_below F r2 rfl b I (.cons (rel_ref a) .nil) q) (fun r s' z => ?_) fun _ _ e => e)
  obtain ⟨v', H', I', rv, y, rfl, q'⟩ := z
  obtain ⟨t, rfl⟩ := (show ∃ t, r = Value.str y t from rv)
  exact ⟨.str y, H', I', ⟨_, rfl⟩, q'⟩
/-- what an instance of the class at C may be compared with: another one, a tuple, a dict -/
inductive Oth (K : PySem.W.Frag) (H : Hp) (C : Addr) : V → Value → Prop
  | ins {a dx : Addr} {fs : List (Str × V)} (e : H a = some (.ins C dx fs)) : Oth K H C (.ref a) (.ref C)
  | tup {a : Addr} {xs : List V} (e : SqT K H a xs) : Oth K H C (.ref a) (.type "tuple")
  | dict {a : Addr} {kvs : List (Key × V)} (e : H a = some (.dK kvs)) : Oth K H C (.ref a) (.type "dict")
theorem sub_tuple_own {K : PySem.W.Frag} {C : Addr} : PySem.W.subIn K (.type "tuple") (.ref C) = some false := by
  have e : fastBuiltinMro "tuple" = some [.type "tuple", .type "object"] := by decide +kernel
  show (fastBuiltinMro "tuple").map (·.contains (.ref C)) = some false
  rw [e]
  first
    | rfl
    | simp
theorem sub_dict_own {K : PySem.W.Frag} {C : Addr} : PySem.W.subIn K (.type "dict") (.ref C) = some false := by
  have e : fastBuiltinMro "dict" = some [.type "dict", .type "object"] := by decide +kernel
  show (fastBuiltinMro "dict").map (·.contains (.ref C)) = some false
  rw [e]
  first
    | rfl
    | simp
theorem Oth.looks {M : Model} {pins : List (Addr × Obj)} {σ : L2.St} {H : Hp} {s : Shared} {y : V} {u t : Value} (I : Inv X pins σ H s) (o : Oth X.K H C y t) (r : RelV y u) :
    PySem.W.Looks M s.heap (typeOf u) t ∧ PySem.W.notFirst X.K C t = true := by
  cases o with
  | @ins a dx fs e =>
    obtain rfl : u = Value.ref a := r
    obtain ⟨mA, O, _⟩ := ins_get I.hok e
    obtain ⟨od, J, _⟩ := O.look
    exact ⟨J.type, by simp [PySem.W.notFirst]⟩
  | @tup a xs e =>
    obtain rfl : u = Value.ref a := r
    obtain ⟨its, rv, ⟨ob, ho, hc, _⟩, _⟩ := I.tuple e
    refine ⟨?_, by simp [PySem.W.notFirst, sub_tuple_own]⟩
    intro A Q E s' kp q
    exact wpAny_typeOf (T := "tuple") ⟨ob, kp _ _ ho, hc⟩ q
  | @dict a kvs e =>
    obtain rfl : u = Value.ref a := r
    obtain ⟨_, _, vs, _, dd⟩ := dk_of I.hok e
    refine ⟨?_, by simp [PySem.W.notFirst, sub_dict_own]⟩
    intro A Q E s' kp q
    obtain ⟨ob, ho, hc⟩ := dd.typeIs
    exact wpAny_typeOf (T := "dict") ⟨ob, kp _ _ ho, hc⟩ q
/-- o == y by the class's own == -/
def rEqM (K : PySem.W.Frag) (C : Addr) (sp : Sp) : R2 := fun x y H Q => ∃ a dx fs t, x = .ref a ∧ H a = some (.ins C dx fs) ∧ Oth K H C y t ∧ sp [.ref a, y] H (fun v H' => ∃ b, v = .bl b ∧ Q (.bl b) H') E0
theorem op_eqM (c : CalM X.prog X.w X.K X.mg X.base C "__eq__" k ps sp) (hr : Room k X.A) : OpR X (compareOp .Eq) (rEqM X.K C sp) := by
  intro pins s σ H x y v u Q I rx ry h
  obtain ⟨f, fd, F, me, b, _⟩ := c
  obtain ⟨a, dx, fs, t, rfl, ea, o, q⟩ := h
  obtain rfl : v = Value.ref a := rx
  obtain ⟨mA, O, _⟩ := ins_get I.hok ea
  obtain ⟨od, J, _⟩ := O.look
  obtain ⟨mm, hF⟩ := I.fr
  obtain ⟨lk, nf⟩ := o.looks (M := model X.prog X.w) I ry
  show wpAny _ _ (richCompare .Eq (.ref a) u) _ _ _
  refine PySem.W.cmp_K (op := .Eq) hr.units0 hF I.ok.mod.kin J lk nf me.at_ me.fn (wpAny_mono (run_below F hr rfl b I (.cons (rel_ref _) (.cons ry .nil)) q) (fun r s' z => ?_) fun _ _ e => e)
  obtain ⟨v', H', I', rv, t, rfl, q'⟩ := z
  cases rv
  exact ⟨.bl t, H', I', rfl, q'⟩
end
section
variable {prog : Program} {w : World} {A : Around} {E : Value → Shared → Prop} {s : Shared} {K : PySem.W.Frag} {x C f : Addr} {ox : Obj} {od : Option Obj} {y : Value}
theorem objNe_by (inK : K.In s.heap) (J : PySem.W.InstAt s.heap x ox C od) (hs : PySem.W.findIn K (.ref C) "__eq__" = some (some (.ref f))) (hf : PySem.W.isFn K (.ref f) = true) (hu : A.units < cLine) {Q : Fin → Shared → Prop}
    (hcall : wpAny (model prog w) A (call (.ref f) [.ref x, y]) (fun v s' => ∃ b, v = .bool b ∧ Q (.done (.ret (.bool (!b)))) s') E s) : wpAny (model prog w) A (Builtin.«object.__ne__» ⟨[.ref x, y], []⟩) Q E s := by
  unfold Builtin.«object.__ne__»
  repeat (first
    | with_reducible refine wpAny_cRoomFor hu ?_
    | (refine wpAny_bind (m := callSpecialIfBound? (.ref x) (Str.ofString "__eq__") [y]) (PySem.W.ifBound_K inK J hs hf (wpAny_mono hcall (fun r s' hr => by
          obtain ⟨b, rfl, hq⟩ := hr
          repeat (first | exact hq | exact wpAny_pure hq | exact wpAny_truthy_bool hq | (refine wpAny_bind (m := truthy (.bool _)) (wpAny_truthy_bool ?_)) | wp_step)) fun _ _ e => e)))
    | wp_step)
theorem bound_ne {args : List Value} {Q : Option Value → Shared → Prop} (inK : K.In s.heap) (J : PySem.W.InstAt s.heap x ox C od) (hs : PySem.W.findIn K (.ref C) "__ne__" = some (some (.builtin "object.__ne__")))
    (h : wpAny (model prog w) A (call (.builtin "object.__ne__") (.ref x :: args)) (fun v => Q (some v)) E s) : wpAny (model prog w) A (callSpecialIfBound? (.ref x) "__ne__" args) Q E s := by
  simp only [callSpecialIfBound?, bindSpecialIfBound?]
  refine wpAny_holding (wpAny_bind (wpAny_bind (wpAny_bind (J.type.here ((PySem.W.looks_findIn inK hs).here ?_)))))
  refine wpAny_bind (wpAny_askSetting (wpAny_ite ?_))
  have last : wpAny (model prog w) A (call (.builtin "object.__ne__") ([.ref x] ++ args) >>= fun v => pure (some v)) Q E s := wpAny_bind (wpAny_mono h (fun v s' h' => wpAny_pure h') fun _ _ h' => h')
  split
  · exact wpAny_bind (wpAny_of_eq (PySem.F.cmp_object.ne.bind _) (wpAny_pure (by exact last)))
  · exact wpAny_tryCatch (wpAny_bind (wpAny_of_eq (PySem.F.cmp_object.ne.bind _) (wpAny_pure (by exact last))))
theorem rc_neM {tb : Value} {Q : Value → Shared → Prop} (inK : K.In s.heap) (J : PySem.W.InstAt s.heap x ox C od) (hm : PySem.W.mroIn K C (.type "object") = some true) (hn : PySem.W.findIn K (.ref C) "__ne__" = some (some (.builtin "object.__ne__")))
    (hs : PySem.W.findIn K (.ref C) "__eq__" = some (some (.ref f))) (hf : PySem.W.isFn K (.ref f) = true) (hu : A.units < cLine) (hu1 : A.in1.units < cLine) (lk : PySem.W.Looks (model prog w) s.heap (typeOf y) tb) (nf : PySem.W.notFirst K C tb = true)
    (hcall : wpAny (model prog w) A.in1 (call (.ref f) [.ref x, y]) (fun v s' => ∃ b, v = .bool b ∧ Q (.bool (!b)) s') E s) : wpAny (model prog w) A (richCompare .NotEq (.ref x) y) Q E s := by
  have one : wpAny (model prog w) A (tryCompare (.ref x) "__ne__" y) (fun r s' => ∃ v, r = some v ∧ Q v s') E s := by
    unfold tryCompare
    refine wpAny_bind (bound_ne inK J hn (wpAny_call (codeAny_call_builtin PySem.F.cmp_object.ne.plain PySem.F.cmpEntry_ne
      (PySem.W.check_slot PySem.F.cmpKind_ne PySem.F.cmpSplit_ne (J.type.andThen (PySem.W.looks_mroIn inK hm)) (PySem.F.cmpArgs_ne _ _) (objNe_by inK J hs hf hu1 (wpAny_mono hcall (fun v s' hv => ?_) fun _ _ e => e))))))
    obtain ⟨b, rfl, q⟩ := hv
    first
      | exact ⟨b, rfl, wpAny_pure ⟨_, rfl, q⟩⟩
      | exact ⟨b, rfl, wpAny_pure (wpAny_pure ⟨_, rfl, q⟩)⟩
      | exact ⟨b, rfl, ⟨_, rfl, q⟩⟩
  unfold richCompare
  simp only [oneThing_ref]
  refine wpAny_holding (wpAny_bind (wpAny_cRoomFor hu ?_))
  refine wpAny_bind (J.type.here (wpAny_bind (lk.here ?_)))
  split
  · rename_i q
    have e : PySem.W.subIn K tb (.ref C) = some false := by
      rcases Bool.or_eq_true_iff.mp nf with e | e
      · rw [beq_iff_eq.mp e] at q
        simp at q
      · exact beq_iff_eq.mp e
    refine wpAny_bind ((PySem.W.looks_subIn inK e).here ?_)
    simp only [Bool.false_eq_true, if_false]
    refine wpAny_bind (wpAny_mono one (fun r s' z => ?_) fun _ _ e => e)
    obtain ⟨v, rfl, hq⟩ := z
    exact wpAny_pure hq
  · refine wpAny_bind (wpAny_pure ?_)
    simp only [Bool.false_eq_true, if_false]
    refine wpAny_bind (wpAny_mono one (fun r s' z => ?_) fun _ _ e => e)
    obtain ⟨v, rfl, hq⟩ := z
    exact wpAny_pure hq
end
section
variable {X : Cx} {C : Addr} {k : Nat} {ps : List Str} {sp : Sp}
/-- o != y, the class having no != of its own -/
def rNeM (K : PySem.W.Frag) (C : Addr) (sp : Sp) : R2 := fun x y H Q => ∃ a dx fs t, x = .ref a ∧ H a = some (.ins C dx fs) ∧ Oth K H C y t ∧ sp [.ref a, y] H (fun v H' => ∃ b, v = .bl b ∧ Q (.bl (!b)) H') E0
theorem op_neM (c : CalM X.prog X.w X.K X.mg X.base C "__eq__" k ps sp) (hn : PySem.W.findIn X.K (.ref C) "__ne__" = some (some (.builtin "object.__ne__"))) (hm : PySem.W.mroIn X.K C (.type "object") = some true) (hr : Room (k + 1) X.A) :
    OpR X (compareOp .NotEq) (rNeM X.K C sp) := by
  intro pins s σ H x y v u Q I rx ry h
  obtain ⟨f, fd, F, me, b, _⟩ := c
  obtain ⟨a, dx, fs, t, rfl, ea, o, q⟩ := h
  obtain rfl : v = Value.ref a := rx
  obtain ⟨mA, O, _⟩ := ins_get I.hok ea
  obtain ⟨od, J, _⟩ := O.look
  obtain ⟨lk, nf⟩ := o.looks (M := model X.prog X.w) I ry
  show wpAny _ _ (richCompare .NotEq (.ref a) u) _ _ _
  refine rc_neM I.kIn J hm hn me.at_ me.fn hr.units0 hr.in1.units0 lk nf (wpAny_mono (run_below F hr.in1 rfl b I (.cons (rel_ref _) (.cons ry .nil)) q) (fun r s' z => ?_) fun _ _ e => e)
  obtain ⟨v', H', I', rv, t, rfl, q'⟩ := z
  cases rv
  exact ⟨t, rfl, .bl (!t), H', I', rfl, q'⟩
/-! ### dicts of data compared -/
/-- the pairs ks, one by one, in the dict of the pairs ls -/
inductive HitsV (K : PySem.W.Frag) (H : Hp) (ls : List (Key × V)) : List (Key × V) → Bool → Prop
  | nil : HitsV K H ls [] true
  | miss {p : Key × V} {r : List (Key × V)} (e : valV ls p.1 = none) : HitsV K H ls (p :: r) false
  | hit {p : Key × V} {r : List (Key × V)} {y : V} {d e : PyData} {b : Bool} (at_ : valV ls p.1 = some y) (hd : Dp K H p.2 d) (he : Dp K H y e) (sd : SeqAt.shaped d = true) (se : SeqAt.shaped e = true) (more : HitsV K H ls r b) : HitsV K H ls (p :: r) (PyData.eqv d e && b)
theorem HitsV.raw {pins : List (Addr × Obj)} {σ : L2.St} {H : Hp} {s : Shared} (I : Inv X pins σ H s) (hu : X.A.in1.units + 64 < cLine) {ls : List (Key × V)} {vb : List (Key × Value)} (rb : KV ls vb) {ks : List (Key × V)} {r : Bool} (h : HitsV X.K H ls ks r) :
    ∀ {va : List (Key × Value)}, KV ks va → PySem.W.KeqHits X.A.in1 s vb va r := by
  induction h with
  | nil =>
    intro va ra
    unfold KV at ra
    cases ra
    exact .nil
  | @miss p r e =>
    intro va ra
    unfold KV at ra
    cases ra with
    | @cons _ q _ qs h t =>
      obtain ⟨k, v⟩ := q
      obtain ⟨h1, h2⟩ := h
      have h1' : p.1 = k := h1
      have rr := rb.val p.1
      rw [e, h1'] at rr
      refine .miss ?_
      cases c : valueAt vb k with
      | none => rfl
      | some z => rw [c] at rr; exact rr.elim
  | @hit p r y d e b at_ hd he sd se more ih =>
    intro va ra
    unfold KV at ra
    cases ra with
    | @cons _ q _ qs h t =>
      obtain ⟨k, v⟩ := q
      obtain ⟨h1, h2⟩ := h
      have h1' : p.1 = k := h1
      have rr := rb.val p.1
      rw [at_, h1'] at rr
      obtain ⟨z, hz, rz⟩ := RelO.some_of rr
      obtain ⟨as, r1⟩ := Dp.reads I d p.2 v hd h2
      obtain ⟨bs, r2⟩ := Dp.reads I e y z he rz
      exact .hit hz (PySem.W.keq_at r1 r2 sd se hu) (ih t)
def rEqDX (K : PySem.W.Frag) : R2 := fun x y H Q => ∃ a b ks ls r, x = .ref a ∧ y = .ref b ∧ H a = some (.dK ks) ∧ H b = some (.dK ls) ∧ (ks.length = ls.length → HitsV K H ls ks r) ∧ Q (.bl (ks.length == ls.length && r)) H
theorem op_eqDX (hu : X.A.units + 66 < cLine) : OpR X (compareOp .Eq) (rEqDX X.K) := by
  intro pins s σ H x y v u Q I rx ry h
  obtain ⟨a, b, ks, ls, r, rfl, rfl, ea, eb, hits, q⟩ := h
  obtain rfl : v = Value.ref a := rx
  obtain rfl : u = Value.ref b := ry
  obtain ⟨_, ya, va, ra, da⟩ := dk_of I.hok ea
  obtain ⟨_, yb, vb, rb, db⟩ := dk_of I.hok eb
  have l1 := ra.length
  have l2 := rb.length
  have u1 : X.A.in1.units + 64 < cLine := by
    have e : X.A.in1.units ≤ X.A.units + 1 := by
      show X.A.units + 1 ≤ _
      exact Nat.le_refl _
    omega
  refine PySem.W.keq_eq (knd := mixKind X.prog X.w) (r := r) ya yb da db (by omega) (fun e => (hits (by omega)).raw I u1 rb ra) (fin_bl I q ?_)
  rw [l1, l2]
/-! ### a star before a dict -/
def tStarD (te : TE) (t : TA) : TA := fun σ H Q => te σ H fun x H1 => ∃ p kvs, x = V.ref p ∧ H1 p = some (.dK kvs) ∧ t σ H1 fun ys H2 => Q ((kvs.map fun kv => kV kv.1) ++ ys) H2
theorem star_dict {pins : List (Addr × Obj)} {σ : L2.St} {H : Hp} {s : Shared} (hc : X.calm = true) {a : Addr} {kvs : List (Key × V)} {E : Value → Shared → Prop} {Q : List Value → Shared → Prop} (I : Inv X pins σ H s) (h : H a = some (.dK kvs)) (hQ : ∀ us s', Inv X pins σ H s' → Vals (kvs.map fun kv => kV kv.1) us → Q us s') :
    PySem.W.StarOf (model X.prog X.w) X.A E (.ref a) Q s := by
  obtain ⟨z, lo, vs, rel, dd⟩ := dk_of I.hok h
  obtain ⟨ep, hat⟩ := dd.dictAt
  have hT : s.TypeIs (.ref a) "dict" := dd.typeIs
  have z2 : vs.length ≤ sizeLine := by rw [← rel.length]; exact z
  have ek : (kvs.map fun kv => kV kv.1) = vs.map fun p => kV p.1 := by
    have e := congrArg (List.map kV) rel.keys
    rw [List.map_map, List.map_map] at e
    exact e
  have g : wpAny (model X.prog X.w) X.A (collect (.ref a)) Q E s := by
    refine PySem.W.kdu_collect (PySem.W.kdl_dict (knd := mixKind X.prog X.w) (kvs := vs) (ep := ep) lo) (I.ok.hd hc) hat z2 fun h' tk acc hk hacc => ?_
    have hv : Vals (vs.map fun p => kV p.1) acc.toList := keys_at (by rw [Array.length_toList]; exact hacc.1) fun j v e => hacc.2 j v (by rw [← Array.getElem?_toList]; exact e)
    exact hQ _ _ (I.kept (t' := tk) hk) (by rw [ek]; exact hv)
  unfold PySem.W.StarOf notIterableAtAll
  exact wpAny_bind (wpAny_specialOf hT PySem.F.slot_dict_iter.lookup (wpAny_pure ⟨rfl, g⟩))
theorem pa_starD {e : Expr} {es : List Expr} {te : TE} {t : TA} {p : Pos} (hc : X.calm = true) (he : PE X e te) (hr : PA X es t) (hs : starEach (.Starred e p :: es) X.env = (true, eval e X.env) :: starEach es X.env := by rfl) : PA X (.Starred e p :: es) (tStarD te t) := by
  refine ⟨fun pos pins s σ H Q I h => ?_⟩
  refine PySem.W.items_star (thn (he.run pins s σ H _ I h) fun v s1 ⟨y, H1, I1, ry, a, kvs, ey, hx, q⟩ => ?_) hs
  subst ey
  obtain rfl : v = Value.ref a := ry
  refine star_dict hc I1 hx fun us s2 I2 rv => ?_
  exact thn (hr.run pos pins s2 σ H1 _ I2 q) fun ws s3 ⟨vs, H3, I3, r3, q3⟩ => ⟨_, H3, I3, rv.append r3, q3⟩
end
end Gx

set_option maxRecDepth 100000
set_option maxHeartbeats 4000000
namespace Gx
open PySem PySem.Spec PyProof.Rows L2
/-! ### classes of the top: methods, properties, making -/
theorem fn_in {K : PySem.W.Frag} {f : Addr} {oc : Value} {od : Option Addr} {fd : FuncData} {sl : Array (Option Value)} (l : K.lookup f = some ⟨oc, od, .func fd, sl⟩) : PySem.W.fnIn K f = true := by
  unfold PySem.W.fnIn
  rw [l]
/-- the class at C has the def st as its property m -/
def PropD (K : PySem.W.Frag) (C : Addr) (m qual : Str) (st : Stmt) : Prop := ∃ (p f : Addr) (fd : FuncData), PropOf K C m p f ∧ Fun K m qual st f fd ∧ Binds K fd ["self"] []
/-- .. as its method m -/
def DefM (K : PySem.W.Frag) (C : Addr) (m qual : Str) (st : Stmt) (ps : List Str) : Prop := ∃ (f : Addr) (fd : FuncData), Fun K m qual st f fd ∧ Meth K C m f ∧ Binds K fd ps [] ∧ PySem.W.fnIn K f = true
/-- a property that keeps the promise sp -/
def CalP (P : Program) (w : World) (K : PySem.W.Frag) (mg : Str → Option Value) (base : Heap) (C : Addr) (m : Str) (k : Nat) (sp : Sp) : Prop :=
  ∃ (p f : Addr) (fd : FuncData), PropOf K C m p f ∧ FnOk P w K mg base CX0 k f fd ["self"] sp ∧ Binds K fd ["self"] []
/-- C(..) by its __init__'s promise -/
def CalI (P : Program) (w : World) (K : PySem.W.Frag) (mg : Str → Option Value) (base : Heap) (C : Addr) (k : Nat) (ps : List Str) (sp : Sp) : Prop :=
  ∃ (f : Addr) (fd : FuncData), Mk K C f ∧ FnOk P w K mg base CX0 k f fd ps sp ∧ Binds K fd ps []
section
variable {P : Program} {w : World} {K : PySem.W.Frag} {mg : Str → Option Value} {base : Heap} {C : Addr} {m qual : Str} {st : Stmt} {k : Nat} {ps : List Str} {sp : Sp}
theorem DefM.cal (d : DefM K C m qual st ps) (h : ∀ f fd, Fun K m qual st f fd → FnOk P w K mg base CX0 k f fd ps sp) : CalM P w K mg base C m k ps sp := by
  obtain ⟨f, fd, F, me, b, fi⟩ := d
  exact ⟨f, fd, h f fd F, me, b, fi⟩
theorem PropD.cal (d : PropD K C m qual st) (h : ∀ f fd, Fun K m qual st f fd → FnOk P w K mg base CX0 k f fd ["self"] sp) : CalP P w K mg base C m k sp := by
  obtain ⟨p, f, fd, pr, F, b⟩ := d
  exact ⟨p, f, fd, pr, h f fd F, b⟩
theorem CalP.mono {j : Nat} (c : CalP P w K mg base C m j sp) (h : j ≤ k) : CalP P w K mg base C m k sp := by
  obtain ⟨p, f, fd, pr, F, b⟩ := c
  exact ⟨p, f, fd, pr, F.mono h, b⟩
theorem CalI.mono {j : Nat} (c : CalI P w K mg base C j ps sp) (h : j ≤ k) : CalI P w K mg base C k ps sp := by
  obtain ⟨f, fd, M, F, b⟩ := c
  exact ⟨f, fd, M, F.mono h, b⟩
end
section
variable {X : Cx} {C : Addr} {m x : Str} {k : Nat} {ps : List Str} {sp : Sp} {ta : TE} {t : TA} {o e : Expr} {es : List Expr} {pos apos p : Pos}
/-- o.m, a property -/
def tPropC (C : Addr) (sp : Sp) (ta : TE) : TE := fun σ H Q => ta σ H fun x H1 => ∃ a dx fs, x = .ref a ∧ H1 a = some (.ins C dx fs) ∧ sp [.ref a] H1 Q E0
theorem pe_propC (he : PE X o ta) (cl : Cls X.K C) (c : CalP X.prog X.w X.K X.mg X.base C m k sp) (hr : Room (k + 1) X.A) (hab : attributeBase o m X.env (eval o X.env) = eval o X.env := by rfl) : PE X (.Attribute o m pos) (tPropC C sp ta) := by
  obtain ⟨p, f, fd, pr, F, b⟩ := c
  have h := pe_prop (pos := pos) (E := E0) he cl pr F hr b .nil pass0 hab
  exact h
/-- o.m(..) -/
def tMethC (C : Addr) (m : Str) (sp : Sp) (ta : TE) (t : TA) : TE := fun σ H Q => ta σ H fun x H1 => ∃ a dx fs, x = .ref a ∧ H1 a = some (.ins C dx fs) ∧ fs.lookup m = none ∧ t σ H1 fun vs H2 => sp (x :: vs) H2 Q E0
theorem tMethC_eq : tMeth C m sp [] E0 ta t = tMethC C m sp ta t := by
  funext σ H Q
  show ta σ H _ = ta σ H _
  congr 1
  funext x H1
  simp only [List.append_nil]
theorem pe_methC {pl : Sem Bool} (he : PE X o ta) (cl : Cls X.K C) (c : CalM X.prog X.w X.K X.mg X.base C m k ps sp) (hr : Room k X.A) (ha : PA X (e :: es) t)
    (hst : starEach (e :: es) X.env = (false, eval e X.env) :: starEach es X.env := by rfl) (hpl : (backTo pos (starEach es X.env)).any (·.1) = false := by rfl)
    (ht : eval (.Call (.Attribute o m apos) (e :: es) [] pos) X.env = (do
      let ov ← eval o X.env
      standAt apos.atName
      let (f, first) ← holding [ov] (getMethod ov m pl)
      callWith pos f first (backTo pos (starEach (e :: es) X.env)) (backToKw pos (keywordEach [] X.env))) := by rfl) :
    PE X (.Call (.Attribute o m apos) (e :: es) [] pos) (tMethC C m sp ta t) := by
  obtain ⟨f, fd, F, me, b, fi⟩ := c
  rw [← tMethC_eq]
  exact pe_meth (pl := pl) he cl me F hr b .nil pass0 ha hst hpl ht
/-- C(..) -/
def tMakeC (C : Addr) (sp : Sp) (t : TA) : TE := fun σ H Q => t σ H fun vs H1 => ∀ x dx, H1 x = none → H1 dx = none → dx ≠ x →
  sp (.ref x :: vs) (upd (upd H1 dx (.own x)) x (.ins C dx [])) (fun v H2 => v = .non ∧ Q (.ref x) H2) E0
theorem tMakeC_eq : tMake C sp [] E0 t = tMakeC C sp t := by
  funext σ H Q
  show t σ H _ = t σ H _
  congr 1
  funext vs H1
  simp only [List.append_nil]
theorem pe_makeC (c : CalI X.prog X.w X.K X.mg X.base C k ps sp) (hr : Room (k + 1) X.A) (hg : Gl X x) (hm : X.mg x = some (.ref C)) (ha : PA X (e :: es) t)
    (hdb : (x == ("__debug__" : Str)) = false := by decide) (he : starEach (e :: es) X.env = (false, eval e X.env) :: starEach es X.env := by rfl) (hpl : (backTo pos (starEach es X.env)).any (·.1) = false := by rfl) :
    PE X (.Call (.Name x p) (e :: es) [] pos) (tMakeC C sp t) := by
  obtain ⟨f, fd, M, F, b⟩ := c
  rw [← tMakeC_eq]
  exact pe_make M F hr hg hm b .nil pass0 ha hdb he hpl
end
/-! ### dicts walked under their lock -/
theorem same_lock {H : Hp} {d : Addr} {u : HO} {o : Obj} (e : H d = some u) {b : Addr} {ob : HO} (n : b ≠ d) (h : H b = some ob) : upd H d (.frz o u) b = some ob := by
  rw [upd_ne n]
  exact h
theorem same_unlock {H H' : Hp} {d : Addr} {u : HO} {o : Obj} (e : H d = some u) (s : Same (upd H d (.frz o u)) H') : Same H (upd H' d u) := by
  intro b ob h
  by_cases n : b = d
  · subst n
    rw [upd_same]
    exact e.symm.trans h
  · rw [upd_ne n]
    exact s b ob (by rw [upd_ne n]; exact h)
end Gx

set_option maxRecDepth 100000
set_option maxHeartbeats 4000000
namespace Gx
open PySem PySem.Spec PyProof.Rows L2
/-! ### sets of texts: set(list), sorted(set) -/
/-- a member's text -/
def txE (m : Int × Value) : Str :=
  match m.2 with
  | .str z _ => z
  | _ => Str.empty
def TxE (P : Program) (w : World) (m : Int × Value) : Prop := ∃ z tk, m.2 = Value.str z tk ∧ m.1 = (PySem.strKind P w).hash z
/-- at a stands the set of the texts of L, some of which may be there twice; its table can be walked -/
def SetX (P : Program) (w : World) (h : Heap) (a : Addr) (L : List Str) : Prop :=
  ∃ ob ms ep tb, h.get? a = some ob ∧ ob.ExactSet ∧ ob.data = .set ms ep tb ∧ (∀ m ∈ ms.toList, TxE P w m) ∧ (ms.toList.map txE).Nodup ∧ (∀ z, z ∈ L ↔ z ∈ ms.toList.map txE) ∧
    ms.size < scanBound ∧ tb.fits ms.size = true ∧ ms.size ≤ L.length ∧ Ris tb.place.toList ∧ (w.params.followText "set-order" = true ∨ tb.led = true)
section
variable {P : Program} {w : World} {h h' : Heap} {a : Addr} {L : List Str}
theorem SetX.at (R : SetX P w h a L) (k : ∀ o, h.get? a = some o → h'.get? a = some o) : SetX P w h' a L := by
  obtain ⟨ob, ms, ep, tb, here, more⟩ := R
  exact ⟨ob, ms, ep, tb, k ob here, more⟩
theorem SetX.same {L' : List Str} (R : SetX P w h a L) (e : ∀ z, z ∈ L' ↔ z ∈ L) (hl : L.length ≤ L'.length) : SetX P w h a L' := by
  obtain ⟨ob, ms, ep, tb, here, ex, dt, gd, nd, mem, bd, ft, le, more⟩ := R
  exact ⟨ob, ms, ep, tb, here, ex, dt, gd, nd, fun z => (e z).trans (mem z), bd, ft, Nat.le_trans le hl, more⟩
theorem tx_elems {l : List (Int × Value)} (gd : ∀ m ∈ l, TxE P w m) : ElemsOf (PySem.strKind P w) l := by
  intro m hm
  obtain ⟨z, tk, e1, e2⟩ := gd m hm
  refine ⟨⟨z, ?_, e2⟩, ?_⟩
  · rw [e1]
    exact strKind_is P w z tk
  · rw [e1]
    rfl
theorem tx_is {m : Int × Value} (gd : TxE P w m) (z : Str) : (PySem.strKind P w).is z m.2 = true ↔ txE m = z := by
  obtain ⟨y, tk, e1, _⟩ := gd
  have e3 : txE m = y := by unfold txE; rw [e1]
  rw [e3, e1]
  constructor
  · intro q
    obtain ⟨t, q⟩ := Value.isStrOf_shape (show Value.isStrOf z (.str y tk) = true from q)
    cases q
    rfl
  · rintro rfl
    exact strKind_is P w y tk
theorem tx_mem {l : List (Int × Value)} (gd : ∀ m ∈ l, TxE P w m) (z : Str) : z ∈ l.map txE ↔ ∃ m ∈ l, (PySem.strKind P w).is z m.2 = true := by
  rw [List.mem_map]
  exact ⟨fun ⟨m, hm, q⟩ => ⟨m, hm, (tx_is (gd m hm) z).2 q⟩, fun ⟨m, hm, q⟩ => ⟨m, hm, (tx_is (gd m hm) z).1 q⟩⟩
end
section
variable {P : Program} {w : World} {A : Around} {E : Value → Shared → Prop} {s : Shared} {a : Addr} {L : List Str}
/-! ### one text more -/
theorem setX_tail {g : Bool → Sem Unit} (hg : ∀ (b : Bool) (s₁ : Shared) (Q' : Unit → Shared → Prop), Q' () s₁ → wpAny (model P w) A (g b) Q' E s₁)
    {ob : Obj} {ms : Array (Int × Value)} {ep : Nat} {tb : SetTable} (here : s.heap.get? a = some ob) (ex : ob.ExactSet) (dt : ob.data = .set ms ep tb)
    {ms1 : Array (Int × Value)} {tb2 : SetTable} {L' : List Str} (g1 : ∀ m ∈ ms1.toList, TxE P w m) (nd1 : (ms1.toList.map txE).Nodup) (m1 : ∀ z, z ∈ L' ↔ z ∈ ms1.toList.map txE)
    (bd1 : ms1.size < scanBound) (ft2 : tb2.fits ms1.size = true) (le1 : ms1.size ≤ L'.length) (ri : Ris tb2.place.toList) (ld : w.params.followText "set-order" = true ∨ tb2.led = true) {dummy : Bool} {R : Option Bool → Shared → Prop}
    (hR : ∀ h', Heap.SameBut a s.heap h' → SetX P w h' a L' → R (some true) { s with heap := h' }) :
    wpAny (model P w) A (do
        storeSet a ms1 tb2
        if (!dummy && tb2.tooFull) = true then do
            g (relayAll tb2 ms1 (SetTable.grown ms1.size)).2.2
            storeSet a (relayAll tb2 ms1 (SetTable.grown ms1.size)).1 (relayAll tb2 ms1 (SetTable.grown ms1.size)).2.1
            pure (some true)
          else pure (some true)) R E s := by
  refine wpAny_bind (wpAny_storeSet_of here dt ?_ (fits_of_scanBound bd1))
  have at1 := store_at (es' := ms1) (t' := tb2) here dt
  have but1 := Heap.SameBut.update s.heap a (Obj.putSet ms1 tb2)
  split
  · have perm2 := relayAll_perm tb2 ms1 (SetTable.grown ms1.size)
    have ft3 := relayAll_fits tb2 ms1 (SetTable.grown ms1.size)
    have ri3 := relayAll_ris tb2 ms1 (SetTable.grown ms1.size)
    have ld3 := relayAll_led tb2 ms1 (SetTable.grown ms1.size)
    generalize relayAll tb2 ms1 (SetTable.grown ms1.size) = laid at perm2 ft3 ri3 ld3 ⊢
    obtain ⟨ms2, tb3, gave⟩ := laid
    dsimp only at perm2 ft3 ri3 ld3 ⊢
    have sz2 : ms2.size = ms1.size := by rw [← Array.length_toList, perm2.length_eq, Array.length_toList]
    have bd2 : ms2.size < scanBound := sz2 ▸ bd1
    refine wpAny_bind (hg _ _ _ ?_)
    refine wpAny_bind (wpAny_storeSet_of at1 rfl ?_ (fits_of_scanBound bd2))
    have at2 := store_at (es' := ms2) (t' := tb3) at1 rfl
    refine wpAny_pure (hR _ (but1.trans (Heap.SameBut.update _ a _)) ⟨_, ms2, _, tb3, at2, ex, rfl, fun m hm => g1 m (perm2.mem_iff.mp hm), (perm2.map txE).nodup_iff.mpr nd1, fun z => (m1 z).trans (perm2.map txE).mem_iff.symm, bd2, ?_, by rw [sz2]; exact le1, ri3, ?_⟩)
    · exact ft3
    · exact ld.imp id fun z => by rw [ld3]; exact z
  · exact wpAny_pure (hR _ but1 ⟨_, ms1, _, tb2, at1, ex, rfl, g1, nd1, m1, bd1, ft2, le1, ri, ld⟩)
theorem setX_add {z : Str} {tk : Tok} {Q : Bool → Shared → Prop} (R : SetX P w s.heap a L) (room : L.length + 1 < scanBound)
    (hQ : ∀ h' b, Heap.SameBut a s.heap h' → SetX P w h' a (L ++ [z]) → Q b { s with heap := h' }) :
    wpAny (model P w) A (setAddHashed a (.str z tk) ((PySem.strKind P w).hash z)) Q E s := by
  obtain ⟨ob, ms, ep, tb, here, ex, dt, gd, nd, mem, bd, ft, le, ri, ld⟩ := R
  have isz : (PySem.strKind P w).is z (.str z tk) = true := strKind_is P w z tk
  have scz : (Value.str z tk).scannable = true := rfl
  have els : ElemsOf (PySem.strKind P w) ms.toList := tx_elems gd
  unfold setAddHashed setAddHashedIn
  refine wpAny_holding (wpAny_bind (wpAny_setState_of here dt ft ?_))
  dsimp only
  rw [byScan_of scz bd els]
  simp only [↓reduceIte]
  unfold setAddByScan
  refine wpAny_bind ?_
  refine wpAny_bind (wpAny_rule ?_)
  refine wpAny_bind (wpAny_setScan_of isz here dt ft els ?_)
  cases hfi : List.findIdx? (fun m => (PySem.strKind P w).is z m.2) ms.toList with
  | some j =>
    dsimp only
    obtain ⟨hj, pj, _⟩ := List.findIdx?_eq_some_iff_getElem.mp hfi
    have inL : z ∈ L := (mem z).2 ((tx_mem (P := P) (w := w) gd z).2 ⟨ms.toList[j], List.getElem_mem hj, pj⟩)
    refine wpAny_pure (wpAny_pure ?_)
    refine hQ s.heap _ (Heap.SameBut.refl a s.heap) ⟨ob, ms, ep, tb, here, ex, dt, gd, nd, fun y => ?_, bd, ft, by rw [List.length_append]; omega, ri, ld⟩
    rw [← mem y, List.mem_append, List.mem_singleton]
    exact ⟨fun q => q.elim id fun e => e ▸ inL, .inl⟩
  | none =>
    dsimp only
    have notIn : z ∉ ms.toList.map txE := by
      intro q
      obtain ⟨m, hm, q⟩ := (tx_mem (P := P) (w := w) gd z).1 q
      have c := List.findIdx?_eq_none_iff.mp hfi m hm
      rw [q] at c
      cases c
    have way : ∀ (b : Bool) {s₁ : Shared} {Q' : Unit → Shared → Prop}, Q' () s₁ → wpAny (model P w) A (match b with | true => rule "set.scan.the-table-gave-way" | false => pure ()) Q' E s₁ := by
      intro b s₁ Q' q
      cases b
      · exact wpAny_pure q
      · exact wpAny_rule q
    have perm1 := layNew_perm tb ms ((PySem.strKind P w).hash z) (.str z tk)
    have ft1 := layNew_fits tb ms ((PySem.strKind P w).hash z) (.str z tk)
    have ri1 := layNew_ris tb ms ((PySem.strKind P w).hash z) (.str z tk) ri
    have ld1 := layNew_led tb ms ((PySem.strKind P w).hash z) (.str z tk)
    generalize layNew tb ms ((PySem.strKind P w).hash z) (.str z tk) = laid at perm1 ft1 ri1 ld1 ⊢
    obtain ⟨ms1, tb1, dummy, gave⟩ := laid
    dsimp only at perm1 ft1 ri1 ld1 ⊢
    rw [Array.toList_push] at perm1
    have permC : ms1.toList.Perm (((PySem.strKind P w).hash z, Value.str z tk) :: ms.toList) := perm1.trans (List.perm_append_singleton _ _)
    have permK : (ms1.toList.map txE).Perm (z :: ms.toList.map txE) := permC.map txE
    have g1 : ∀ m ∈ ms1.toList, TxE P w m := by
      intro m hm
      rcases List.mem_cons.mp (permC.mem_iff.mp hm) with q | q
      · rw [q]
        exact ⟨z, tk, rfl, rfl⟩
      · exact gd m q
    have nd1 : (ms1.toList.map txE).Nodup := permK.nodup_iff.mpr (List.nodup_cons.mpr ⟨notIn, nd⟩)
    have m1 : ∀ y, y ∈ L ++ [z] ↔ y ∈ ms1.toList.map txE := by
      intro y
      rw [List.mem_append, List.mem_singleton, mem y, permK.mem_iff, List.mem_cons]
      exact Or.comm
    have sz1 : ms1.size = ms.size + 1 := by rw [← Array.length_toList, permC.length_eq, List.length_cons, Array.length_toList]
    have bd1 : ms1.size < scanBound := by omega
    have le1 : ms1.size ≤ (L ++ [z]).length := by rw [List.length_append, List.length_singleton]; omega
    have led1 : w.params.followText "set-order" = true ∨ tb1.led = true := ld.imp id fun q => by rw [ld1]; exact q
    refine wpAny_bind (way _ ?_)
    split
    · refine wpAny_bind ?_
      rw [hashByValue_scannable 8 scz]
      refine wpAny_pure ?_
      refine setX_tail ?_ here ex dt g1 nd1 m1 bd1 ?_ le1 ?_ ?_ ?_
      · intro b s₁ Q' q
        cases b <;> first | exact wpAny_pure q | exact wpAny_rule q
      · first | (split <;> first | exact ft1 | exact SetTable.fits_plain_off ft1) | exact ft1
      · first | (split <;> exact ri1) | exact ri1
      · first | (split <;> exact led1) | exact led1
      · intro h' sb r
        dsimp only
        exact wpAny_pure (hQ h' _ sb r)
    · refine wpAny_bind (wpAny_pure ?_)
      simp only [↓reduceIte]
      refine setX_tail ?_ here ex dt g1 nd1 m1 bd1 ft1 le1 ri1 led1 ?_
      · intro b s₁ Q' q
        cases b <;> first | exact wpAny_pure q | exact wpAny_rule q
      · intro h' sb r
        dsimp only
        exact wpAny_pure (hQ h' _ sb r)
end
/-- the texts of a list of values, by place -/
theorem texts_at : ∀ {us : List Value} {xs : List Str}, StrsAre us xs → ∀ (i : Nat) (v : Value), us[i]? = some v → ∃ x t, xs[i]? = some x ∧ v = .str x t
  | _, _, .nil, i, v, h => by cases h
  | _, _, .cons n t r, 0, v, h => by
    cases h
    exact ⟨n, t, rfl, rfl⟩
  | _, _, .cons n t r, i + 1, v, h => texts_at r i v h
section
variable {prog : Program} {w : World} {A : Around} {R : Result → Shared → Prop} {I : Addr} {fp wr : List Addr} {G : Array GenState → Array GenState → Prop} {n : Nat} {P : Nat → Value → Prop} {St : Nat → Shared → Prop}
/-- all texts of an iterator put into the set at S -/
theorem setX_loop (W : WalksS prog w A.in1 I fp wr G n P St) (S : Addr) (off : S ∉ fp) (xs : List Str) (len : xs.length = n) (few : n + 1 < scanBound)
    (val : ∀ i v, P i v → ∃ x t, xs[i]? = some x ∧ v = .str x t) : ∀ (k i : Nat) (s : Shared), n - i = k → i ≤ n → St i s → SetX prog w s.heap S (xs.take i) →
      (∀ s', Moved (S :: wr) G s s' → SetX prog w s'.heap S xs → R (.ok (.ret .none)) s') →
      codeAny (model prog w) A (.builtin "set.update.loop" ⟨[.ref S, .ref I], []⟩) R s := by
  have offW : S ∉ wr := fun z => off (W.sub _ z)
  have sub : ∀ b ∈ wr, b ∈ S :: wr := fun b hb => List.mem_cons_of_mem _ hb
  intro k
  induction k with
  | zero =>
    intro i s hk hi st hS hR
    obtain rfl : i = n := by omega
    rw [← len, List.take_length] at hS
    refine codeAny_builtin PyProof.Rows.F.entry_set_update_loop ?_
    rw [Around.under_plainId PyProof.Rows.F.plain_set_update_loop _]
    show wpAny _ A.in1 (pyNext (.ref I) >>= _) _ _ s
    refine wpAny_bind (W.done s _ _ st fun s' mv => ?_)
    show wpAny _ A.in1 (ret Value.none) _ _ s'
    exact wpAny_pure (hR s' (mv.mono sub) (hS.at fun o e => mv.heap S _ offW e))
  | succ k ih =>
    intro i s hk hi st hS hR
    have lt : i < n := by omega
    refine codeAny_builtin PyProof.Rows.F.entry_set_update_loop ?_
    rw [Around.under_plainId PyProof.Rows.F.plain_set_update_loop _]
    show wpAny _ A.in1 (pyNext (.ref I) >>= _) _ _ s
    refine wpAny_bind (W.item i s _ _ lt st fun v s' hP st' mv => ?_)
    obtain ⟨x, t, hx, rfl⟩ := val i v hP
    have hS' : SetX prog w s'.heap S (xs.take i) := hS.at fun o e => mv.heap S _ offW e
    show wpAny _ A.in1 (holding [Value.str x t] (setAdd S (.str x t)) >>= _) _ _ s'
    refine wpAny_bind (wpAny_holding ?_)
    unfold setAdd
    refine wpAny_holding ?_
    refine wpAny_bind ((PySem.strKind prog w).pyHash (k := x) (strKind_is _ _ _ _) ?_)
    refine setX_add (s := { s' with toks := s'.toks + 1 }) hS' (by rw [List.length_take]; omega) fun h' b sb hS2 => ?_
    have hS3 : SetX prog w h' S (xs.take (i + 1)) := by
      have e : xs.take (i + 1) = xs.take i ++ [x] := by rw [List.take_add_one, hx]; rfl
      rw [e]
      exact hS2
    refine wpAny_pure ⟨plainId_quiet PyProof.Rows.F.plain_set_update_loop _, ih (i + 1) _ (by omega) lt (W.frame _ s' _ _ st' (Nat.le_succ _) fun b hb o e => ?_) hS3 fun s'' mv2 hS4 => ?_⟩
    · rw [sb.2 b (fun z : b = S => off (z ▸ hb))]
      exact e
    · refine hR s'' (Moved.trans W.gtrans ((mv.mono sub).then_heap (Nat.le_succ _) fun b o hb e => ?_) mv2) hS4
      rw [sb.2 b (fun z : b = S => hb (by rw [z]; exact List.mem_cons_self))]
      exact e
end
section
variable {P : Program} {w : World} {A : Around} {E : Value → Shared → Prop} {s : Shared}
theorem code_setX {x : Value} {Q₁ : Value → Shared → Prop}
    (h : Q₁ (.ref s.heap.objs.size) { s with heap := s.heap.push { cls := .type "set", dict := none, data := .set #[] 0 (.fresh 0 0 (!w.params.followText "set-order")) } }) :
    codeAny (model P w) A (.call (.builtin "set.__new__") ⟨[.type "set", x], []⟩) (wants Q₁ E) s := by
  refine codeAny_of_tree ?_
  show wpAny _ A.in1 (do checkBuiltinCall "set.__new__" ⟨[.type "set", x], []⟩; again (.builtin "set.__new__" ⟨[.type "set", x], []⟩)) _ _ s
  refine wpAny_bind (wpAny_of_eq (PySem.F.newCall_set_1 x) (wpAny_pure ⟨plainId_quiet F.plain_set_new _, codeAny_builtin F.entry_set_new ?_⟩))
  rw [Around.under_plainId F.plain_set_new _]
  unfold Builtin.«set.__new__» Builtin.Frozenset.newClass
  have hsub := sub_set_self
  obtain ⟨hp, g, d, tk, os⟩ := s
  dsimp only
  wp_walk
  refine wpAny_askSetting (wpAny_pure ?_)
  dsimp only
  simp only [newObj]
  exact wpAny_bind (wpAny_alloc (wpAny_pure (wpAny_pure h)))
theorem setX_fresh {h : Heap} : SetX P w (h.push { cls := .type "set", dict := none, data := .set #[] 0 (.fresh 0 0 (!w.params.followText "set-order")) }) h.objs.size [] := by
  refine ⟨_, #[], 0, _, Heap.get?_push_size _ rfl, ⟨rfl, rfl, rfl⟩, rfl, (fun m hm => by simp at hm), (by simp), (fun z => by simp), (by decide), (by rfl), (Nat.zero_le _), List.Pairwise.nil, ?_⟩
  show _ ∨ (!w.params.followText "set-order") = true
  cases w.params.followText "set-order"
  · exact .inr rfl
  · exact .inl rfl
set_option maxHeartbeats 6400000 in
/-- set(list of texts) -/
theorem call_setX {l : Addr} {items : Array Value} {xs : List Str} {Q : Value → Shared → Prop} (hh : A.handled = none) (hl : s.heap.IsList l items) (hi : StrsAre items.toList xs) (few : xs.length + 1 < scanBound)
    (h : ∀ (h' : Heap) (tk : Nat), SetX P w h' s.heap.objs.size xs → (∀ b o, b < s.heap.objs.size → s.heap.get? b = some o → h'.get? b = some o) → Q (.ref s.heap.objs.size) { s with heap := h', toks := tk }) :
    wpAny (model P w) A (call (.type "set") [.ref l]) Q E s := by
  obtain ⟨c, tl, hmro⟩ := PySem.F.called_set.mro
  have hmade := PySem.F.called_set.made
  have hsub := PySem.F.called_set.sub
  refine wpAny_call (codeAny_of_tree ?_)
  show wpAny _ _ (callAny (.type "set") _) _ _ _
  refine wpAny_pure ⟨Code.quiet_builtin _ (by decide +kernel), codeAny_builtin PySem.F.entry_type_call ?_⟩
  rw [Around.under_plain (weight_type_call_type "set" [.ref l] []) rfl]
  have h1 := PySem.F.called_set.notType
  have h2 := PySem.F.called_set.canCreate
  have hct := PySem.F.typeCall_set_1 (.ref l)
  repeat (any_goals (first | assumption | wp_step))
  have R0 : SetX P w (s.heap.push { cls := .type "set", dict := none, data := .set #[] 0 (.fresh 0 0 (!w.params.followText "set-order")) }) s.heap.objs.size [] := setX_fresh
  refine codeAny_mono (code_setX (x := .ref l) (E := E) (Q₁ := fun obj s₁ => obj = .ref s.heap.objs.size ∧ s₁ = { s with heap := s.heap.push { cls := .type "set", dict := none, data := .set #[] 0 (.fresh 0 0 (!w.params.followText "set-order")) } }) ⟨rfl, rfl⟩) fun r s₁ hr => ?_
  have hS : (s.heap.push { cls := .type "set", dict := none, data := .set #[] 0 (.fresh 0 0 (!w.params.followText "set-order")) }).get? s.heap.objs.size = some { cls := .type "set", dict := none, data := .set #[] 0 (.fresh 0 0 (!w.params.followText "set-order")) } := Heap.get?_push_size _ rfl
  cases r with
  | error e => exact hr
  | ok fl =>
    cases fl with
    | ret obj =>
      obtain ⟨rfl, rfl⟩ := hr
      have hT : Shared.TypeIs { s with heap := s.heap.push ({ cls := .type "set", dict := none, data := .set #[] 0 (.fresh 0 0 (!w.params.followText "set-order")) } : Obj) } (.ref s.heap.objs.size) "set" := ⟨_, hS, rfl⟩
      have hli := PySem.F.called_set.init.lookup
      have hbi := PySem.F.called_set.init.bind (.ref s.heap.objs.size)
      repeat (any_goals (first | assumption | wp_step))
      refine codeAny_mono (codeAny_call_builtin (R := wants (fun r s₂ => r = .none ∧ ∃ h' tk, s₂ = { s with heap := h', toks := tk } ∧ SetX P w h' s.heap.objs.size xs ∧
          (∀ b o, b < s.heap.objs.size → s.heap.get? b = some o → h'.get? b = some o)) E) PySem.F.called_set.init.plain PySem.F.entry_set_init (check_set_init_1 hT ?_)) fun r₂ s₂ hr₂ => ?_
      · obtain ⟨ol, hol, hcl, nl, hdl⟩ := hl
        obtain ⟨ocls, odict, odata, oslots⟩ := ol
        simp only at hcl hdl
        subst hcl; subst hdl
        have hol' : (s.heap.push ({ cls := .type "set", dict := none, data := .set #[] 0 (.fresh 0 0 (!w.params.followText "set-order")) } : Obj)).get? l = some { cls := .type "list", dict := odict, data := .seq items nl, slots := oslots } := Heap.get?_push_of_some _ hol
        have hsls := PySem.F.sub_list_set
        have hslf := PySem.F.sub_list_frozenset
        have hne : (Value.type "list" == Value.type "dict") = false := by decide
        have hl1 : (s.heap.push ({ cls := .type "set", dict := none, data := .set #[] 0 (.fresh 0 0 (!w.params.followText "set-order")) } : Obj)).IsList l items := ⟨_, hol', rfl, nl, rfl⟩
        unfold Builtin.«set.__init__» noKeywords Builtin.Frozenset.updateFrom
        generalize hPI : pyIter = PI
        wp_walk
        subst hPI
        refine wpAny_pyIter_list hl1 ?_
        refine wpAny_bind (wpAny_runValue ?_)
        have hlS : l < s.heap.objs.size := Heap.lt_size hol
        have hh3 : A.in1.in1.in1.handled = none := by simp [hh]
        have szp : (s.heap.push ({ cls := .type "set", dict := none, data := .set #[] 0 (.fresh 0 0 (!w.params.followText "set-order")) } : Obj)).objs.size = s.heap.objs.size + 1 := Heap.size_push _ _
        have hneI : l ≠ (s.heap.push ({ cls := .type "set", dict := none, data := .set #[] 0 (.fresh 0 0 (!w.params.followText "set-order")) } : Obj)).objs.size := by rw [szp]; exact Nat.ne_of_lt (Nat.lt_succ_of_lt hlS)
        have hSf : s.heap.objs.size ∉ [(s.heap.push ({ cls := .type "set", dict := none, data := .set #[] 0 (.fresh 0 0 (!w.params.followText "set-order")) } : Obj)).objs.size, l] := by
          rw [szp]
          simp only [List.mem_cons, List.not_mem_nil, or_false, not_or]
          exact ⟨Nat.ne_of_lt (Nat.lt_succ_self _), Nat.ne_of_gt hlS⟩
        have hsz : xs.length = items.size := by rw [← StrsAre.len_eq hi, Array.length_toList]
        refine setX_loop ((Walks.list hh3 _ l hneI items).toS) s.heap.objs.size hSf xs hsz (by rw [← hsz]; exact few) (fun i v hv => texts_at hi i v (by rw [Array.getElem?_toList]; exact hv))
          (items.size - 0) 0 _ (by omega) (Nat.zero_le _) ⟨⟨_, Heap.get?_push_size _ rfl, rfl, rfl⟩, (hl1.push _)⟩ ?hS0 ?hR
        case hS0 => exact R0.at fun o e => Heap.get?_push_of_some _ e
        case hR =>
          intro s' hm hS'
          obtain ⟨h', g', d', tk', os'⟩ := s'
          obtain rfl : g' = s.gens := hm.gens
          obtain rfl : d' = s.drawn := hm.drawn
          obtain rfl : os' = s.os := hm.os
          show wpAny _ _ _ _ _ _
          refine wpAny_pure ?_
          show wpAny _ _ (ret Value.none) _ _ _
          refine wpAny_pure ⟨rfl, h', tk', rfl, hS', fun b o hb e => hm.heap b o ?_ (Heap.get?_push_of_some _ (Heap.get?_push_of_some _ e))⟩
          rw [szp]
          simp only [List.mem_cons, List.not_mem_nil, or_false, not_or]
          exact ⟨Nat.ne_of_lt hb, Nat.ne_of_lt (Nat.lt_succ_of_lt hb)⟩
      · cases r₂ with
        | error e => exact hr₂
        | ok fl₂ =>
          cases fl₂ with
          | ret r =>
            obtain ⟨rfl, h', tk, rfl, hS', hk'⟩ := hr₂
            repeat (any_goals (first | assumption | wp_step))
            exact h _ _ hS' hk'
          | _ => exact hr₂.elim
    | _ => exact hr.elim
theorem strs_of : ∀ (l : List Value), (∀ v ∈ l, ∃ z tk, v = Value.str z tk) → ∃ xs, StrsAre l xs ∧ xs = l.map fun v => txE (0, v)
  | [], _ => ⟨[], .nil, rfl⟩
  | v :: l, h => by
    obtain ⟨z, tk, rfl⟩ := h v List.mem_cons_self
    obtain ⟨xs, h1, rfl⟩ := strs_of l fun u hu => h u (List.mem_cons_of_mem _ hu)
    exact ⟨_, .cons z tk h1, rfl⟩
/-- sorted(set of texts) -/
theorem sorted_setX {a : Addr} {L : List Str} {Q : Value → Shared → Prop} (R : SetX P w s.heap a L) (hh : A.handled = none)
    (hQ : ∀ s' p (out : Array Value) (c : Nat) (ys : List Str), (∀ b o, s.heap.get? b = some o → s'.heap.get? b = some o) → s'.gens = s.gens → s'.os = s.os → s.heap.objs.size ≤ p →
      s'.heap.get? p = some (seqObj "list" out c) → StrsAre out.toList ys → sortedS ys = true → ys.Nodup → (∀ z, z ∈ ys ↔ z ∈ L) → Q (.ref p) s') :
    wpAny (model P w) A (call (.builtin "sorted") [.ref a]) Q E s := by
  obtain ⟨ob, ms, ep, tb, here, ex, dt, gd, nd, mem, bd, ft, le, ri, ld⟩ := R
  refine Calls.call_function_entry kind_sorted plain_sorted entry_sorted (args_sorted1 _) ?_
  unfold Builtin.«sorted»
  refine wpAny_bind (m := checkCount "sorted" 1 1 _) (wpAny_pure ?_)
  refine wpAny_bind (collect_set (A := A.in1) hh ⟨ob, here, ex.1, dt⟩ ft bd ri ld fun s1 vs k1 hz g1 o1 pm => ?_)
  have lenV : vs.length = ms.size := by rw [pm.length_eq, List.length_map, Array.length_toList]
  obtain ⟨xs, hS, exs⟩ := strs_of vs fun v hv => by
    obtain ⟨m, hm, q⟩ := List.mem_map.mp (pm.mem_iff.mp hv)
    obtain ⟨z, tk, e1, _⟩ := gd m hm
    exact ⟨z, tk, by rw [← q]; exact e1⟩
  have permX : xs.Perm (ms.toList.map txE) := by
    have q := pm.map fun v => txE (0, v)
    rw [List.map_map] at q
    rw [exs]
    exact q
  have lineV : vs.length ≤ sizeLine := by rw [lenV]; exact fits_of_scanBound bd
  refine wpAny_bind (wpAny_newList ?_ lineV)
  have hoL : (s1.heap.push (seqObj "list" vs.toArray 0)).get? s1.heap.objs.size = some (seqObj "list" vs.toArray 0) := Heap.get?_push_size _ rfl
  refine wpAny_bind (wpAny_holding (wpAny_call_entry slot_list_sort ⟨_, hoL, rfl⟩ entry_list_sort
    (list_sort_treeKAny strKind_oneLt (s := { s1 with heap := s1.heap.push (seqObj "list" vs.toArray 0) }) hoL hS.keysOf (fun v₁ v₂ rest e => keyKind_strs (by rw [← e]; exact hS)) lineV fun st' hp hs => ⟨_, rfl, ?_⟩) (args_list_sort _)))
  obtain ⟨ys, y1, y2, y3⟩ := sorted_out_str hS hp hs
  obtain ⟨c, hc⟩ := sortedHeap_at (vs := vs) (out := (arrOf st').map (·.2)) hoL
  have permY : ys.Perm (ms.toList.map txE) := y2.trans permX
  refine wpAny_pure ⟨_, rfl, hQ _ s1.heap.objs.size ((arrOf st').map (·.2)) c ys (fun b u e => ?_) g1 o1 hz hc y1 y3 (permY.nodup_iff.mpr nd) fun z => by rw [permY.mem_iff, ← mem z]⟩
  have q := k1 b u e
  have lt := Heap.lt_size q
  show (sortedHeap (s1.heap.push (seqObj "list" vs.toArray 0)) s1.heap.objs.size vs ((arrOf st').map (·.2))).get? b = some u
  rw [sortedHeap_old (Nat.ne_of_lt lt) (by rw [size_push']; exact Nat.lt_succ_of_lt lt)]
  exact Heap.get?_push_of_some _ q
end
/-! ### over the hand layer -/
/-- the set of the texts of L at a -/
def SetO' (P : Program) (w : World) (a : Addr) (L : List Str) : HO := .ext fun h => SetX P w h a L
section
variable {X : Cx}
def rSetX (K : PySem.W.Frag) (P : Program) (w : World) : List V → Hp → VK → Prop := fun vs H Q => ∃ (l : Addr) (xs : List Str), vs = [V.ref l] ∧ SqL K H l (xs.map V.str) ∧ xs.length ≤ 1000 ∧ ∀ p, H p = none → Q (.ref p) (upd H p (SetO' P w p xs))
theorem cr_setX (hc : X.calm = true) : CallR X (.type "set") (rSetX X.K X.prog X.w) := by
  intro pins s σ H vs us Q I r h
  obtain ⟨l, xs, rfl, hq, few, q⟩ := h
  rw [Vals.ref1 r]
  obtain ⟨its, rv, pl, hz⟩ := I.list hq
  refine call_setX (I.ok.hd hc) pl.isList (by simpa using rv.strs) (Nat.lt_of_le_of_lt (Nat.succ_le_succ few) (by decide)) fun h' tk hS hk => ?_
  have kp : ∀ b o, s.heap.get? b = some o → h'.get? b = some o := fun b o e => hk b o (Heap.lt_size e) e
  obtain ⟨ob, ms, ep, tb, here, more⟩ := id hS
  exact ⟨.ref s.heap.objs.size, _, I.laid (t' := tk) kp (Nat.le_refl _) (show ObjOk X.prog X.w _ h' _ (SetO' X.prog X.w s.heap.objs.size xs) from ⟨hS, ⟨ob, here⟩, fun h1 h2 p k => SetX.at p k⟩), rfl, q _ (I.hok.fresh (Nat.le_refl _))⟩
def rSortedX (P : Program) (w : World) : List V → Hp → VK → Prop := fun vs H Q => ∃ (a : Addr) (L : List Str), vs = [V.ref a] ∧ H a = some (SetO' P w a L) ∧ L.length ≤ 1000 ∧
  ∀ (ys : List Str) (p : Addr), sortedS ys = true → ys.Nodup → (∀ z, z ∈ ys ↔ z ∈ L) → H p = none → Q (.ref p) (upd H p (.lst (ys.map V.str)))
theorem vals_texts : ∀ {us : List Value} {xs : List Str}, StrsAre us xs → Vals (xs.map V.str) us
  | _, _, .nil => .nil
  | _, _, .cons n t r => .cons ⟨t, rfl⟩ (vals_texts r)
theorem cr_sortedX (hc : X.calm = true) : CallR X (.builtin "sorted") (rSortedX X.prog X.w) := by
  intro pins s σ H vs us Q I r h
  obtain ⟨a, L, rfl, ha, few, q⟩ := h
  rw [Vals.ref1 r]
  have hX : SetX X.prog X.w s.heap a L := (I.hok a _ ha).1
  refine sorted_setX hX (I.ok.hd hc) fun s' p out c ys k g o hp hg hi hs nd hm => ?_
  have lt : ys.length ≤ L.length := List.Nodup.length_le_of_subset nd fun z hz => (hm z).1 hz
  have hlen : (ys.map V.str).length ≤ sizeLine := by rw [List.length_map]; exact Nat.le_trans (Nat.le_trans lt few) (by decide)
  have hn : H p = none := I.hok.fresh hp
  have J : Inv X pins σ (upd H p (.lst (ys.map V.str))) { s with heap := s'.heap, gens := s'.gens, drawn := s'.drawn, toks := s'.toks } :=
    I.call (ch := []) (Un.laid k hp hn) (I.hok.laid k hp ⟨hlen, out.toList, c, vals_texts hi, hg⟩) (by rw [g]; exact I.bare) (fun _ z => nomatch z)
  obtain ⟨h', g', d', t', o'⟩ := s'
  obtain rfl : o' = s.os := o
  exact ⟨.ref p, _, J, rfl, q ys p hs nd hm hn⟩
end
end Gx

set_option maxRecDepth 100000
set_option maxHeartbeats 4000000
namespace Gx
open PySem PySem.Spec PyProof.Rows L2
/-! ### set(tuple of texts); a field as one of several targets -/
section
variable {P : Program} {w : World} {A : Around} {s : Shared} {E : Value → Shared → Prop}
theorem call_setXT {l : Addr} {items : Array Value} {xs : List Str} {Q : Value → Shared → Prop} (hh : A.handled = none) (hl : s.heap.IsTuple l items) (hi : StrsAre items.toList xs) (few : xs.length + 1 < scanBound)
    (h : ∀ (h' : Heap) (tk : Nat), SetX P w h' s.heap.objs.size xs → (∀ b o, b < s.heap.objs.size → s.heap.get? b = some o → h'.get? b = some o) → Q (.ref s.heap.objs.size) { s with heap := h', toks := tk }) :
    wpAny (model P w) A (call (.type "set") [.ref l]) Q E s := by
  obtain ⟨c, tl, hmro⟩ := PySem.F.called_set.mro
  have hmade := PySem.F.called_set.made
  have hsub := PySem.F.called_set.sub
  refine wpAny_call (codeAny_of_tree ?_)
  show wpAny _ _ (callAny (.type "set") _) _ _ _
  refine wpAny_pure ⟨Code.quiet_builtin _ (by decide +kernel), codeAny_builtin PySem.F.entry_type_call ?_⟩
  rw [Around.under_plain (weight_type_call_type "set" [.ref l] []) rfl]
  have h1 := PySem.F.called_set.notType
  have h2 := PySem.F.called_set.canCreate
  have hct := PySem.F.typeCall_set_1 (.ref l)
  repeat (any_goals (first | assumption | wp_step))
  have R0 : SetX P w (s.heap.push { cls := .type "set", dict := none, data := .set #[] 0 (.fresh 0 0 (!w.params.followText "set-order")) }) s.heap.objs.size [] := setX_fresh
  refine codeAny_mono (code_setX (x := .ref l) (E := E) (Q₁ := fun obj s₁ => obj = .ref s.heap.objs.size ∧ s₁ = { s with heap := s.heap.push { cls := .type "set", dict := none, data := .set #[] 0 (.fresh 0 0 (!w.params.followText "set-order")) } }) ⟨rfl, rfl⟩) fun r s₁ hr => ?_
  have hS : (s.heap.push { cls := .type "set", dict := none, data := .set #[] 0 (.fresh 0 0 (!w.params.followText "set-order")) }).get? s.heap.objs.size = some { cls := .type "set", dict := none, data := .set #[] 0 (.fresh 0 0 (!w.params.followText "set-order")) } := Heap.get?_push_size _ rfl
  cases r with
  | error e => exact hr
  | ok fl =>
    cases fl with
    | ret obj =>
      obtain ⟨rfl, rfl⟩ := hr
      have hT : Shared.TypeIs { s with heap := s.heap.push ({ cls := .type "set", dict := none, data := .set #[] 0 (.fresh 0 0 (!w.params.followText "set-order")) } : Obj) } (.ref s.heap.objs.size) "set" := ⟨_, hS, rfl⟩
      have hli := PySem.F.called_set.init.lookup
      have hbi := PySem.F.called_set.init.bind (.ref s.heap.objs.size)
      repeat (any_goals (first | assumption | wp_step))
      refine codeAny_mono (codeAny_call_builtin (R := wants (fun r s₂ => r = .none ∧ ∃ h' tk, s₂ = { s with heap := h', toks := tk } ∧ SetX P w h' s.heap.objs.size xs ∧
          (∀ b o, b < s.heap.objs.size → s.heap.get? b = some o → h'.get? b = some o)) E) PySem.F.called_set.init.plain PySem.F.entry_set_init (check_set_init_1 hT ?_)) fun r₂ s₂ hr₂ => ?_
      · obtain ⟨ol, hol, hcl, nl, hdl⟩ := hl
        obtain ⟨ocls, odict, odata, oslots⟩ := ol
        simp only at hcl hdl
        subst hcl; subst hdl
        have hol' : (s.heap.push ({ cls := .type "set", dict := none, data := .set #[] 0 (.fresh 0 0 (!w.params.followText "set-order")) } : Obj)).get? l = some { cls := .type "tuple", dict := odict, data := .seq items nl, slots := oslots } := Heap.get?_push_of_some _ hol
        have hsls := PySem.F.sub_tuple_set
        have hslf := PySem.F.sub_tuple_frozenset
        have hne : (Value.type "tuple" == Value.type "dict") = false := by decide
        have hl1 : (s.heap.push ({ cls := .type "set", dict := none, data := .set #[] 0 (.fresh 0 0 (!w.params.followText "set-order")) } : Obj)).IsTuple l items := ⟨_, hol', rfl, nl, rfl⟩
        unfold Builtin.«set.__init__» noKeywords Builtin.Frozenset.updateFrom
        generalize hPI : pyIter = PI
        wp_walk
        subst hPI
        refine wpAny_pyIter_tuple hl1 ?_
        refine wpAny_bind (wpAny_runValue ?_)
        have hlS : l < s.heap.objs.size := Heap.lt_size hol
        have hh3 : A.in1.in1.in1.handled = none := by simp [hh]
        have szp : (s.heap.push ({ cls := .type "set", dict := none, data := .set #[] 0 (.fresh 0 0 (!w.params.followText "set-order")) } : Obj)).objs.size = s.heap.objs.size + 1 := Heap.size_push _ _
        have hneI : l ≠ (s.heap.push ({ cls := .type "set", dict := none, data := .set #[] 0 (.fresh 0 0 (!w.params.followText "set-order")) } : Obj)).objs.size := by rw [szp]; exact Nat.ne_of_lt (Nat.lt_succ_of_lt hlS)
        have hSf : s.heap.objs.size ∉ [(s.heap.push ({ cls := .type "set", dict := none, data := .set #[] 0 (.fresh 0 0 (!w.params.followText "set-order")) } : Obj)).objs.size, l] := by
          rw [szp]
          simp only [List.mem_cons, List.not_mem_nil, or_false, not_or]
          exact ⟨Nat.ne_of_lt (Nat.lt_succ_self _), Nat.ne_of_gt hlS⟩
        have hsz : xs.length = items.size := by rw [← StrsAre.len_eq hi, Array.length_toList]
        refine setX_loop ((Walks.tuple hh3 _ l hneI items).toS) s.heap.objs.size hSf xs hsz (by rw [← hsz]; exact few) (fun i v hv => texts_at hi i v (by rw [Array.getElem?_toList]; exact hv))
          (items.size - 0) 0 _ (by omega) (Nat.zero_le _) ⟨⟨_, Heap.get?_push_size _ rfl, rfl, rfl⟩, (hl1.push _)⟩ ?hS0 ?hR
        case hS0 => exact R0.at fun o e => Heap.get?_push_of_some _ e
        case hR =>
          intro s' hm hS'
          obtain ⟨h', g', d', tk', os'⟩ := s'
          obtain rfl : g' = s.gens := hm.gens
          obtain rfl : d' = s.drawn := hm.drawn
          obtain rfl : os' = s.os := hm.os
          show wpAny _ _ _ _ _ _
          refine wpAny_pure ?_
          show wpAny _ _ (ret Value.none) _ _ _
          refine wpAny_pure ⟨rfl, h', tk', rfl, hS', fun b o hb e => hm.heap b o ?_ (Heap.get?_push_of_some _ (Heap.get?_push_of_some _ e))⟩
          rw [szp]
          simp only [List.mem_cons, List.not_mem_nil, or_false, not_or]
          exact ⟨Nat.ne_of_lt hb, Nat.ne_of_lt (Nat.lt_succ_of_lt hb)⟩
      · cases r₂ with
        | error e => exact hr₂
        | ok fl₂ =>
          cases fl₂ with
          | ret r =>
            obtain ⟨rfl, h', tk, rfl, hS', hk'⟩ := hr₂
            repeat (any_goals (first | assumption | wp_step))
            exact h _ _ hS' hk'
          | _ => exact hr₂.elim
    | _ => exact hr.elim
end
section
variable {X : Cx}
def rSetXT (K : PySem.W.Frag) (P : Program) (w : World) : List V → Hp → VK → Prop := fun vs H Q => ∃ (l : Addr) (xs : List Str), vs = [V.ref l] ∧ SqT K H l (xs.map V.str) ∧ xs.length ≤ 1000 ∧ ∀ p, H p = none → Q (.ref p) (upd H p (SetO' P w p xs))
theorem cr_setXT (hc : X.calm = true) : CallR X (.type "set") (rSetXT X.K X.prog X.w) := by
  intro pins s σ H vs us Q I r h
  obtain ⟨l, xs, rfl, hq, few, q⟩ := h
  rw [Vals.ref1 r]
  obtain ⟨its, rv, pl, hz⟩ := I.tuple hq
  refine call_setXT (I.ok.hd hc) (show s.heap.IsTuple l its.toArray from pl) (by simpa using rv.strs) (Nat.lt_of_le_of_lt (Nat.succ_le_succ few) (by decide)) fun h' tk hS hk => ?_
  have kp : ∀ b o, s.heap.get? b = some o → h'.get? b = some o := fun b o e => hk b o (Heap.lt_size e) e
  obtain ⟨ob, ms, ep, tb, here, more⟩ := id hS
  exact ⟨.ref s.heap.objs.size, _, I.laid (t' := tk) kp (Nat.le_refl _) (show ObjOk X.prog X.w _ h' _ (SetO' X.prog X.w s.heap.objs.size xs) from ⟨hS, ⟨ob, here⟩, fun h1 h2 p k => SetX.at p k⟩), rfl, q _ (I.hok.fresh (Nat.le_refl _))⟩
theorem cr_setXTK {K : PySem.W.Frag} {P : Program} {w : World} (hk : X.K = K) (hp : X.prog = P) (hw : X.w = w) (hc : X.calm = true) : CallR X (.type "set") (rSetXT K P w) := by
  subst hk
  subst hp
  subst hw
  exact cr_setXT hc
theorem cr_sortedXK {P : Program} {w : World} (hp : X.prog = P) (hw : X.w = w) (hc : X.calm = true) : CallR X (.builtin "sorted") (rSortedX P w) := by
  subst hp
  subst hw
  exact cr_sortedX hc
/-- o.f as a target -/
def gFld (K : PySem.W.Frag) (to : TE) (f : Str) : TG := fun v σ H Q => to σ H fun x H1 => ∃ a C dx fs, x = .ref a ∧ H1 a = some (.ins C dx fs) ∧ Cls K C ∧ NoAttr K C f ∧ fs.length < 1000 ∧ Q σ (upd H1 a (.ins C dx (putF f v fs)))
theorem pg_fld {o : Expr} {f : Str} {pos' : Pos} {to : TE} (ho : PE X o to) : PG X (.Attribute o f pos') (gFld X.K to f) := by
  refine ⟨fun pins s σ H v u Q I r h => ?_⟩
  rw [assign_Attribute]
  refine wpAny_bind (wpAny_holding (thn (ho.run pins s σ H _ I h) fun ov s1 ⟨x, H1, I1, r1, q1⟩ => ?_))
  obtain ⟨a, C, dx, fs, ex, ea, c, n, l, q2⟩ := q1
  subst ex
  obtain rfl : ov = Value.ref a := r1
  refine wpAny_bind (wpAny_standAt (wpAny_bind (wpAny_holding (setattr_ok I1 ea c n l r fun s3 I3 => ?_))))
  exact wpAny_release ⟨σ, _, I3, q2⟩
end
end Gx

set_option maxRecDepth 100000
set_option maxHeartbeats 4000000
namespace Gx
open PySem PySem.Spec PyProof.Rows L2
/-! ### rules of my own, over any program -/
section
variable {X : Cx}
/-- repr of a truth -/
theorem call_repr_bl : CallR X (.builtin "repr") (fun xs H Q => ∃ b : Bool, xs = [.bl b] ∧ Q (.str (if b then "True" else "False")) H) := by
  intro pins s σ H xs us Q I r h
  obtain ⟨b, rfl, q⟩ := h
  obtain ⟨u, rfl, rx⟩ := vals1 r
  cases (show u = Value.bool b from rx)
  exact PySem.P.repr_of_bool ⟨.str _, H, I.tok _, ⟨_, rfl⟩, q⟩
/-- the signs of a text, a text each -/
def signV (x : Str) : List V := x.cps.toList.map fun c => V.str ⟨#[c]⟩
theorem vals_signs {x : Str} {acc : Array Value} (h : ItemsOf (SignAt x) acc x.cps.size) : Vals (signV x) acc.toList := by
  have key : ∀ (l : List Nat) (vs : List Value), vs.length = l.length → (∀ (j : Nat) (v : Value), vs[j]? = some v → ∃ (c : Nat) (u : Tok), l[j]? = some c ∧ v = Value.str ⟨#[c]⟩ u) → Vals (l.map fun c => V.str ⟨#[c]⟩) vs := by
    intro l
    induction l with
    | nil =>
      intro vs hl _
      cases vs with
      | nil => exact .nil
      | cons a r => cases hl
    | cons c l ih =>
      intro vs hl hv
      cases vs with
      | nil => cases hl
      | cons v vs =>
        obtain ⟨c', u, e1, e2⟩ := hv 0 v rfl
        have e1' : c = c' := Option.some.inj e1
        subst e1'
        exact .cons ⟨u, e2⟩ (ih vs (Nat.succ.inj hl) fun j w hw => hv (j + 1) w hw)
  refine key x.cps.toList acc.toList (by rw [Array.length_toList, Array.length_toList]; exact h.1) fun j v hv => ?_
  obtain ⟨c, u, hc, e⟩ := h.2 j v (by simpa using hv)
  exact ⟨c, u, by simpa using hc, e⟩
/-- list(text) -/
theorem call_list_text (hc : X.calm = true) : CallR X (.type "list") (fun xs H Q => ∃ x : Str, xs = [.str x] ∧ x.length ≤ sizeLine ∧ ∀ l, H l = none → Q (.ref l) (upd H l (.lst (signV x)))) := by
  intro pins s σ H xs us Q I r h
  obtain ⟨x, rfl, hz, q⟩ := h
  obtain ⟨u, rfl, t, rfl⟩ := vals1 r
  refine PySem.call_list_str (I.ok.hd hc) x t (fun h' tk acc' c' kp e ha => ?_) hz
  have hv := vals_signs ha
  refine ⟨.ref s.heap.objs.size, _, I.laid (t' := tk) kp (Nat.le_refl _) (show ObjOk X.prog X.w _ h' _ (.lst (signV x)) from ⟨?_, acc'.toList, c', hv, by simpa using e⟩), rfl, q _ (I.hok.fresh (Nat.le_refl _))⟩
  rw [hv.length, Array.length_toList]
  have := ha.1
  rw [this]
  exact hz
/-- tuple(text) -/
theorem call_tuple_text (hc : X.calm = true) : CallR X (.type "tuple") (fun xs H Q => ∃ x : Str, xs = [.str x] ∧ x.length ≤ sizeLine ∧ ∀ l, H l = none → Q (.ref l) (upd H l (.tup (signV x)))) := by
  intro pins s σ H xs us Q I r h
  obtain ⟨x, rfl, hz, q⟩ := h
  obtain ⟨u, rfl, t, rfl⟩ := vals1 r
  refine PySem.call_tuple_str (I.ok.hd hc) x t (fun h' tk acc kp ha => ?_) hz
  have hv := vals_signs ha
  have I1 : Inv X pins σ H { s with heap := h', toks := tk } := I.kept (t' := tk) kp
  have hlen : (signV x).length ≤ sizeLine := by
    rw [hv.length, Array.length_toList]
    have := ha.1
    rw [this]
    exact hz
  have I2 : Inv X pins σ (upd H h'.objs.size (.tup (signV x))) { s with heap := h'.push { cls := .type "tuple", data := .seq acc }, toks := tk } :=
    I1.laid (t' := tk) (fun b o e => Heap.get?_push_of_some _ e) (Nat.le_refl _) (show ObjOk X.prog X.w _ _ _ (.tup (signV x)) from ⟨hlen, acc.toList, hv, by simpa using IsTup.new _ _⟩)
  exact ⟨.ref h'.objs.size, _, I2, rfl, q _ (I1.hok.fresh (Nat.le_refl _))⟩
/-- text * k -/
theorem op_mul_text : OpR X (binaryOp .Mult) (fun x y H Q => ∃ (a : Str) (n : Int), x = .str a ∧ y = .int n ∧ MulOk a n ∧ Q (.str (Txt.mul a n)) H) := by
  intro pins s σ H x y v u Q I rx ry h
  obtain ⟨a, n, rfl, rfl, hz, q⟩ := h
  obtain ⟨t, rfl⟩ := rx
  obtain ⟨t', rfl⟩ := ry
  exact SB.mul hz fun t' k => ⟨.str _, H, I.tok _, ⟨_, rfl⟩, q⟩
end
theorem mulOk_small {a : Str} {n : Int} (h1 : 2 ≤ n) (h2 : n ≤ 1000) (ha : a.length ≤ 1000) : MulOk a n := by
  refine ⟨?_, fun _ _ => ?_, fun _ _ => ?_⟩
  · rw [Bool.or_eq_false_iff]
    exact ⟨decide_eq_false (by omega), decide_eq_false (by omega)⟩
  · have : (1000 : Int) ≤ (2 ^ 63 - 1) / n := by
      refine (Int.le_ediv_iff_mul_le (by omega)).mpr ?_
      have : (1000 : Int) * n ≤ 1000 * 1000 := Int.mul_le_mul_of_nonneg_left h2 (by decide)
      omega
    omega
  · unfold Builtin.Str.tooLong
    refine decide_eq_false ?_
    have h3 : a.length * n.toNat ≤ 1000 * 1000 := Nat.mul_le_mul ha (by omega)
    rw [sizeLine_eq]
    omega

/-! ### defs of the top, and what they promise -/
/-- the def st stands at the top under its name -/
def Def (K : PySem.W.Frag) (mg : Str → Option Value) (x qual : Str) (st : Stmt) (ps : List Str) : Prop :=
  ∃ (f : Addr) (fd : FuncData), Fun K x qual st f fd ∧ Binds K fd ps [] ∧ mg x = some (.ref f)
/-- the name x is a def that keeps the promise sp, by at most level k -/
def Cal (P : Program) (w : World) (K : PySem.W.Frag) (mg : Str → Option Value) (base : Heap) (k : Nat) (x : Str) (ps : List Str) (sp : Sp) : Prop :=
  ∃ (f : Addr) (fd : FuncData), FnOk P w K mg base CX0 k f fd ps sp ∧ PySem.W.keepIn K (.ref f) = true ∧ Binds K fd ps [] ∧ mg x = some (.ref f)
section
variable {P : Program} {w : World} {K : PySem.W.Frag} {mg : Str → Option Value} {base : Heap}
theorem Cal.mono {j k : Nat} {x : Str} {ps : List Str} {sp : Sp} (c : Cal P w K mg base j x ps sp) (h : j ≤ k) : Cal P w K mg base k x ps sp := by
  obtain ⟨f, fd, F, kp, b, g⟩ := c
  exact ⟨f, fd, F.mono h, kp, b, g⟩
theorem Cal.imp {k : Nat} {x : Str} {ps : List Str} {sp sp' : Sp} (c : Cal P w K mg base k x ps sp) (h : ∀ vs H Q E, sp' vs H Q E → sp vs H Q E) : Cal P w K mg base k x ps sp' := by
  obtain ⟨f, fd, F, kp, b, g⟩ := c
  exact ⟨f, fd, F.imp h, kp, b, g⟩
theorem Def.cal {x qual : Str} {st : Stmt} {ps : List Str} (d : Def K mg x qual st ps) {k : Nat} {sp : Sp} (h : ∀ f fd, Fun K x qual st f fd → FnOk P w K mg base CX0 k f fd ps sp) : Cal P w K mg base k x ps sp := by
  obtain ⟨f, fd, F, b, g⟩ := d
  exact ⟨f, fd, h f fd F, F.kp, b, g⟩
end
section
variable {X : Cx}
/-- f(..), without the empty list of defaults -/
def tCl (sp : Sp) (t : TA) : TE := fun σ H Q => t σ H fun vs H1 => sp vs H1 Q E0
theorem tCl_eq (sp : Sp) (t : TA) : tCall sp [] E0 t = tCl sp t := by
  funext σ H Q
  show t σ H _ = t σ H _
  congr 1
  funext vs H1
  rw [List.append_nil]
theorem pe_cal {x : Str} {ps : List Str} {sp : Sp} {k : Nat} {e : Expr} {es : List Expr} {t : TA} {p pos : Pos} (c : Cal X.prog X.w X.K X.mg X.base k x ps sp) (hr : Room k X.A) (hg : Gl X x) (h : PA X (e :: es) t)
    (hdb : (x == ("__debug__" : Str)) = false := by decide) (he : starEach (e :: es) X.env = (false, eval e X.env) :: starEach es X.env := by rfl) (hpl : (backTo pos (starEach es X.env)).any (·.1) = false := by rfl) :
    PE X (.Call (.Name x p) (e :: es) [] pos) (tCl sp t) := by
  obtain ⟨f, fd, F, kp, b, g⟩ := c
  rw [← tCl_eq]
  exact pe_call F hr hg g kp b .nil pass0 h hdb he hpl
theorem pe_cal0 {x : Str} {ps : List Str} {sp : Sp} {k : Nat} {p pos : Pos} (c : Cal X.prog X.w X.K X.mg X.base k x ps sp) (hr : Room k X.A) (hg : Gl X x)
    (hdb : (x == ("__debug__" : Str)) = false := by decide) : PE X (.Call (.Name x p) [] [] pos) (tCl sp tNil) := by
  obtain ⟨f, fd, F, kp, b, g⟩ := c
  rw [← tCl_eq]
  exact pe_call0 F hr hg g kp b .nil pass0 hdb
end
/-- a statement, then the rest, with a word between them: what follows is shown once -/
def tCut (t u : TS) : TS := fun D σ H => ∃ Mid : L2.St → Hp → Prop, t { D with nx := Mid } σ H ∧ ∀ σ' H', Mid σ' H' → u D σ' H'
section
variable {X : Cx}
theorem pss_cut {st : Stmt} {rest : List Stmt} {t u : TS} (h1 : PS X st t) (h2 : PSs X rest u) : PSs X (st :: rest) (tCut t u) := by
  refine ⟨fun pins s σ H D I h => ?_⟩
  obtain ⟨Mid, hm, hu⟩ := h
  refine wpAny_execs_cons (thn (h1.run pins s σ H { D with nx := Mid } I hm) fun f s1 q => ?_)
  cases f with
  | next =>
    obtain ⟨σ', H', I', q⟩ := q
    exact h2.run pins s1 σ' H' D I' (hu σ' H' q)
  | ret v => exact q
  | brk => exact q
  | cont => exact q
end
theorem sqL_ne {K : PySem.W.Frag} {H : Hp} {a d : Addr} {o : HO} {xs : List V} (n : a ≠ d) (h : SqL K H a xs) : SqL K (upd H d o) a xs := by
  rcases h with (h | ⟨u, h⟩) | h
  · exact .inl (.inl (by rw [upd_ne n]; exact h))
  · exact .inl (.inr ⟨u, by rw [upd_ne n]; exact h⟩)
  · exact .inr h
theorem sqT_ne {K : PySem.W.Frag} {H : Hp} {a d : Addr} {o : HO} {xs : List V} (n : a ≠ d) (h : SqT K H a xs) : SqT K (upd H d o) a xs := by
  rcases h with (h | ⟨u, h⟩) | h
  · exact .inl (.inl (by rw [upd_ne n]; exact h))
  · exact .inl (.inr ⟨u, by rw [upd_ne n]; exact h⟩)
  · exact .inr h
theorem atI_int {α : Type} {xs : List α} {r : Int} (h0 : 0 ≤ r) (h1 : r < xs.length) : ∃ v, v ∈ xs ∧ atI xs r = some v := by
  obtain ⟨k, rfl⟩ := Int.eq_ofNat_of_zero_le h0
  have hk : k < xs.length := by omega
  exact ⟨xs[k], List.getElem_mem hk, atI_nat (List.getElem?_eq_getElem hk)⟩
theorem signV_len (z : Str) : (signV z).length = z.length := by
  unfold signV
  rw [List.length_map, Array.length_toList]
  rfl
/-- for c in text -/
theorem for_str {x : Str} {g : TG} {tb : TS} {D : Ends} {σ : L2.St} {H : Hp} (Pv : Nat → L2.St → Hp → Prop) (h0 : Pv 0 σ H)
    (hs : ∀ (i c : Nat) (σ : L2.St) (H : Hp), x.cps.toList[i]? = some c → Pv i σ H → g (.str ⟨#[c]⟩) σ H fun σ2 H2 => tb { D with nx := Pv (i + 1), ct := Pv (i + 1), bk := D.nx } σ2 H2) (hd : ∀ σ H, Pv x.cps.size σ H → D.nx σ H) :
    ∃ W : Nat → Nat → L2.St → Hp → Prop, (∃ m, W 0 m σ H) ∧ ∀ i m σ H, W i m σ H →
      ((Its x).stop i H ∧ D.nx σ H) ∨ ((Its x).go i H ∧ ∃ N : L2.St → Hp → Prop, (∀ σ' H', N σ' H' → ∃ m', m' < m ∧ W (i + 1) m' σ' H') ∧ ∀ v H', (Its x).yld i H v H' → g v σ H' fun σ2 H2 => tb { D with nx := N, ct := N, bk := D.nx } σ2 H2) := by
  refine ⟨fun i m σ H => m = x.cps.size - i ∧ i ≤ x.cps.size ∧ Pv i σ H, ⟨x.cps.size, by simp, Nat.zero_le _, h0⟩, ?_⟩
  rintro i m σ H ⟨rfl, hi, p⟩
  by_cases hlt : i < x.cps.size
  · refine .inr ⟨hlt, Pv (i + 1), fun σ' H' p' => ⟨x.cps.size - (i + 1), by omega, rfl, hlt, p'⟩, fun v H' y => ?_⟩
    obtain ⟨e, c, hc, ev⟩ := y
    subst e ev
    exact hs i c σ _ (by simpa using hc) p
  · have e : i = x.cps.size := by omega
    subst e
    exact .inl ⟨Nat.le_refl _, hd σ H p⟩
theorem decI (a b : Int) : decide (V.int a = V.int b) = decide (a = b) := decide_eq_decide.mpr ⟨V.int.inj, fun e => e ▸ rfl⟩
theorem decS (a b : Str) : decide (V.str a = V.str b) = decide (a = b) := decide_eq_decide.mpr ⟨V.str.inj, fun e => e ▸ rfl⟩
theorem app_len (a b : Str) : (a ++ b).length = a.length + b.length := by
  show (a.cps ++ b.cps).size = _
  rw [Array.size_append]
  rfl
/-- texts of one sign each, joined by nothing -/
theorem join_one {e : Str} (he : e.length = 0) : ∀ zs : List Str, (∀ z ∈ zs, z.length = 1) → (Txt.join e zs).length = zs.length := by
  have key : ∀ zs : List Str, (∀ z ∈ zs, z.length = 1) → (Str.join e zs).length = zs.length := by
    intro zs
    induction zs with
    | nil => intro _; rfl
    | cons x r ih =>
      intro h
      cases r with
      | nil => exact h x (List.mem_cons_self ..)
      | cons y r =>
        show (x ++ e ++ Str.join e (y :: r)).length = _
        rw [app_len, app_len, he, ih fun z hz => h z (List.mem_cons_of_mem _ hz), h x (List.mem_cons_self ..), List.length_cons (a := x)]
        omega
  intro zs h
  rw [TL.join_eq]
  exact key zs h
theorem sum_ones : ∀ zs : List Str, (∀ z ∈ zs, z.length = 1) → (zs.map (·.length)).sum = zs.length
  | [], _ => rfl
  | x :: r, h => by
    rw [List.map_cons, List.sum_cons, sum_ones r fun z hz => h z (List.mem_cons_of_mem _ hz), h x (List.mem_cons_self ..), List.length_cons]
    omega
theorem mul_len {a : Str} {n : Int} (h1 : 2 ≤ n) (ha : 1 ≤ a.length) : (Txt.mul a n).length = a.length * n.toNat := by
  unfold Txt.mul
  rw [if_neg (by omega)]
  have e1 : (n == 1) = false := by rw [beq_eq_false_iff_ne]; omega
  have e2 : (a.length == 0) = false := by rw [beq_eq_false_iff_ne]; omega
  rw [e1, e2, if_neg (by decide)]
  have key : ∀ (k : Nat) (acc : Array Nat), ((List.replicate k a.cps).foldl (· ++ ·) acc).size = acc.size + k * a.cps.size := by
    intro k
    induction k with
    | zero => intro acc; show acc.size = _; omega
    | succ k ih =>
      intro acc
      rw [List.replicate_succ, List.foldl_cons, ih, Array.size_append, Nat.succ_mul]
      omega
  show ((List.replicate n.toNat a.cps).foldl (· ++ ·) #[]).size = a.cps.size * n.toNat
  rw [key, Nat.mul_comm]
  show 0 + _ = _
  omega
theorem same_at {H H' : Hp} {p : Addr} {o : HO} (n : H p = none) (s : Same H H') : Same H (upd H' p o) := fun b u e => by
  rw [upd_ne (ne_of_none e n)]
  exact s b u e
/-- the three numbers of some dice -/
def DiceAt (H : Hp) (d : Addr) : Prop := ∃ x b c : Int, H d = some (.lst [.int x, .int b, .int c])
end Gx

set_option maxRecDepth 100000
set_option maxHeartbeats 4000000
namespace Gx
open PySem PySem.Spec PyProof.Rows L2
/-! ### promises that hold where no repr is under way -/
/-- no repr is under way -/
abbrev Gd (A : Around) : Prop := A.guards = some []
structure FnG (P : Program) (w : World) (K : PySem.W.Frag) (mg : Str → Option Value) (base : Heap) (CX : CXT) (k : Nat) (f : Addr) (fd : FuncData) (ps : List Str) (sp : Sp) : Prop where
  len : ∀ vs H Q E, sp vs H Q E → vs.length = ps.length
  run : ∀ (A : Around) (outer : List Env) (s : Shared) (H : Hp) (args : Args) (us : List Value) (vs : List V) (Q : VK) (E : XK),
    Gd A → Room k A → Env0 P w K mg base A outer s H → BindsTo s fd args (ps.zip us) → Vals vs us → sp vs H Q E →
      codeAny (model P w) A (.call (.ref f) args) (CR CX outer P w H s Q E) s
section
variable {P : Program} {w : World} {K : PySem.W.Frag} {mg : Str → Option Value} {base : Heap} {CX : CXT} {k : Nat} {f : Addr} {fd : FuncData} {ps : List Str} {sp : Sp}
theorem fnG_of (F : FnOk P w K mg base CX k f fd ps sp) : FnG P w K mg base CX k f fd ps sp := ⟨F.len, fun A outer s H args us vs Q E _ => F.run A outer s H args us vs Q E⟩
theorem FnG.up {j : Nat} (F : FnG P w K mg base CX j f fd ps sp) (h : j ≤ k) : FnG P w K mg base CX k f fd ps sp :=
  ⟨F.len, fun A outer s H args us vs Q E g hr => F.run A outer s H args us vs Q E g (hr.mono h)⟩
theorem FnG.less {sp' : Sp} (F : FnG P w K mg base CX k f fd ps sp) (h : ∀ vs H Q E, sp' vs H Q E → sp vs H Q E) : FnG P w K mg base CX k f fd ps sp' :=
  ⟨fun vs H Q E q => F.len vs H Q E (h vs H Q E q), fun A outer s H args us vs Q E g hr he hb hv hs => F.run A outer s H args us vs Q E g hr he hb hv (h vs H Q E hs)⟩
end
/-- a def by its body, where no repr is under way -/
theorem fnG_body {CX : CXT} {P : Program} {w : World} {K : PySem.W.Frag} {mg : Str → Option Value} {base : Heap} {k : Nat} {f : Addr} {nm ql : Str} {prm : Arguments} {bd : List Stmt} {sc : Scope}
    {dv kv dc pm cd ct oc : Value} {an od : Option Addr} {sl : Array (Option Value)} {N ps : List Str} {sp : Sp}
    (look : K.lookup f = some ⟨oc, od, .func (PySem.W.fnOf nm ql prm bd sc dv kv dc pm an cd ct), sl⟩) (hcode : PySem.W.codeIn K cd ql = true) (S : FnScope N ps sc)
    (hlen : ∀ vs H Q E, sp vs H Q E → vs.length = ps.length)
    (hb : ∀ (A : Around) (outer : List Env) (s : Shared) (H : Hp) (vs : List V) (Q : VK) (E : XK), Gd A → Room k (A.deeper (envOfC ql sc s.heap.objs.size f cd)) → sp vs H Q E →
      ∃ t, PSs (cxOf CX P w K mg base N ql sc f cd A outer s H E) bd t ∧ t { nx := fun _ H' => Q .non H', rt := Q } (start N vs) H) :
    FnG P w K mg base CX (k + 1) f (PySem.W.fnOf nm ql prm bd sc dv kv dc pm an cd ct) ps sp := by
  constructor
  · exact hlen
  · intro A outer s H args us vs Q E g room env bind rel want
    have inS : K.In s.heap := env.mod.kin.keeps fun b o e => (env.bs b o e).1
    have noLim : s.heap.NoLimit := env.mod.nolimit.keeps fun b o e => (env.bs b o e).1
    have kinds : ∀ y ∈ ps.zip us, sc.names.lookup y.1 = some .local ∨ (sc.names.lookup y.1 = some .cell ∧ ((cellsFrom (s.heap.objs.size + 1) sc.names []).lookup y.1).isSome = true) := by
      rintro ⟨n, v⟩ hy
      rcases S.par n (List.of_mem_zip hy).1 with q | q
      · exact Or.inl q
      · exact Or.inr ⟨q, PySem.W.cellsFrom_some _ _ _ (Or.inl q)⟩
    refine codeAny_call_function room.depth (inS _ _ look) rfl S.co S.gen rfl (PySem.W.codeRec_of inS hcode)
      (bind _ _ _ _ (wpAny_newFunctionEnv_cells S.kind kinds fun env' he s1 made => ?_))
    subst he
    refine ⟨noLim.keeps made.toInCall.keep, codeAny_func ?_⟩
    obtain ⟨t, ht, hq⟩ := hb A outer s H vs Q E g (room.deeper _) want
    have I0 := inv_start (CX := CX) (E := E) (N := N) S room.hd env (hlen _ _ _ _ want) rel made
    refine wpAny_mono (ht.run [] s1 (start N vs) H _ I0 hq) ?_ (fun e s' hs => hs)
    intro fl s' hs
    cases fl with
    | brk =>
      obtain ⟨_, _, _, no⟩ := hs
      exact no.elim
    | cont =>
      obtain ⟨_, _, _, no⟩ := hs
      exact no.elim
    | next =>
      obtain ⟨σ', H', J, q⟩ := hs
      exact ⟨V.non, H', J.os, J.bare, J.base, J.hok, rfl, q⟩
    | ret u =>
      obtain ⟨v, σ', H', J, rv, q⟩ := hs
      exact ⟨v, H', J.os, J.bare, J.base, J.hok, rv, q⟩
section
variable {P : Program} {w : World} {K : PySem.W.Frag} {mg : Str → Option Value} {base : Heap}
/-- .. of the text -/
theorem okG {x qual : Str} {st : Stmt} {f : Addr} {fd : FuncData} {N ps : List Str} {k : Nat} {sp : Sp} (F : Fun K x qual st f fd) (S : FnScope N ps (defScope st)) (hlen : ∀ vs H Q E, sp vs H Q E → vs.length = ps.length)
    (hb : ∀ (cdv : Value) (A : Around) (outer : List Env) (s : Shared) (H : Hp) (vs : List V) (Q : VK) (E : XK), Gd (A.deeper (envOfC qual (defScope st) s.heap.objs.size f cdv)) → Room k (A.deeper (envOfC qual (defScope st) s.heap.objs.size f cdv)) → sp vs H Q E →
      ∃ t, PSs (cxOf CX0 P w K mg base N qual (defScope st) f cdv A outer s H E).nox (defBody st) t ∧ t { nx := fun _ H' => Q .non H', rt := Q } (start N vs) H) : FnG P w K mg base CX0 (k + 1) f fd ps sp := by
  obtain ⟨oc, od, kV, doc, pm, an, cdv, ct, osl, rfl, lk, hcd⟩ := F.ex
  refine fnG_body lk hcd S hlen fun A outer s H vs Q E g hr want => ?_
  obtain ⟨t, h, q⟩ := hb cdv A outer s H vs Q E g hr want
  exact ⟨t, h.nox, q⟩
/-- .. which may raise -/
theorem okGX {x qual : Str} {st : Stmt} {f : Addr} {fd : FuncData} {N ps : List Str} {k : Nat} {sp : Sp} (F : Fun K x qual st f fd) (S : FnScope N ps (defScope st)) (hlen : ∀ vs H Q E, sp vs H Q E → vs.length = ps.length) {CX : CXT}
    (hb : ∀ (cdv : Value) (A : Around) (outer : List Env) (s : Shared) (H : Hp) (vs : List V) (Q : VK) (E : XK), Gd (A.deeper (envOfC qual (defScope st) s.heap.objs.size f cdv)) → Room k (A.deeper (envOfC qual (defScope st) s.heap.objs.size f cdv)) → sp vs H Q E →
      ∃ t, PSs (cxOf CX P w K mg base N qual (defScope st) f cdv A outer s H E) (defBody st) t ∧ t { nx := fun _ H' => Q .non H', rt := Q } (start N vs) H) : FnG P w K mg base CX (k + 1) f fd ps sp := by
  obtain ⟨oc, od, kV, doc, pm, an, cdv, ct, osl, rfl, lk, hcd⟩ := F.ex
  exact fnG_body lk hcd S hlen fun A outer s H vs Q E g hr want => hb cdv A outer s H vs Q E g hr want
/-- the name x is a def that keeps the promise sp where no repr is under way -/
def CalG (P : Program) (w : World) (K : PySem.W.Frag) (mg : Str → Option Value) (base : Heap) (k : Nat) (x : Str) (ps : List Str) (sp : Sp) : Prop :=
  ∃ (f : Addr) (fd : FuncData), FnG P w K mg base CX0 k f fd ps sp ∧ PySem.W.keepIn K (.ref f) = true ∧ Binds K fd ps [] ∧ mg x = some (.ref f)
theorem Cal.g {k : Nat} {x : Str} {ps : List Str} {sp : Sp} (c : Cal P w K mg base k x ps sp) : CalG P w K mg base k x ps sp := by
  obtain ⟨f, fd, F, r⟩ := c
  exact ⟨f, fd, fnG_of F, r⟩
theorem CalG.up {j k : Nat} {x : Str} {ps : List Str} {sp : Sp} (c : CalG P w K mg base j x ps sp) (h : j ≤ k) : CalG P w K mg base k x ps sp := by
  obtain ⟨f, fd, F, r⟩ := c
  exact ⟨f, fd, F.up h, r⟩
theorem Def.calG {x qual : Str} {st : Stmt} {ps : List Str} (d : Def K mg x qual st ps) {k : Nat} {sp : Sp} (h : ∀ f fd, Fun K x qual st f fd → FnG P w K mg base CX0 k f fd ps sp) : CalG P w K mg base k x ps sp := by
  obtain ⟨f, fd, F, b, g⟩ := d
  exact ⟨f, fd, h f fd F, F.kp, b, g⟩
end
section
variable {X : Cx}
/-- the callee runs -/
theorem runG {CX : CXT} {k : Nat} {f : Addr} {fd : FuncData} {ps : List Str} {sp : Sp} {E : XK} {ds : List Value} {dvs : List V} {pins : List (Addr × Obj)} {σ : L2.St} {H : Hp} {s : Shared} {Q : VK} {us : List Value} {vs : List V}
    (F : FnG X.prog X.w X.K X.mg X.base CX k f fd ps sp) (g : Gd X.A) (room : Room k X.A) (hb : Binds X.K fd ps ds) (hd : Vals dvs ds) (hx : Passes CX X E)
    (I : Inv X pins σ H s) (r : Vals vs us) (want : sp (vs ++ dvs) H Q E) : wpAny (model X.prog X.w) X.A (call (.ref f) us) (EP X pins σ Q) X.xe s := by
  have rel := r.append hd
  have hl : (us ++ ds).length = ps.length := rel.length.symm.trans (F.len _ _ _ _ want)
  have hc := F.run X.A X.stack s H ⟨us, []⟩ (us ++ ds) (vs ++ dvs) Q E g room I.env0 (hb s us I.kIn hl) rel want
  refine wpAny_call (codeAny_mono hc ?_)
  intro res s' hres
  match res, hres with
  | .error e, hres => exact hx pins σ H s e s' I hres
  | .ok (.ret u), hres => exact I.after hres
theorem pe_calG {x : Str} {ps : List Str} {sp : Sp} {k : Nat} {e : Expr} {es : List Expr} {t : TA} {p pos : Pos} (c : CalG X.prog X.w X.K X.mg X.base k x ps sp) (g : Gd X.A) (room : Room k X.A) (hg : Gl X x) (h : PA X (e :: es) t)
    (hdb : (x == ("__debug__" : Str)) = false := by decide) (hst : starEach (e :: es) X.env = (false, eval e X.env) :: starEach es X.env := by rfl) (hpl : (backTo pos (starEach es X.env)).any (·.1) = false := by rfl) :
    PE X (.Call (.Name x p) (e :: es) [] pos) (tCl sp t) := by
  obtain ⟨f, fd, F, kp, b, hm⟩ := c
  rw [← tCl_eq]
  refine ⟨fun pins s σ H Q I want => wpAny_Call_Name_kw (ld_glob I hg hm ?_ hdb)⟩
  exact PySem.W.callWith_K (h₀ := X.base) I.ok.mod.kin kp (thn (h.run pos pins s σ H _ I want) fun us s1 ⟨vs, H1, I1, r, q⟩ => ⟨I1.kIn, runG F g room b .nil pass0 I1 r q⟩) hst hpl
theorem pe_calG0 {x : Str} {ps : List Str} {sp : Sp} {k : Nat} {p pos : Pos} (c : CalG X.prog X.w X.K X.mg X.base k x ps sp) (g : Gd X.A) (room : Room k X.A) (hg : Gl X x)
    (hdb : (x == ("__debug__" : Str)) = false := by decide) : PE X (.Call (.Name x p) [] [] pos) (tCl sp tNil) := by
  obtain ⟨f, fd, F, kp, b, hm⟩ := c
  rw [← tCl_eq]
  exact ⟨fun pins s σ H Q I want => wpAny_Call_Name_kw (ld_glob I hg hm (PySem.W.callWith_K0 I.kIn kp (runG (us := []) F g room b .nil pass0 I .nil want)) hdb)⟩
end
/-! ### repr of data -/
theorem repr_ref {prog : Program} {w : World} {A : Around} {E : Value → Shared → Prop} {s : Shared} {Q : Value → Shared → Prop} {a : Addr} {d : PyData} {as : List Addr}
    (r : Reads s.heap (.ref a) d as) (hs : d.showable = true) (hsm : d.hasDict = true → sysModules ∉ as) (hsz : d.shown.length ≤ sizeLine) (g : Gd A) (hu : A.units + 1 + d.depth < cLine)
    (h : ∀ h' u tk, (∀ b o, s.heap.get? b = some o → h'.get? b = some o) → Q (.str d.shown u) { s with heap := h', toks := tk }) : wpAny (model prog w) A (call (.builtin "repr") [.ref a]) Q E s := by
  obtain ⟨T, idr, B⟩ := showsBy_of_reads (prog := prog) (w := w) r hs hsm hsz
  have hT := B.typeIs s fun _ _ e => e
  refine Calls.call_function_entry F.kind_repr F.plain_repr F.entry_repr (F.args_repr1 _) ?_
  unfold Builtin.«repr»
  refine wpAny_bind (m := oneArg "repr" _) (wpAny_pure ?_)
  refine wpAny_bind (wpAny_cRoomFor (by show A.units + 1 < cLine; omega) ?_)
  refine wpAny_bind (wpAny_specialOf (name := Str.ofString "__repr__") hT B.slotRepr.lookup ?_)
  refine wpAny_bind (m := callSpecialIfBound? (.ref a) (Str.ofString "__repr__")) (wpAny_callSpecialIfBound?_slotG (name := Str.ofString "__repr__") hT B.slotRepr (B.call _ _ s _ g (by show A.units + 1 + _ < cLine; omega) (fun _ _ e => e) fun h' u tk hk => ?_))
  refine wpAny_bind (wpAny_isInstance (T := "str") (b := true) rfl isSubtype_str_str ?_)
  exact wpAny_pure ⟨_, rfl, h h' u tk hk⟩
section
variable {X : Cx}
/-- repr(x), x data without dicts -/
def rRepr (K : PySem.W.Frag) : List V → Hp → VK → Prop := fun xs H Q => ∃ (x : V) (d : PyData), xs = [x] ∧ Dp K H x d ∧ d.showable = true ∧ d.hasDict = false ∧ d.depth ≤ 60 ∧ d.shown.length ≤ sizeLine ∧ Q (.str d.shown) H
theorem call_reprD (g : Gd X.A) (hu : X.A.units + 64 < cLine) : CallR X (.builtin "repr") (rRepr X.K) := by
  intro pins s σ H xs us Q I r h
  obtain ⟨x, d, rfl, hd, h1, h2, h3, h4, q⟩ := h
  obtain ⟨u, rfl, rx⟩ := vals1 r
  obtain ⟨as, hr⟩ := Dp.reads I d x u hd rx
  cases hr with
  | none => simp only [PyData.shown] at q; exact PySem.P.repr_of_none ⟨.str _, H, I.tok _, ⟨_, rfl⟩, q⟩
  | bool b => simp only [PyData.shown] at q; exact PySem.P.repr_of_bool ⟨.str _, H, I.tok _, ⟨_, rfl⟩, q⟩
  | int i t => simp only [PyData.shown] at q; exact PySem.P.repr_of_int (by simpa [PyData.showable] using h1) ⟨.str _, H, I.tok _, ⟨_, rfl⟩, q⟩
  | str y t => simp only [PyData.shown] at q h4; exact PySem.P.repr_of_str ⟨.str _, H, I.tok _, ⟨_, rfl⟩, q⟩ h4
  | list e1 e2 e3 e4 =>
    exact repr_ref (.list e1 e2 e3 e4) h1 (fun e => by rw [h2] at e; cases e) h4 g (by omega) fun h' u tk hk => ⟨.str _, H, I.kept (t' := tk) hk, ⟨_, rfl⟩, q⟩
  | tuple e1 e2 e3 e4 =>
    exact repr_ref (.tuple e1 e2 e3 e4) h1 (fun e => by rw [h2] at e; cases e) h4 g (by omega) fun h' u tk hk => ⟨.str _, H, I.kept (t' := tk) hk, ⟨_, rfl⟩, q⟩
  | dict e1 e2 e3 e4 e5 =>
    exact repr_ref (.dict e1 e2 e3 e4 e5) h1 (fun e => by rw [h2] at e; cases e) h4 g (by omega) fun h' u tk hk => ⟨.str _, H, I.kept (t' := tk) hk, ⟨_, rfl⟩, q⟩
end
/-! ### sorted of a tuple of texts -/
section
variable {X : Cx}
def rSortedTS (K : PySem.W.Frag) : List V → Hp → VK → Prop := fun vs H Q => ∃ (a : Addr) (xs : List Str), vs = [V.ref a] ∧ SqT K H a (xs.map V.str) ∧ xs.length ≤ 100000 ∧
  ∀ (ys : List Str) (p : Addr), ys.Perm xs → sortedS ys = true → H p = none → Q (.ref p) (upd H p (.lst (ys.map V.str)))
theorem cr_sortedTS : CallR X (.builtin "sorted") (rSortedTS X.K) := by
  intro pins s σ H vs us Q I r h
  obtain ⟨a, xs, rfl, ht, hz, q⟩ := h
  obtain ⟨its, rv, ⟨o, ho, hc, n, hd⟩, _⟩ := I.tuple ht
  rw [Vals.ref1 r]
  have hln : xs.length = its.length := by
    have e := rv.length
    rw [List.length_map] at e
    exact e
  have hS : StrsAre its xs := rv.strs
  have hL : its.length ≤ sizeLine := Nat.le_trans (by omega) (show 100000 ≤ sizeLine by decide)
  refine Calls.call_function_entry kind_sorted plain_sorted entry_sorted (args_sorted1 _) ?_
  unfold Builtin.«sorted»
  refine wpAny_bind (m := checkCount "sorted" 1 1 _) (wpAny_pure ?_)
  refine wpAny_bind (wpAny_collect_seq a (.inr rfl) ho hc hd (fun h' hk => ?_) (by rw [List.size_toArray]; exact hL))
  have I1 : Inv _ pins σ H { s with heap := h' } := I.kept (t' := s.toks) hk
  rw [List.toList_toArray]
  refine wpAny_bind (wpAny_newList ?_ hL)
  have hoL : (h'.push (seqObj "list" its.toArray 0)).get? h'.objs.size = some (seqObj "list" its.toArray 0) := Heap.get?_push_size _ rfl
  show wpAny _ _ _ _ _ { s with heap := h'.push (seqObj "list" its.toArray 0) }
  refine wpAny_bind (wpAny_holding (wpAny_call_entry slot_list_sort ⟨_, hoL, rfl⟩ entry_list_sort
    (list_sort_treeKAny strKind_oneLt (s := { s with heap := h'.push (seqObj "list" its.toArray 0) }) hoL hS.keysOf (fun v₁ v₂ rest e => keyKind_strs (by rw [← e]; exact hS)) hL fun st' hp hs => ⟨_, rfl, ?_⟩) (args_list_sort _)))
  obtain ⟨ys, g1, g2, g3⟩ := sorted_out_str hS hp hs
  obtain ⟨e', he'⟩ := sortedHeap_at (vs := its) (out := (arrOf st').map (·.2)) hoL
  have hlen : (ys.map V.str).length ≤ sizeLine := by
    rw [List.length_map, g2.length_eq, hln]
    exact hL
  refine wpAny_pure ⟨_, rfl, .ref h'.objs.size, upd H h'.objs.size (.lst (ys.map V.str)), I1.laid (t' := s.toks) (fun b u e => ?_) (Nat.le_refl _)
    (show ObjOk X.prog X.w _ _ _ (.lst (ys.map V.str)) from ⟨hlen, ((arrOf st').map (·.2)).toList, e', vals_of_strs g1, by rw [Array.toArray_toList]; exact he'⟩), rfl, q ys _ g2 g3 (I1.hok.fresh (Nat.le_refl _))⟩
  have hb : b < h'.objs.size := Heap.lt_size e
  rw [sortedHeap_old (Nat.ne_of_lt hb) (by rw [size_push']; exact Nat.lt_succ_of_lt hb)]
  exact Heap.get?_push_of_some _ e
end
/-! ### the end of a law whose promise holds where no repr is under way -/
/-- the abstract heap at the law's call: the script alone, if the module does not own it -/
def H00 (a : Addr) (o : Obj) (ns : List Int) (own : Bool) : Hp := fun b => if own = false ∧ b = a then some (.frz o (.lst (ns.map V.int))) else none
theorem h00_none {a b : Addr} {o : Obj} {ns : List Int} {own : Bool} (h : own = true ∨ b ≠ a) : H00 a o ns own b = none := by
  unfold H00
  rw [if_neg]
  rintro ⟨h1, h2⟩
  rcases h with h | h
  · rw [h1] at h; cases h
  · exact h h2
theorem h00_some {a b : Addr} {o : Obj} {ns : List Int} {own : Bool} {u : HO} (h : H00 a o ns own b = some u) : own = false ∧ b = a ∧ u = .frz o (.lst (ns.map V.int)) := by
  unfold H00 at h
  by_cases c : own = false ∧ b = a
  · rw [if_pos c] at h
    exact ⟨c.1, c.2, (Option.some.inj h).symm⟩
  · rw [if_neg c] at h
    cases h
theorem lawG {P : Program} {w : World} {K : PySem.W.Frag} {mg mb : Str → Option Value} {CX : CXT} {k : Nat} {fa a : Addr} {fd : FuncData} {x : Str} {sp : Sp} {t : Shared} {vs : List Value} {ns : List Int}
    (inK : K.In t.heap) (glob : t.heap.Ns mainGlobals mg) (blt : t.heap.Ns builtinsNs mb) (boot : ∀ y : Str, y ≠ "__name__" → mb y = bootBuiltins y) (noLim : t.heap.NoLimit) (gens : t.gens = #[])
    (scr : t.heap.get? a = some { cls := .type "list", data := .seq vs.toArray }) (hints : IntsAre vs ns) (short : ns.length ≤ sizeLine) (room : Room k callerA)
    (F : ∀ base : Heap, K.In base → base.Ns mainGlobals mg → FnG P w K mg base CX k fa fd [x] sp) (bind : ∀ (s : Shared) (u : Value), BindsTo s fd ⟨[u], []⟩ [(x, u)])
    (want : ∀ H : Hp, Only H → SqL K H a (ns.map V.int) → sp [.ref a] H (fun v _ => v = .bl true) fun _ _ _ => False)
    (noErr : ∀ H e s', CX [] H t (fun _ _ _ => False) e s' → False) :
    codeAny (model P w) callerA (.call (.ref fa) ⟨[.ref a], []⟩) (fun r s' => r = .ok (.ret (.bool true)) ∧ OldK t.heap s'.heap ∧ s'.os = t.os ∧ AllBare s'.gens) t := by
  have hv : Vals (ns.map V.int) vs := vals_ints hints
  have hlv : vs.length = ns.length := hints.length
  -- does the module own the script?
  obtain ⟨own, hown⟩ : ∃ own : Bool, own = (K.lookup a).isSome := ⟨_, rfl⟩
  let o : Obj := { cls := .type "list", data := .seq vs.toArray }
  have hOk : HOk P w (H00 a o ns own) t.heap := by
    intro b u e
    obtain ⟨_, rfl, rfl⟩ := h00_some e
    exact ⟨scr, by rw [List.length_map]; exact short, vs, _, hv, scr⟩
  have keepT : ∀ {b : Addr} {ob : Obj}, t.heap.get? b = some ob → own = true ∨ b ≠ a → (hidT t.heap (H00 a o ns own)).get? b = some ob := fun e n => hidT_get e (h00_none n)
  have notScr : ∀ {b : Addr} {m : Str → Option Value}, t.heap.Ns b m → b ≠ a := by
    rintro b m ⟨ob, es, ep, e, dd, _⟩ rfl
    rw [scr] at e
    cases e
    cases dd
  have nsKeep : ∀ {b : Addr} {m : Str → Option Value}, t.heap.Ns b m → (hidT t.heap (H00 a o ns own)).Ns b m := by
    intro b m n
    have ne := notScr n
    obtain ⟨ob, es, ep, e, r⟩ := n
    exact ⟨ob, es, ep, keepT e (.inr ne), r⟩
  have inK' : K.In (hidT t.heap (H00 a o ns own)) := by
    intro b ob e
    refine keepT (inK b ob e) ?_
    by_cases hb : b = a
    · subst hb
      left
      rw [hown, e]
      rfl
    · exact .inr hb
  have noLim' : (hidT t.heap (H00 a o ns own)).NoLimit := by
    obtain ⟨mc, h1, h2⟩ := noLim
    exact ⟨mc, nsKeep h1, h2⟩
  have env : Env0 P w K mg (hidT t.heap (H00 a o ns own)) callerA [] t (H00 a o ns own) := by
    refine ⟨rfl, ⟨inK', nsKeep glob, ⟨mb, nsKeep blt, boot⟩, noLim'⟩, fun b ob e => of_hidT e, Nat.le_of_eq (hidT_size _ _), trivial, ?_, hOk, .of_eq gens⟩
    intro b hb
    exact absurd (show b ∈ ([] : List Addr) from hb) List.not_mem_nil
  have only : Only (H00 a o ns own) := by
    intro b
    cases e : H00 a o ns own b with
    | none => exact .inl rfl
    | some u =>
      obtain ⟨_, _, rfl⟩ := h00_some e
      exact .inr ⟨_, _, rfl⟩
  have hS : SqL K (H00 a o ns own) a (ns.map V.int) := by
    cases own with
    | false => exact .inl (.inr ⟨o, by unfold H00; rw [if_pos ⟨rfl, rfl⟩]⟩)
    | true =>
      obtain ⟨ob, e⟩ := Option.isSome_iff_exists.mp hown.symm
      have e2 := inK a ob e
      rw [scr] at e2
      cases e2
      exact .inr ⟨_, vs.toArray, _, e, rfl, rfl, rfl, by rw [List.size_toArray, hlv]; exact short, by simpa using hv⟩
  have runs := (F _ inK' (nsKeep glob)).run callerA [] t (H00 a o ns own) ⟨[.ref a], []⟩ [.ref a] [.ref a] _ _ rfl room env (bind t (.ref a)) (.cons rfl .nil) (want _ only hS)
  refine codeAny_mono runs ?_
  intro res s' hres
  match res, hres with
  | .error e, hres => exact (noErr _ e s' hres).elim
  | .ok (.ret u), hres =>
    obtain ⟨v, H', hos, bare, un, ok', rel, rfl⟩ := hres
    obtain rfl : u = Value.bool true := rel
    refine ⟨rfl, OldK.of_keep fun b ob e => ?_, hos, bare⟩
    cases q : H00 a o ns own b with
    | none => exact un.keep b ob e q (fun z => absurd (show b ∈ ([] : List Addr) from z) List.not_mem_nil) List.not_mem_nil
    | some u =>
      obtain ⟨_, _, rfl⟩ := h00_some q
      have q' := un.frzs b _ _ q
      have e1 := (hOk b _ q).1
      rw [e] at e1
      cases e1
      exact (ok' b _ q').1
/-- what k_head leaves -/
theorem walkG {l : PySem.W.OpenLaw} {n k : Nat} {q : Program} {loose : List Str} {XP : (Str → Option Value) → Heap → Prop} {YP : World → Heap → Prop} {d : DefRec} {K : Params → PySem.W.Frag} {CX : World → CXT} {sp : World → Sp} {x : Str}
    (most : l.most = some n) (small : n ≤ sizeLine) (plain : d.params.defaults = []) (room : Room k callerA) (hY : ∀ (w : World) (h : Heap), YP w h → (K w.params).In h)
    (F : ∀ (w : World) (mg : Str → Option Value) (fa : Addr) (h : Heap), (K w.params).In h → h.Ns mainGlobals mg → mg d.name = some (.ref fa) →
      ∃ fd : FuncData, (∀ (s : Shared) (u : Value), BindsTo s fd ⟨[u], []⟩ [(x, u)]) ∧ ∀ base : Heap, (K w.params).In base → base.Ns mainGlobals mg → FnG l.prog w (K w.params) mg base (CX w) k fa fd [x] (sp w))
    (want : ∀ (w : World) (H : Hp) (a : Addr) (ns : List Int), ns.length ≤ n → Only H → SqL (K w.params) H a (ns.map V.int) → sp w [.ref a] H (fun v _ => v = .bl true) fun _ _ _ => False)
    (noErr : ∀ (w : World) (H : Hp) (s : Shared) (e : Value) (s' : Shared), CX w [] H s (fun _ _ _ => False) e s' → False) :
    PySem.W.WalkO q loose XP YP l.row.toRowW d [] (fun f vs => PySem.call f vs) := by
  refine Att.attach_call most plain fun w s₀ t mg mb fa o pm cd doc a vs ns G Y ho hd hcd hmg scr hints hlen gens => ?_
  obtain ⟨fd, bind, body⟩ := F w mg fa _ (hY w _ Y) G.T.g hmg
  exact lawG (hY w _ Y) G.T.g G.T.b G.T.builtins G.T.nolimit gens scr hints (Nat.le_trans hlen small) room body bind (fun H hO hS => want w H a ns hlen hO hS) fun H e s' => noErr w H t e s'
end Gx

set_option maxRecDepth 100000
set_option maxHeartbeats 4000000
namespace Gx
open PySem PySem.Spec PySem.W PySem.Calls Builtin Builtin.ObjectAttr
section
variable {prog : Program} {w : World} {A : Around} {R : Result → Shared → Prop} {hp : Heap} {g : Array GenState} {d : Drawn} {t : Nat} {os : OsState} {K : Frag}
/-- the first field of an own exception, over any built-in base -/
theorem exc_storeX {B : String} {bmB : List Value} {name : Str} {tk : Tok} {v : Value} {x C t0 : Addr} (SF : StoreFacts B bmB "object.__setattr__" "object")
    (inK : K.In hp) (hx : hp.get? x = some (excObj C t0 none .none)) (over : excOver K C bmB = true) (noTake : takerIn K C name = some none) (hasD : hasDictIn K C = true)
    (hq : ∀ (h' : Heap) (tk' : Nat) (dx : Addr), (∀ b o, b ≠ x → hp.get? b = some o → h'.get? b = some o) → hp.objs.size ≤ dx → dx ≠ x → h'.get? x = some (excObj C t0 (some dx) .none) →
      h'.Ns1 dx (fun y => if y = name then some v else none) → R (.ok (.ret .none)) ⟨h', g, d, tk', os⟩) :
    codeAny (model prog w) A (.call (.builtin "object.__setattr__") ⟨[.ref x, .str name tk, v], []⟩) R ⟨hp, g, d, t, os⟩ := by
  have xs : x ≠ hp.objs.size := Nat.ne_of_lt (Heap.lt_size hx)
  refine osa_openX (s := ⟨hp, g, d, t, os⟩) (od := none) SF inK ⟨hx, rfl, rfl, trivial⟩ over noTake fun b => ?_
  obtain ⟨cd, hc, hd⟩ := any_some hasD
  refine wpAny_bind (wpAny_pure (wpAny_bind (instanceDict_exc (s := ⟨hp, g, d, t, os⟩) hx (looks_clsIn inK hc) hd ?_)))
  show wpAny _ _ (storeInDict hp.objs.size (.str name tk) name v) _ _ _
  have hx1 : (hp.push (dictOf [] 0)).get? x = some (excObj C t0 none .none) := Heap.get?_push_of_some _ hx
  refine PySem.HandSPX.store_in_new ⟨_, #[], _, (Heap.get?_update_ne _ _ _ _ xs.symm).trans (Heap.get?_push_at rfl rfl), rfl, fun e he => absurd he (by simp), fun _ => rfl⟩ fun h' tk' hn hs => ?_
  refine hq h' tk' hp.objs.size (fun b o hb ho => ?_) (Nat.le_refl _) xs.symm ((hs.2 x xs).trans (Heap.get?_update_self _ hx1 rfl)) hn
  have bl : b ≠ hp.objs.size := Nat.ne_of_lt (Heap.lt_size ho)
  exact (hs.2 b bl).trans ((Heap.get?_update_ne _ _ _ _ hb).trans (Heap.get?_push_of_some _ ho))
end
end Gx
namespace Gx
open PySem PySem.Spec PySem.W PySem.Calls PyProof.Rows L2
/-! ### own exceptions with one field: class cn(B): def __init__(self, fld): self.fld = fld -/
/-- what the written part says of the class -/
structure XTxt (K : Frag) (mg : Str → Option Value) (cn fld : Str) (newId : String) (bmB : List Value) (C fI : Addr) : Prop where
  gC : mg cn = some (.ref C)
  cls : ∃ nm q N bs bm sn sub ab col dd k0 k1 k2 k3 k5, K.lookup C = some (excClassObj nm q C N bs bm true sn sub ab col dd k0 k1 k2 k3 k5 newId) ∧ excTail bmB bm = true
  over : excOver K C bmB = true
  tak : takerIn K C fld = some none
  hdC : hasDictIn K C = true
  sa : findIn K (.ref C) "__setattr__" = some (some (.builtin "object.__setattr__"))
  ga : findIn K (.ref C) "__getattribute__" = some (some (.builtin "BaseException.__getattribute__"))
  gg : findIn K (.ref C) "__getattr__" = some none
  noN : findIn K (.ref C) fld = some none
  iC : findIn K (.ref C) "__init__" = some (some (.ref fI))
  tC : typeIn K (.ref fI) = some (.type "function")
  kC : keepIn K (.ref C) = true
  exC : subIn K (.ref C) (.type "BaseException") = some true
  tyC : typeIn K (.ref C) = some (.type "type")
  te : exmOne K (.ref C) (.ref C) = some true
/-- what __init__ leaves of a new exception at x -/
structure XInit (h h' : Heap) (x C dx t0 : Addr) (fld : Str) (v : Value) : Prop where
  keep : ∀ b o, b ≠ x → h.get? b = some o → h'.get? b = some o
  obj : h'.get? x = some (excObj C t0 (some dx) .none)
  big : h.objs.size ≤ dx
  ne : dx ≠ x
  ns : h'.Ns1 dx (fun y => if y = fld then some v else none)
/-- __init__ stores the field -/
def InitDoes (K : Frag) (C fI : Addr) (fld : Str) : Prop := ∀ (prog : Program) (w : World) (A : Around) (R : Result → Shared → Prop) (s : Shared) (x t0 : Addr) (v : Value),
  K.In s.heap → s.heap.NoLimit → s.heap.get? x = some (excObj C t0 none .none) → K.lookup x = none → A.depth < recursionLimit →
  (∀ h' tk dx, XInit s.heap h' x C dx t0 fld v → R (.ok (.ret .none)) { s with heap := h', toks := tk }) → codeAny (model prog w) A (.call (.ref fI) ⟨[.ref x, v], []⟩) R s
/-- such an exception, made -/
structure XMade (h h' : Heap) (e C d : Addr) (fld : Str) (v : Value) : Prop where
  keep : ∀ b o, h.get? b = some o → h'.get? b = some o
  new : h.objs.size ≤ e
  obj : ∃ oe vs, h'.get? e = some oe ∧ oe.cls = .ref C ∧ oe.dict = some d ∧ oe.data = .fields vs ∧ vs[1]? = some .none
  big : h.objs.size ≤ d
  ne : d ≠ e
  ns : h'.Ns1 d (fun y => if y = fld then some v else none)
theorem one_line (v : Value) : [v].length ≤ sizeLine := by
  show 1 ≤ sizeLine
  decide
section
variable {prog : Program} {w : World} {A : Around} {R : Result → Shared → Prop} {s : Shared} {K : Frag} {mg : Str → Option Value} {C fI : Addr} {cn fld : Str} {B newId initId : String} {bmB : List Value}
theorem x_made (FB : ExcBaseFacts B newId initId bmB) (T : XTxt K mg cn fld newId bmB C fI) (D : InitDoes K C fI fld) {v : Value} (inK : K.In s.heap) (lim : s.heap.NoLimit) (room : A.depth + 1 < recursionLimit)
    (hq : ∀ h' tk e d, XMade s.heap h' e C d fld v → R (.ok (.ret (.ref e))) { s with heap := h', toks := tk }) : codeAny (model prog w) A (.call (.ref C) ⟨[v], []⟩) R s := by
  obtain ⟨nm, q, N, bs, bm, sn, sub, ab, col, dd, k0, k1, k2, k3, k5, hC, tail⟩ := T.cls
  obtain ⟨hp, g, dr, tk, os⟩ := s
  have stay : ∀ b o, hp.get? b = some o → ((hp.push (kdv_tup [v])).push (excObj C hp.objs.size none .none)).get? b = some o := fun b o e => Heap.get?_push_of_some _ (Heap.get?_push_of_some _ e)
  have there : ((hp.push (kdv_tup [v])).push (excObj C hp.objs.size none .none)).get? (hp.objs.size + 1) = some (excObj C hp.objs.size none .none) := by heap_get
  have fresh : K.lookup (hp.objs.size + 1) = none := by
    cases e : K.lookup (hp.objs.size + 1) with
    | none => rfl
    | some o => exact absurd (Nat.lt_of_succ_lt (Heap.lt_size (inK _ _ e))) (Nat.lt_irrefl _)
  refine PySem.HandSPX.call_own FB (fun Y => excTail_contains Y bm tail) (inK _ _ hC) (looks_findIn inK T.iC) (fun self => bind_fn inK self T.tC) (one_line v) ?_
  refine D prog w _ _ ⟨(hp.push (kdv_tup [v])).push (excObj C hp.objs.size none .none), g, dr, tk, os⟩ _ _ v (inK.keeps stay) (lim.keeps stay) there fresh room fun h' tk' dx M => ?_
  have old : ∀ b o, hp.get? b = some o → h'.get? b = some o := fun b o e => M.keep b o (Nat.ne_of_lt (Nat.lt_succ_of_lt (Heap.lt_size e))) (stay b o e)
  have z : hp.objs.size + 1 + 1 ≤ dx := by
    have q := M.big
    first
      | exact q
      | simpa only [Heap.size_push] using q
  exact ⟨rfl, hq h' tk' (hp.objs.size + 1) dx ⟨old, Nat.le_succ _, ⟨_, _, M.obj, rfl, rfl, rfl, rfl⟩, Nat.le_trans (Nat.le_trans (Nat.le_succ _) (Nat.le_succ _)) z, M.ne, M.ns⟩⟩
end
theorem relO_one {fld : Str} {v : V} {u : Value} (r : RelV v u) (f : Str) : RelO (List.lookup f [(fld, v)]) (if f = fld then some u else none) := by
  by_cases e : f = fld
  · subst e
    rw [if_pos rfl, show List.lookup f [(f, v)] = some v by simp [List.lookup]]
    exact r
  · have q : (f == fld) = false := by simpa using e
    rw [if_neg e, show List.lookup f [(fld, v)] = none by simp [List.lookup, q]]
    trivial
section
variable {X : Cx} {C fI : Addr} {cn fld : Str} {B newId initId : String} {bmB : List Value}
/-- cn(e) -/
def tMkX (C : Addr) (fld : Str) (ta : TA) : L2.St → Hp → XK → Prop := fun σ H Q => ta σ H fun vs H1 => ∃ v, vs = [v] ∧ ∀ d, H1 d = none → Q (.ref C) (some d) (upd H1 d (.xd [(fld, v)]))
theorem pmk_x {a : Expr} {ta : TA} {p pos : Pos} {k : Nat} (FB : ExcBaseFacts B newId initId bmB) (T : XTxt X.K X.mg cn fld newId bmB C fI) (D : InitDoes X.K C fI fld) (room : Room k X.A) (ha : PA X [a] ta) (hg : Gl X cn)
    (hdb : (cn == ("__debug__" : Str)) = false := by decide) (hst : starEach (a :: []) X.env = (false, eval a X.env) :: starEach [] X.env := by rfl) (hpl : (backTo pos (starEach [] X.env)).any (·.1) = false := by rfl) :
    PMk X (.Call (.Name cn p) [a] [] pos) (tMkX C fld ta) := by
  intro pins s σ H Q I h
  refine wpAny_Call_Name_kw (ld_glob I hg T.gC ?_ hdb)
  refine PySem.W.callWith_K (h₀ := X.base) I.ok.mod.kin T.kC (thn (ha.run pos pins s σ H _ I h) ?_) hst hpl
  rintro us s1 ⟨vs, H1, I1, r1, v, rfl, q1⟩
  refine ⟨I1.kIn, ?_⟩
  obtain ⟨u, rfl, rv⟩ := vals1 r1
  show wpAny _ _ (call (.ref C) [u]) _ _ _
  have lim := I1.nolimit
  obtain ⟨hp, g, dr, tk, os⟩ := s1
  refine wpAny_call (x_made FB T D I1.kIn lim (by have := room.dp; omega) fun h' tk' e d M => ?_)
  show MkP X pins σ Q (.ref e) ⟨h', g, dr, tk', os⟩
  obtain ⟨oe, fv, hoe, hc, hd, hdat, h1⟩ := M.obj
  obtain ⟨G', g1, g2⟩ := restrict h' fun b => decide (b ≠ e)
  have off : ∀ b, b ≠ e → G'.get? b = h'.get? b := fun b hb => g1 b (decide_eq_true hb)
  have gone : G'.get? e = none := g2 e (by simp)
  have old : ∀ b o, hp.get? b = some o → G'.get? b = some o := fun b o q => (off b (Nat.ne_of_lt (Nat.lt_of_lt_of_le (Heap.lt_size q) M.new))).trans (M.keep b o q)
  have ob : ObjOk X.prog X.w (upd H1 d (.xd [(fld, v)])) G' d (.xd [(fld, v)]) := ⟨_, M.ns.at (fun o q => (off d M.ne).trans q), fun f => relO_one rv f⟩
  have J : Inv X pins σ (upd H1 d (.xd [(fld, v)])) ⟨G', g, dr, tk', os⟩ := I1.laid (t' := tk') old M.big ob
  refine ⟨e, oe, fv, ⟨G', g, dr, tk', os⟩, _, .ref C, some d, rfl, J, ?_, gone, hoe, ⟨hc, hd⟩, hdat, h1, ?_, rfl, I1.bare, raises_own T.exC T.tyC, q1 d (I1.hok.fresh M.big)⟩
  · intro b o q
    have q' : G'.get? b = some o := q
    by_cases hb : b = e
    · rw [hb, gone] at q'
      cases q'
    · exact (off b hb).symm.trans q
  · rw [upd_ne (Ne.symm M.ne)]
    exact I1.hok.fresh M.new
/-- raise cn(e) -/
def tRaiseX (C : Addr) (fld : Str) (W : WX) (ta : TA) : TS := fun _ σ H => tMkX C fld ta σ H fun cls d H' => W cls d σ H'
theorem ps_raiseX {a : Expr} {ta : TA} {W : WX} {p pos pos2 : Pos} {k : Nat} (hc : X.calm = true) (FB : ExcBaseFacts B newId initId bmB) (T : XTxt X.K X.mg cn fld newId bmB C fI) (D : InitDoes X.K C fI fld) (room : Room k X.A) (tk : Takes X W) (ha : PA X [a] ta) (hg : Gl X cn)
    (hdb : (cn == ("__debug__" : Str)) = false := by decide) (hst : starEach (a :: []) X.env = (false, eval a X.env) :: starEach [] X.env := by rfl) (hpl : (backTo pos (starEach [] X.env)).any (·.1) = false := by rfl) :
    PS X (.Raise (some (.Call (.Name cn p) [a] [] pos)) none pos2) (tRaiseX C fld W ta) := ps_raise hc tk (pmk_x FB T D room ha hg hdb hst hpl)
/-- e.fld, e the exception that the suite holds (at a; its class cls, its dict d) -/
def tByX (C : Addr) (fld : Str) (a : Addr) (cls : Value) (d : Option Addr) (te : TE) : TE := fun σ H Q => te σ H fun x H1 => x = .ref a ∧ cls = .ref C ∧ ∃ (dd : Addr) (v : V), d = some dd ∧ H1 dd = some (.xd [(fld, v)]) ∧ Q v H1
theorem pe_byX {a : Addr} {oe : Obj} {cls : Value} {d : Option Addr} {pn : List (Addr × Obj)} {e : Expr} {te : TE} {pos : Pos} (T : XTxt X.K X.mg cn fld newId bmB C fI) (hz : Zc cls d oe) (hf : ∃ vs, oe.data = .fields vs) (he : PE (X.suite a ((a, oe) :: pn)) e te)
    (hb : attributeBase e fld X.env (eval e X.env) = eval e X.env := by rfl) : PE (X.suite a ((a, oe) :: pn)) (.Attribute e fld pos) (tByX C fld a cls d te) := by
  constructor
  intro pins s σ H Q I h
  refine attr_of hb (thn (he.run pins s σ H _ I h) ?_)
  rintro u s1 ⟨x, H1, I1, rx, rfl, rfl, dd, v, rfl, ea, q⟩
  obtain rfl : u = Value.ref a := rx
  obtain ⟨here, _⟩ := I1.pin (a, oe) (List.mem_append_left _ List.mem_cons_self)
  obtain ⟨vs, hd⟩ := hf
  obtain ⟨mA, hns, hr⟩ := (show ObjOk X.prog X.w H1 s1.heap dd (.xd [(fld, v)]) from I1.hok dd _ ea)
  obtain ⟨od, ho, hl⟩ := lookIn_ns hns
  have l : List.lookup fld [(fld, v)] = some v := by simp [List.lookup]
  have hrf := hr fld
  rw [l] at hrf
  obtain ⟨u, hu, ru⟩ := RelO.some_of (v := v) (o := mA fld) hrf
  have J : PySem.W.InstAt s1.heap a oe C (some od) := ⟨here, hz.1, by unfold PySem.W.notCls; rw [hd] <;> rfl, by rw [hz.2]; exact ho⟩
  exact HandSPX.exc_get I1.kIn J T.ga T.gg T.exC (PySem.W.findObj_own T.hdC T.noN rfl (by rw [hl, hu])) (handed_of ru) ⟨v, H1, I1.tok _, ru, q⟩
end
end Gx
namespace Gx
open PySem PySem.Spec PySem.Calls PyProof.Rows L2
/-! ### calls of defs that may raise, also with keywords, where no repr is under way -/
section
variable {P : Program} {w : World} {K : PySem.W.Frag} {mg : Str → Option Value} {base : Heap}
theorem FnG.toX {k : Nat} {f : Addr} {fd : FuncData} {ps : List Str} {sp : Sp} (F : FnG P w K mg base CX0 k f fd ps sp) : FnG P w K mg base (L2.CX P w) k f fd ps sp := by
  refine ⟨F.len, fun A outer s H args us vs Q E g hr he hb hv hs => codeAny_mono (F.run A outer s H args us vs Q E g hr he hb hv hs) ?_⟩
  intro r s' h
  match r, h with
  | .error e, h => exact h.elim
  | .ok (.ret u), h => exact h
/-- the name x is a def that keeps sp, and may raise -/
def CalX (P : Program) (w : World) (K : PySem.W.Frag) (mg : Str → Option Value) (base : Heap) (k : Nat) (x : Str) (ps : List Str) (sp : Sp) : Prop :=
  ∃ (f : Addr) (fd : FuncData), FnG P w K mg base (L2.CX P w) k f fd ps sp ∧ PySem.W.keepIn K (.ref f) = true ∧ Binds K fd ps [] ∧ mg x = some (.ref f)
theorem CalX.up {j k : Nat} {x : Str} {ps : List Str} {sp : Sp} (c : CalX P w K mg base j x ps sp) (h : j ≤ k) : CalX P w K mg base k x ps sp := by
  obtain ⟨f, fd, F, r⟩ := c
  exact ⟨f, fd, F.up h, r⟩
theorem CalG.toX {k : Nat} {x : Str} {ps : List Str} {sp : Sp} (c : CalG P w K mg base k x ps sp) : CalX P w K mg base k x ps sp := by
  obtain ⟨f, fd, F, r⟩ := c
  exact ⟨f, fd, F.toX, r⟩
theorem Def.calX {x qual : Str} {st : Stmt} {ps : List Str} (d : Def K mg x qual st ps) {k : Nat} {sp : Sp} (h : ∀ f fd, Fun K x qual st f fd → FnG P w K mg base (L2.CX P w) k f fd ps sp) : CalX P w K mg base k x ps sp := by
  obtain ⟨f, fd, F, b, g⟩ := d
  exact ⟨f, fd, h f fd F, F.kp, b, g⟩
/-- .. called with n values by position and keywords ks; gV puts them in the parameters' order -/
def CalK (P : Program) (w : World) (K : PySem.W.Frag) (mg : Str → Option Value) (base : Heap) (k : Nat) (x : Str) (ps : List Str) (n : Nat) (ks : List Str) (gV : List V → List V → List V) (sp : Sp) : Prop :=
  ∃ (f : Addr) (fd : FuncData) (g : List Value → List Value → List Value), FnG P w K mg base (L2.CX P w) k f fd ps sp ∧ PySem.W.keepIn K (.ref f) = true ∧ KBn K fd ps n ks g gV ∧ mg x = some (.ref f)
theorem CalK.up {j k n : Nat} {x : Str} {ps ks : List Str} {gV : List V → List V → List V} {sp : Sp} (c : CalK P w K mg base j x ps n ks gV sp) (h : j ≤ k) : CalK P w K mg base k x ps n ks gV sp := by
  obtain ⟨f, fd, g, F, r⟩ := c
  exact ⟨f, fd, g, F.up h, r⟩
/-- the top's def with keyword-only parameters and no defaults -/
def DefK (K : PySem.W.Frag) (mg : Str → Option Value) (x qual : Str) (st : Stmt) (ps : List Str) (n : Nat) (ks : List Str) : Prop :=
  ∃ (f : Addr) (fd : FuncData), Fun K x qual st f fd ∧ KBn K fd ps n ks (fun us ws => us ++ ws) (fun vs zs => vs ++ zs) ∧ mg x = some (.ref f)
theorem DefK.calK {x qual : Str} {st : Stmt} {ps ks : List Str} {n : Nat} (d : DefK K mg x qual st ps n ks) {k : Nat} {sp : Sp} (h : ∀ f fd, Fun K x qual st f fd → FnG P w K mg base (L2.CX P w) k f fd ps sp) : CalK P w K mg base k x ps n ks (fun vs zs => vs ++ zs) sp := by
  obtain ⟨f, fd, F, b, g⟩ := d
  exact ⟨f, fd, _, h f fd F, F.kp, b, g⟩
theorem kbn_of {fd : FuncData} {ps ks : List Str} {n : Nat} (h : ∀ us ws : List Value, us.length = n → ws.length = ks.length → bindArgs fd ⟨us, ks.zip ws⟩ = pure (ps.zip (us ++ ws))) : KBn K fd ps n ks (fun us ws => us ++ ws) (fun vs zs => vs ++ zs) :=
  ⟨fun s us ws _ h1 h2 => .of_eq (h us ws h1 h2), fun r1 r2 => r1.append r2⟩
end
section
variable {X : Cx}
/-- nothing is raised -/
theorem neverAt (σ : L2.St) : PassesAt (L2.CX X.prog X.w) X σ ((fun _ => E0) σ) := by
  rintro pins H s e s' I ⟨a, B, H', cls, d, _, _, _, _, _, _, _, no⟩
  exact no.elim
theorem runX {k : Nat} {f : Addr} {fd : FuncData} {ps : List Str} {sp : Sp} {E : L2.St → XK} {args : Args} {pins : List (Addr × Obj)} {σ : L2.St} {H : Hp} {s : Shared} {Q : VK} {us : List Value} {vs : List V}
    (F : FnG X.prog X.w X.K X.mg X.base (L2.CX X.prog X.w) k f fd ps sp) (g : Gd X.A) (room : Room k X.A) (hb : BindsTo s fd args (ps.zip us)) (hx : PassesAt (L2.CX X.prog X.w) X σ (E σ))
    (I : Inv X pins σ H s) (r : Vals vs us) (want : sp vs H Q (E σ)) : wpAny (model X.prog X.w) X.A (call (.ref f) args.pos args.kw) (EP X pins σ Q) X.xe s := by
  have hc := F.run X.A X.stack s H args us vs Q (E σ) g room I.env0 hb r want
  refine wpAny_call (codeAny_mono hc ?_)
  intro res s' hres
  match res, hres with
  | .error e, hres => exact hx pins H s e s' I hres
  | .ok (.ret u), hres => exact I.after hres
def tClX (sp : Sp) (E : L2.St → XK) (t : TA) : TE := fun σ H Q => t σ H fun vs H1 => sp vs H1 Q (E σ)
theorem pe_calX {x : Str} {ps : List Str} {sp : Sp} {k : Nat} {e : Expr} {es : List Expr} {t : TA} {E : L2.St → XK} {p pos : Pos} (c : CalX X.prog X.w X.K X.mg X.base k x ps sp) (g : Gd X.A) (room : Room k X.A) (hg : Gl X x) (hx : ∀ σ, PassesAt (L2.CX X.prog X.w) X σ (E σ)) (h : PA X (e :: es) t)
    (hdb : (x == ("__debug__" : Str)) = false := by decide) (hst : starEach (e :: es) X.env = (false, eval e X.env) :: starEach es X.env := by rfl) (hpl : (backTo pos (starEach es X.env)).any (·.1) = false := by rfl) :
    PE X (.Call (.Name x p) (e :: es) [] pos) (tClX sp E t) := by
  obtain ⟨f, fd, F, kp, b, hm⟩ := c
  refine ⟨fun pins s σ H Q I want => wpAny_Call_Name_kw (ld_glob I hg hm ?_ hdb)⟩
  refine PySem.W.callWith_K (h₀ := X.base) I.ok.mod.kin kp (thn (h.run pos pins s σ H _ I want) fun us s1 ⟨vs, H1, I1, r, q⟩ => ⟨I1.kIn, ?_⟩) hst hpl
  have hl : us.length = ps.length := r.length.symm.trans (F.len _ _ _ _ q)
  have b1 := b s1 us I1.kIn (by rw [List.append_nil]; exact hl)
  rw [List.append_nil] at b1
  exact runX (args := ⟨us, []⟩) F g room b1 (hx σ) I1 r q
def tClK (n m : Nat) (sp : Sp) (gV : List V → List V → List V) (E : L2.St → XK) (t tk : TA) : TE := fun σ H Q => t σ H fun vs H1 => tk σ H1 fun zs H2 => vs.length = n ∧ zs.length = m ∧ sp (gV vs zs) H2 Q (E σ)
theorem pe_calK {x : Str} {ps ks : List Str} {n : Nat} {gV : List V → List V → List V} {sp : Sp} {k : Nat} {e : Expr} {es : List Expr} {kws : List Keyword} {t tk : TA} {E : L2.St → XK} {p pos : Pos} (c : CalK X.prog X.w X.K X.mg X.base k x ps n ks gV sp) (g : Gd X.A) (room : Room k X.A) (hg : Gl X x)
    (hx : ∀ σ, PassesAt (L2.CX X.prog X.w) X σ (E σ)) (h : PA X (e :: es) t) (hk : PK X kws tk) (hall : (backToKw pos (keywordEach kws X.env)).all (·.1.isSome) = true := by rfl) (hks : (backToKw pos (keywordEach kws X.env)).filterMap (·.1) = ks := by rfl)
    (hdb : (x == ("__debug__" : Str)) = false := by decide) (hst : starEach (e :: es) X.env = (false, eval e X.env) :: starEach es X.env := by rfl)
    (hpl : ((backTo pos (starEach (e :: es) X.env)).any (·.1) || (backToKw pos (keywordEach kws X.env)).any (·.1.isNone)) = false := by rfl) :
    PE X (.Call (.Name x p) (e :: es) kws pos) (tClK n ks.length sp gV E t tk) := by
  obtain ⟨f, fd, gg, F, kp, b, hm⟩ := c
  refine ⟨fun pins s σ H Q I want => wpAny_Call_Name_kw (ld_glob I hg hm ?_ hdb)⟩
  refine PySem.W.callWith_KW (h₀ := X.base) I.ok.mod.kin kp hall (thn (h.run pos pins s σ H _ I want) ?_) hpl hst
  rintro us s1 ⟨vs, H1, I1, r, q⟩
  refine thn (hk.run pos pins s1 σ H1 _ I1 q) ?_
  rintro ws s2 ⟨zs, H2, I2, rz, l1, l2, q2⟩
  refine ⟨I2.kIn, ?_⟩
  rw [hks]
  exact runX (args := ⟨us, ks.zip ws⟩) F g room (b.to s2 us ws I2.kIn (r.length.symm.trans l1) (rz.length.symm.trans l2)) (hx σ) I2 (b.rel r rz) q2
end
end Gx

set_option maxRecDepth 100000
set_option maxHeartbeats 4000000
namespace Mx
open PySem PySem.Spec PyProof.Rows L2 Gx
/-! ### names: the mathematics -/
def isLow (c : Nat) : Bool := decide (97 ≤ c ∧ c ≤ 122)
/-- whether a text is a name -/
def nameB (z : Str) : Bool := (decide (1 ≤ z.cps.size) && decide (z.cps.size ≤ 8)) && z.cps.toList.all isLow
theorem low_facts : ∀ c, c < 128 → (isLow c = true → Unicode.isAlpha c = true ∧ Unicode.isLower c = true ∧ Unicode.isUpper c = false ∧ Unicode.isTitle c = false) ∧ (Unicode.isAlpha c = true → Unicode.isUpper c = false → isLow c = true) := by decide +kernel
theorem isLow_lt {c : Nat} (h : isLow c = true) : c < 128 := by
  have := of_decide_eq_true h
  omega
/-- what is_name reckons of a text -/
theorem name_by (z : Str) (h1 : 1 ≤ z.cps.size) : (Txt.isascii z && (Txt.isalpha z && Txt.islower z)) = z.cps.toList.all isLow := by
  have hl : z.length = z.cps.size := rfl
  unfold Txt.isascii Txt.isalpha Txt.islower
  rw [Bool.eq_iff_iff]
  simp only [Bool.and_eq_true, Array.all_eq_true', Array.any_eq_true', List.all_eq_true, decide_eq_true_eq, Bool.not_eq_true', Array.any_eq_false', Bool.or_eq_true, not_or, Bool.not_eq_true, Array.mem_toList_iff, hl]
  constructor
  · rintro ⟨ha, ⟨_, hb⟩, _, hd⟩ c hc
    exact (low_facts c (ha c hc)).2 (hb c hc) (hd c hc).1
  · intro h
    have f := fun c hc => (low_facts c (isLow_lt (h c hc))).1 (h c hc)
    refine ⟨fun c hc => isLow_lt (h c hc), ⟨h1, fun c hc => (f c hc).1⟩, ⟨z.cps[0], Array.getElem_mem (by omega), (f _ (Array.getElem_mem (by omega))).2.1⟩, fun c hc => ⟨(f c hc).2.2.1, (f c hc).2.2.2⟩⟩
/-! ### counts -/
def abcL : List Nat := [97,98,99,100,101,102,103,104,105,106,107,108,109,110,111,112,113,114,115,116,117,118,119,120,121,122]
theorem count_cnt (x : Str) (c : Nat) : Txt.count x ⟨#[c]⟩ = cnt c x.cps.toList := count_is x c
theorem one_sum (n : Nat) : ∀ L : List Nat, L.Nodup → (L.map fun c => if n = c then (1 : Int) else 0).sum = if n ∈ L then 1 else 0
  | [], _ => rfl
  | a :: L, h => by
    obtain ⟨h1, h2⟩ := List.nodup_cons.mp h
    rw [List.map_cons, List.sum_cons, one_sum n L h2]
    by_cases e : n = a
    · subst e
      rw [if_pos rfl, if_neg h1, if_pos (List.mem_cons_self ..)]
      rfl
    · rw [if_neg e]
      by_cases m : n ∈ L
      · rw [if_pos m, if_pos (List.mem_cons_of_mem _ m)]; rfl
      · rw [if_neg m, if_neg (by
          rw [List.mem_cons]
          rintro (z | z)
          · exact e z
          · exact m z)]; rfl
theorem cnt_sum (L : List Nat) (hL : L.Nodup) : ∀ l : List Nat, (L.map fun c => cnt c l).sum = (l.countP (fun n => decide (n ∈ L)) : Nat)
  | [] => by
    have : ∀ L : List Nat, (L.map fun c => cnt c []).sum = 0 := fun L => by
      induction L with
      | nil => rfl
      | cons a L ih => rw [List.map_cons, List.sum_cons, ih]; rfl
    rw [this]
    rfl
  | n :: r => by
    have h : ∀ L : List Nat, (L.map fun c => cnt c (n :: r)).sum = (L.map fun c => if n = c then (1 : Int) else 0).sum + (L.map fun c => cnt c r).sum := fun L => by
      induction L with
      | nil => rfl
      | cons a L ih => rw [List.map_cons, List.sum_cons, ih, cnt_cons, List.map_cons, List.sum_cons, List.map_cons, List.sum_cons]; omega
    rw [h, one_sum n L hL, cnt_sum L hL r, List.countP_cons]
    by_cases m : n ∈ L
    · rw [if_pos m, if_pos (decide_eq_true m)]; omega
    · rw [if_neg m, if_neg (by rw [decide_eq_false m]; decide)]; omega
theorem mem_abc (n : Nat) : n ∈ abcL ↔ isLow n = true := by
  unfold isLow
  rw [decide_eq_true_eq]
  constructor
  · intro h
    have : ∀ n ∈ abcL, 97 ≤ n ∧ n ≤ 122 := by decide
    exact this n h
  · intro h
    have : ∀ n, n < 123 → 97 ≤ n → n ∈ abcL := by decide
    exact this n (by omega) h.1
/-- all letters' counts together -/
def known (z : Str) (L : List Nat) : Int := (L.map fun c => Txt.count z ⟨#[c]⟩).sum
theorem known_eq (z : Str) : known z abcL = (z.cps.toList.countP isLow : Nat) := by
  unfold known
  have e : (abcL.map fun c => Txt.count z ⟨#[c]⟩) = abcL.map fun c => cnt c z.cps.toList := List.map_congr_left fun c _ => count_cnt z c
  rw [e, cnt_sum abcL (by decide)]
  congr 2
  funext n
  rw [Bool.eq_iff_iff, decide_eq_true_eq, mem_abc]
theorem due_eq (z : Str) : (decide (known z abcL = (z.cps.size : Int)) && (decide ((0 : Int) < known z abcL) && decide (known z abcL < 9))) = nameB z := by
  rw [known_eq]
  unfold nameB
  have hz : z.cps.size = z.cps.toList.length := by simp
  have hle := List.countP_le_length (p := isLow) (l := z.cps.toList)
  by_cases h : z.cps.toList.countP isLow = z.cps.toList.length
  · have ha : z.cps.toList.all isLow = true := by
      rw [List.all_eq_true]
      exact List.countP_eq_length.mp h
    rw [ha, h, hz]
    generalize z.cps.toList.length = n
    rw [Bool.and_true, decide_eq_true (show (n : Int) = (n : Int) from rfl), Bool.true_and]
    have e1 : decide ((0 : Int) < (n : Int)) = decide (1 ≤ n) := decide_eq_decide.mpr (by omega)
    have e2 : decide ((n : Int) < 9) = decide (n ≤ 8) := decide_eq_decide.mpr (by omega)
    rw [e1, e2]
  · have ha : z.cps.toList.all isLow = false := by
      rw [Bool.eq_false_iff]
      intro q
      rw [List.all_eq_true] at q
      exact h (List.countP_eq_length.mpr q)
    rw [ha, Bool.and_false, decide_eq_false (by omega), Bool.false_and]
theorem known_step (z : Str) {L : List Nat} {i c : Nat} (h : L[i]? = some c) : known z (L.take (i + 1)) = known z (L.take i) + Txt.count z ⟨#[c]⟩ := by
  unfold known
  have e : (L.map fun c => Txt.count z ⟨#[c]⟩)[i]? = some (Txt.count z ⟨#[c]⟩) := by rw [List.getElem?_map, h]; rfl
  rw [List.map_take, List.map_take, sum_take e]
end Mx

set_option maxRecDepth 100000
set_option maxHeartbeats 4000000
namespace Mx
open PySem PySem.Spec PyProof.Rows L2 Gx
/-! ### the order of texts -/
/-- a is not behind b -/
def leS (a b : Str) : Prop := ¬ b.cps.toList < a.cps.toList
theorem leS_iff (a b : Str) : leS a b ↔ ltCps b.cps.toList a.cps.toList = false := by
  rw [ltCps_eq, decide_eq_false_iff_not]
  exact Iff.rfl
theorem leS_anti {a b : Str} (h1 : leS a b) (h2 : leS b a) : a = b := by
  have e : a.cps.toList = b.cps.toList := List.le_antisymm (as := a.cps.toList) (bs := b.cps.toList) h1 h2
  cases a
  cases b
  simp only [Str.mk.injEq]
  exact Array.toList_inj.mp e
theorem leS_refl (a : Str) : leS a a := List.lt_irrefl _
theorem leS_trans {a b c : Str} (h1 : leS a b) (h2 : leS b c) : leS a c :=
  List.le_trans (l₁ := a.cps.toList) (l₂ := b.cps.toList) (l₃ := c.cps.toList) h1 h2
theorem leS_total (a b : Str) : leS a b ∨ leS b a := List.le_total a.cps.toList b.cps.toList
theorem risingS_iff : ∀ (l : List Str) (p : Str), risingS p l = true ↔ (p :: l).Pairwise leS
  | [], p => by simp [risingS]
  | x :: r, p => by
    rw [risingS, Bool.and_eq_true, risingS_iff r x, Bool.not_eq_true', ← leS_iff]
    constructor
    · rintro ⟨h1, h2⟩
      refine List.pairwise_cons.mpr ⟨fun y hy => ?_, h2⟩
      rcases List.mem_cons.mp hy with rfl | hy
      · exact h1
      · exact leS_trans h1 ((List.pairwise_cons.mp h2).1 y hy)
    · intro h
      obtain ⟨h1, h2⟩ := List.pairwise_cons.mp h
      exact ⟨h1 x (List.mem_cons_self ..), h2⟩
theorem sortedS_iff (l : List Str) : sortedS l = true ↔ l.Pairwise leS := by
  cases l with
  | nil => simp [sortedS]
  | cons x r => exact risingS_iff r x
theorem sortedS_unique {l m : List Str} (h : l.Perm m) (hl : sortedS l = true) (hm : sortedS m = true) : l = m :=
  List.Perm.eq_of_pairwise (fun _ _ _ _ => leS_anti) ((sortedS_iff l).mp hl) ((sortedS_iff m).mp hm) h
/-- a list of texts is what sorting makes of it just if it is sorted -/
theorem eq_sorted_iff {l m : List Str} (h : m.Perm l) (hm : sortedS m = true) : decide (l = m) = sortedS l := by
  cases e : sortedS l with
  | true => exact decide_eq_true (sortedS_unique h.symm e hm)
  | false => exact decide_eq_false fun q => by rw [q, hm] at e; cases e
/-! ### data of texts -/
def tD (xs : List Str) : List PyData := xs.map PyData.str
theorem eqv_texts : ∀ xs ys : List Str, PyData.eqvAll (tD xs) (tD ys) = decide (xs = ys)
  | [], [] => by simp [tD, PyData.eqvAll]
  | [], y :: ys => by simp [tD, PyData.eqvAll]
  | x :: xs, [] => by simp [tD, PyData.eqvAll]
  | x :: xs, y :: ys => by
    have ih := eqv_texts xs ys
    unfold tD at ih ⊢
    rw [List.map_cons, List.map_cons, PyData.eqvAll, ih, PyData.eqv]
    by_cases h : x = y
    · subst h
      by_cases h2 : xs = ys
      · subst h2
        simp
      · rw [decide_eq_false h2, Bool.and_false, decide_eq_false fun q => h2 (List.cons.inj q).2]
    · rw [decide_eq_false fun q => h (List.cons.inj q).1, beq_eq_false_iff_ne.mpr h, Bool.false_and]
theorem dp_texts {K : PySem.W.Frag} {H : Hp} : ∀ xs : List Str, DpAll K H (xs.map V.str) (tD xs)
  | [] => .nil
  | x :: xs => .cons (.str x) (dp_texts xs)
theorem canLay_texts : ∀ xs : List Str, (∀ x ∈ xs, PyData.strOk x = true) → PyData.canLayAll0 (tD xs) = true
  | [], _ => by simp [tD, PyData.canLayAll0]
  | x :: xs, h => by
    have ih := canLay_texts xs fun y hy => h y (List.mem_cons_of_mem _ hy)
    unfold tD at ih ⊢
    rw [List.map_cons, PyData.canLayAll0, ih, PyData.canLay0, h x (List.mem_cons_self ..)]
    rfl
theorem depth_texts : ∀ xs : List Str, PyData.depthAll (tD xs) ≤ 1
  | [] => by simp [tD, PyData.depthAll]
  | x :: xs => by
    have ih := depth_texts xs
    unfold tD at ih ⊢
    rw [List.map_cons, PyData.depthAll]
    simp only [PyData.depth]
    omega
theorem shaped_texts {xs : List Str} (h : ∀ x ∈ xs, PyData.strOk x = true) : SeqAt.shaped (.list (tD xs)) = true := by
  unfold SeqAt.shaped
  rw [Bool.and_eq_true]
  refine ⟨by simp only [PyData.canLay0]; exact canLay_texts xs h, decide_eq_true ?_⟩
  have := depth_texts xs
  simp only [PyData.depth]
  omega
theorem shaped_textsT {xs : List Str} (h : ∀ x ∈ xs, PyData.strOk x = true) : SeqAt.shaped (.tuple (tD xs)) = true := by
  unfold SeqAt.shaped
  rw [Bool.and_eq_true]
  refine ⟨by simp only [PyData.canLay0]; exact canLay_texts xs h, decide_eq_true ?_⟩
  have := depth_texts xs
  simp only [PyData.depth]
  omega
end Mx

set_option maxRecDepth 100000
set_option maxHeartbeats 4000000
namespace Gx
open PySem PySem.Spec PyProof.Rows L2 SeqAt
open AutoSeq1 (wpAny_loadPart')
/-! ### a dict is no tuple -/
theorem tup_eq_dict (l b : Addr) (items : Array Value) (n : Nat) (dd dd2 : Option Addr) (sl sl2 : Array (Option Value)) (d2 : Data) :
    Meets (Builtin.«tuple.__eq__» ⟨[.ref l, .ref b], []⟩) (fun _ R s => s.heap.get? l = some { cls := .type "tuple", dict := dd, data := .seq items n, slots := sl } ∧ s.heap.get? b = some { cls := .type "dict", dict := dd2, data := d2, slots := sl2 } ∧ R (.ok (.ret .notImplemented)) s) :=
  .of_wp fun prog w A R s h => by obtain ⟨hp, g, d, tk, os⟩ := s; obtain ⟨hl, hb, h⟩ := h; have f1 := F.sub_dict_tuple; wp_walk using wpAny_loadPart' hl, wpAny_loadPart' hb; exact ⟨_, rfl, h⟩
theorem dict_eq_tup {prog : Program} {w : World} {A : Around} {E : Value → Shared → Prop} {s : Shared} {Q : Value → Shared → Prop} {a b : Addr} (da : s.TypeIs (.ref a) "dict") (hb : s.TypeIs (.ref b) "tuple") (h : Q .notImplemented s) :
    wpAny (model prog w) A (call (.builtin "dict.__eq__") [.ref a, .ref b]) Q E s := by
  refine wpAny_call_entry PySem.F.slot_dict_eq da PySem.F.entry_dict_eq ?_ (PySem.F.args_dict_eq_2 _ _)
  show wpAny _ _ (Builtin.Dict.dictSlotArgs "__eq__" ⟨[.ref a, .ref b], []⟩ >>= _) _ _ s
  refine wpAny_bind ?_
  unfold Builtin.Dict.dictSlotArgs
  refine wpAny_bind (wpAny_notOrdered_dict da ?_)
  show wpAny _ _ (pure (Value.ref a, Value.ref b)) _ _ s
  refine wpAny_pure ?_
  refine wpAny_bind (wpAny_isInstance (T := "tuple") hb PySem.F.sub_tuple_dict ?_)
  simp only [Bool.not_false, if_true]
  exact wpAny_bind (wpAny_rule (wpAny_bind (wpAny_pure (wpAny_pure ⟨_, rfl, h⟩))))
section
variable {A : Around} {s : Shared}
theorem eqAt_tup_dict {l b : Addr} {items : Array Value} {ob : Obj} (hl : s.heap.IsTuple l items) (hb : s.heap.get? b = some ob) (hcb : ob.cls = .type "dict") (hu : A.units < cLine) : EqAt A s (.ref l) (.ref b) false := by
  obtain ⟨⟨cls, dd, data, sl⟩, ho, hc, n, hd⟩ := id hl
  simp only at hc hd
  subst hc hd
  obtain ⟨cls2, dd2, data2, sl2⟩ := ob
  simp only at hcb
  subst hcb
  have hne : l ≠ b := fun e => by
    subst e
    rw [ho] at hb
    exact absurd (congrArg Obj.cls (Option.some.inj hb)) (by simp)
  refine .of_refs hne fun prog w E Q h => ?_
  exact rc_eq_decline_or (k := false) ⟨_, ho, rfl⟩ ⟨_, hb, rfl⟩ (by decide) F.sub_dict_tuple F.slot_tuple_eq F.slot_dict_eq_refl
    (fun _ hq => call_meets F.slot_tuple_eq ⟨_, ho, rfl⟩ F.entry_tuple_eq (F.args_tuple_eq_2 _ _) (tup_eq_dict l b items n dd dd2 sl sl2 data2) ⟨ho, hb, hq⟩)
    (fun _ hq => dict_eq_tup ⟨_, hb, rfl⟩ ⟨_, ho, rfl⟩ hq)
    (fun _ hq => wpAny_isSame_ref_other' hne ho hb (by simp) hq) (.inr hu) h
end
section
variable {X : Cx}
/-- x in a list, data that are not deep -/
def rInF (K : PySem.W.Frag) : R2 := fun x y H Q => ∃ d ds, Dp K H x d ∧ Dp K H y (.list ds) ∧ d.canLay0 = true ∧ PyData.canLayAll0 ds = true ∧ d.depth ≤ 10 ∧ Q (.bl (ds.any fun z => PyData.eqv z d)) H
theorem op_inF (hu : X.A.units + 64 < cLine) : OpR X (compareOp .In) (rInF X.K) := by
  intro pins s σ H x y v u Q I rx ry h
  obtain ⟨d, ds, hd, he, sd, se, dp, q⟩ := h
  obtain ⟨as, r1⟩ := Dp.reads I d x v hd rx
  obtain ⟨bs, r2⟩ := Dp.reads I (.list ds) y u he ry
  exact SeqAt.in_list_reads r2 r1 se sd (by omega) ⟨.bl _, H, I, rfl, q⟩
/-- a dict in a list of tuples: it is not in it -/
def rInDict (K : PySem.W.Frag) : R2 := fun x y H Q => ∃ (a l : Addr) (kvs : List (Key × V)) (ps : List Addr), x = .ref a ∧ H a = some (.dK kvs) ∧ y = .ref l ∧ SqL K H l (ps.map V.ref) ∧ (∀ p ∈ ps, ∃ xs, SqT K H p xs) ∧ Q (.bl false) H
theorem op_inDict (hu : X.A.units + 64 < cLine) : OpR X (compareOp .In) (rInDict X.K) := by
  intro pins s σ H x y v u Q I rx ry h
  obtain ⟨a, l, kvs, ps, rfl, ea, rfl, hl, hp, q⟩ := h
  cases rx
  cases ry
  obtain ⟨its, rv, pl, hz⟩ := I.list hl
  have ei := refs_at rv
  subst ei
  obtain ⟨_, _, vs, _, hd⟩ := dk_of I.hok ea
  obtain ⟨ob, hb, hD⟩ := Heap.dictOf_iff.mp hd
  have hcb : ob.cls = .type "dict" := by
    obtain ⟨es, ep, ex, _⟩ := hD
    exact ex.1
  refine SeqAt.in_listAt (fun _ => false) pl.isList (fun y hy => ?_) ⟨.bl false, H, I, ?_, q⟩
  · rw [List.mem_toArray] at hy
    obtain ⟨p, hpm, rfl⟩ := List.mem_map.mp hy
    obtain ⟨xs, hx⟩ := hp p hpm
    obtain ⟨its2, _, ht, _⟩ := I.tuple hx
    exact eqAt_tup_dict ht hb hcb (by show X.A.units + 1 < cLine; omega)
  · show Value.bool _ = Value.bool false
    rw [Array.any_eq_false' |>.mpr (fun _ _ => by simp)]
end
end Gx

set_option maxRecDepth 100000
set_option maxHeartbeats 4000000
/-! own errors over a built-in error that takes another's maker (KeyError takes LookupError's) -/
namespace Gx
open PySem PySem.Spec PySem.Calls Builtin
/-- what making asks of the chain -/
structure Chn (B : String) (bm : List Value) : Prop where
  own : bm.contains (.type B) = true
  att : bm.contains (.type "AttributeError") = false
  nam : bm.contains (.type "NameError") = false
section
variable {M : Model} {prog : Program} {w : World} {A : Around} {E : Value → Shared → Prop} {R : Result → Shared → Prop} {hp : Heap} {gn : Array GenState} {dr : Drawn} {tk : Nat} {os : OsState}
variable {nm q : Str} {C N : Addr} {bs bm bmB : List Value} {hdct : Bool} {sn : List Str} {sub : List Value} {ab : Bool} {col : Option Bool} {dd : Option Addr} {k0 k1 k2 k3 k5 : Option Value} {B mk ini : String}
theorem kx_check (F : ExcBaseFacts B mk ini bmB) (ch : Chn B bm) {us : List Value} {Q : Unit → Shared → Prop} (cc : hp.get? C = some (excClassObj nm q C N bs bm hdct sn sub ab col dd k0 k1 k2 k3 k5 mk)) (hq : Q () ⟨hp, gn, dr, tk, os⟩) :
    wpAny M A (checkBuiltinCall mk ⟨.ref C :: us, []⟩) Q E ⟨hp, gn, dr, tk, os⟩ := by
  have c1 : (Value.ref C :: bm).contains (.type B) = true := by rw [List.contains_cons, ch.own, Bool.or_true]
  have st := F.noStar
  simp only [F.newRow, F.newSplit, F.newKind, checkBuiltinCall]
  repeat (first | refine wpAny_loadPart_at cc ?_ | (refine wpAny_isSubtype_exc cc ?_; rw [c1]) | refine wpAny_staticBase_exc cc ?_ | refine wpAny_madeBy_exc cc ?_ | simp only [bne_self_eq_false, Bool.false_eq_true, if_false] | wp_step)
  exact hq
theorem kx_new (F : ExcBaseFacts B mk ini bmB) (ch : Chn B bm) {us : List Value} (cc : hp.get? C = some (excClassObj nm q C N bs bm hdct sn sub ab col dd k0 k1 k2 k3 k5 mk))
    (hq : R (.ok (.ret (.ref (hp.objs.size + 1)))) ⟨(hp.push (W.kdv_tup us)).push (W.excObj C hp.objs.size none .none), gn, dr, tk, os⟩) (hz : us.length ≤ sizeLine) :
    codeAny (model prog w) A (.builtin mk ⟨.ref C :: us, []⟩) R ⟨hp, gn, dr, tk, os⟩ := by
  have fe := F.ends
  have c1 : (Value.ref C :: bm).contains (.type B) = true := by rw [List.contains_cons, ch.own, Bool.or_true]
  have c2 : (Value.ref C :: bm).contains (.type "AttributeError") = false := by rw [List.contains_cons, ch.att]; rfl
  have c3 : (Value.ref C :: bm).contains (.type "NameError") = false := by rw [List.contains_cons, ch.nam]; rfl
  refine codeAny_builtinAt F.entry ?_
  unfold Builtin.«BaseException.__new__»
  refine wpAt_bind ?_
  show wpAt _ _ _ (stack >>= _) _ _ _
  refine wpAt_bind (wpAt_stack fun p0 low => wpAt_of_wpAny ?_)
  wp_walk
  refine wpAt_of_wpAny ?_
  rw [F.owner]
  repeat (first | with_reducible refine wpAny_madeHere_exc F.canon cc ?_ | with_reducible refine wpAny_loadPart_at cc ?_ | (with_reducible refine wpAny_isSubtype_exc cc ?_; first | rw [c1] | rw [c2] | rw [c3]) | wp_step)
  show R _ _
  rw [Heap.size_push]
  exact hq
theorem kx_type (F : ExcBaseFacts B mk ini bmB) (ch : Chn B bm) {us : List Value} {fI : Addr} {Q : Fin → Shared → Prop} (cc : hp.get? C = some (excClassObj nm q C N bs bm hdct sn sub ab col dd k0 k1 k2 k3 k5 mk))
    (li : W.Looks (model prog w) hp (typeLookup (.ref C) "__init__") (some (.ref fI))) (lb : ∀ o, W.Looks (model prog w) hp (bindSpecial (.ref fI) o) (.ref fI, [o])) (hz : us.length ≤ sizeLine)
    (hq : codeAny (model prog w) A (.call (.ref fI) ⟨.ref (hp.objs.size + 1) :: us, []⟩)
      (fun r s' => match r with | .ok (.ret v) => v = .none ∧ Q (.done (.ret (.ref (hp.objs.size + 1)))) s' | .ok _ => False | .error e => E e s')
      ⟨(hp.push (W.kdv_tup us)).push (W.excObj C hp.objs.size none .none), gn, dr, tk, os⟩) : wpAny (model prog w) A (Builtin.«type.__call__» ⟨.ref C :: us, []⟩) Q E ⟨hp, gn, dr, tk, os⟩ := by
  repeat (first | with_reducible refine wpAny_loadPart_at cc ?_ | with_reducible refine wpAny_madeBy_exc cc ?_ | wp_step)
  refine codeAny_call_builtin_code (Code.quiet_builtin _ F.quiet) (kx_check F ch cc ?_)
  refine kx_new F ch cc ?_ hz
  show wpAny _ _ _ _ _ _
  have old : ∀ b o, hp.get? b = some o → ((hp.push (W.kdv_tup us)).push (W.excObj C hp.objs.size none .none)).get? b = some o := fun b o e => Heap.get?_push_of_some _ (Heap.get?_push_of_some _ e)
  have cc1 := old _ _ cc
  have ne : ((hp.push (W.kdv_tup us)).push (W.excObj C hp.objs.size none .none)).get? (hp.objs.size + 1) = some (W.excObj C hp.objs.size none .none) := by heap_get
  have cs : (Value.ref C :: bm).contains (.ref C) = true := by simp
  have li1 := li.keeps old
  have lb1 := (lb (.ref (hp.objs.size + 1))).keeps old
  unfold isInstance
  repeat (first | with_reducible refine wpAny_loadPart_at ne ?_ | (with_reducible refine wpAny_isSubtype_exc cc1 ?_; rw [cs]) | wp_step)
  show wpAny _ _ (typeLookup (.ref C) _) _ _ _
  refine li1.at ?_
  refine wpAny_holding (wpAny_bind (lb1.at ?_))
  refine wpAny_bind (wpAny_call (codeAny_mono hq fun r s1 z => ?_))
  rcases r with e | (v | _ | _ | _) <;> first | exact z | exact z.elim | skip
  obtain ⟨rfl, z⟩ := z
  first | exact wpAny_pure (wpAny_pure z) | (wp_walk; exact z)
theorem kx_call (F : ExcBaseFacts B mk ini bmB) (ch : Chn B bm) {us : List Value} {fI : Addr} (cc : hp.get? C = some (excClassObj nm q C N bs bm hdct sn sub ab col dd k0 k1 k2 k3 k5 mk))
    (li : W.Looks (model prog w) hp (typeLookup (.ref C) "__init__") (some (.ref fI))) (lb : ∀ o, W.Looks (model prog w) hp (bindSpecial (.ref fI) o) (.ref fI, [o])) (hz : us.length ≤ sizeLine)
    (hq : codeAny (model prog w) (A.under (.builtin "type.__call__" ⟨.ref C :: us, []⟩)) (.call (.ref fI) ⟨.ref (hp.objs.size + 1) :: us, []⟩) (W.InitBack (hp.objs.size + 1) R)
      ⟨(hp.push (W.kdv_tup us)).push (W.excObj C hp.objs.size none .none), gn, dr, tk, os⟩) : codeAny (model prog w) A (.call (.ref C) ⟨us, []⟩) R ⟨hp, gn, dr, tk, os⟩ := by
  have t1 := tc_lookup
  have t2 := tc_bind (.ref C)
  have t3 : (⟨hp, gn, dr, tk, os⟩ : Shared).TypeIs (.ref C) "type" := ⟨_, cc, rfl⟩
  refine codeAny_of_tree ?_
  show wpAny _ _ (callAny (.ref C) _) _ _ _
  repeat (any_goals (first | assumption | with_reducible refine wpAny_loadPart_at cc ?_ | wp_step))
  refine ⟨rfl, ?_⟩
  refine codeAny_call_builtin_at (Code.quiet_builtin _ (by decide +kernel)) entry_typeCall (wpAny_check_type_call_sub cc (kx_type F ch cc li lb hz ?_))
  refine codeAny_mono hq fun r s1 z => ?_
  rcases r with e | (v | _ | _ | _) <;> exact z
end
end Gx
namespace Gx
open PySem PySem.Spec PySem.W PySem.Calls PyProof.Rows L2
/-! ### own errors with one field, made, over any base -/
/-- a base: the maker's facts, and what each chain over it holds -/
structure XBase (B mk ini : String) (bmF bmB : List Value) : Prop where
  F : ExcBaseFacts B mk ini bmF
  ch : ∀ bm : List Value, excTail bmB bm = true → Chn B bm
theorem xbase_of {B mk ini : String} {bmB : List Value} (F : ExcBaseFacts B mk ini bmB) : XBase B mk ini bmB bmB :=
  ⟨F, fun bm t => ⟨by rw [excTail_contains _ bm t]; exact F.hasB, by rw [excTail_contains _ bm t]; exact F.noAttr, by rw [excTail_contains _ bm t]; exact F.noName⟩⟩
abbrev bmKey : List Value := [.type "KeyError", .type "LookupError", .type "Exception", .type "BaseException", .type "object"]
theorem xbase_KeyError : XBase "LookupError" "LookupError.__new__" "LookupError.__init__" [.type "LookupError", .type "Exception", .type "BaseException", .type "object"] bmKey :=
  ⟨PySem.F.excBase_LookupError, fun bm t => ⟨by rw [excTail_contains _ bm t]; decide +kernel, by rw [excTail_contains _ bm t]; decide +kernel, by rw [excTail_contains _ bm t]; decide +kernel⟩⟩
section
variable {prog : Program} {w : World} {A : Around} {R : Result → Shared → Prop} {s : Shared} {K : Frag} {mg : Str → Option Value} {C fI : Addr} {cn fld : Str} {B mk ini : String} {bmF bmB : List Value}
theorem x_madeC (FB : XBase B mk ini bmF bmB) (T : XTxt K mg cn fld mk bmB C fI) (D : InitDoes K C fI fld) {v : Value} (inK : K.In s.heap) (lim : s.heap.NoLimit) (room : A.depth + 1 < recursionLimit)
    (hq : ∀ h' tk e d, XMade s.heap h' e C d fld v → R (.ok (.ret (.ref e))) { s with heap := h', toks := tk }) : codeAny (model prog w) A (.call (.ref C) ⟨[v], []⟩) R s := by
  obtain ⟨nm, q, N, bs, bm, sn, sub, ab, col, dd, k0, k1, k2, k3, k5, hC, tail⟩ := T.cls
  obtain ⟨hp, g, dr, tk, os⟩ := s
  have stay : ∀ b o, hp.get? b = some o → ((hp.push (kdv_tup [v])).push (excObj C hp.objs.size none .none)).get? b = some o := fun b o e => Heap.get?_push_of_some _ (Heap.get?_push_of_some _ e)
  have there : ((hp.push (kdv_tup [v])).push (excObj C hp.objs.size none .none)).get? (hp.objs.size + 1) = some (excObj C hp.objs.size none .none) := by heap_get
  have fresh : K.lookup (hp.objs.size + 1) = none := by
    cases e : K.lookup (hp.objs.size + 1) with
    | none => rfl
    | some o => exact absurd (Nat.lt_of_succ_lt (Heap.lt_size (inK _ _ e))) (Nat.lt_irrefl _)
  refine kx_call FB.F (FB.ch bm tail) (inK _ _ hC) (looks_findIn inK T.iC) (fun self => bind_fn inK self T.tC) (one_line v) ?_
  refine D prog w _ _ ⟨(hp.push (kdv_tup [v])).push (excObj C hp.objs.size none .none), g, dr, tk, os⟩ _ _ v (inK.keeps stay) (lim.keeps stay) there fresh room fun h' tk' dx M => ?_
  have old : ∀ b o, hp.get? b = some o → h'.get? b = some o := fun b o e => M.keep b o (Nat.ne_of_lt (Nat.lt_succ_of_lt (Heap.lt_size e))) (stay b o e)
  have z : hp.objs.size + 1 + 1 ≤ dx := by
    have q := M.big
    first
      | exact q
      | simpa only [Heap.size_push] using q
  exact ⟨rfl, hq h' tk' (hp.objs.size + 1) dx ⟨old, Nat.le_succ _, ⟨_, _, M.obj, rfl, rfl, rfl, rfl⟩, Nat.le_trans (Nat.le_trans (Nat.le_succ _) (Nat.le_succ _)) z, M.ne, M.ns⟩⟩
end
/-! ### errors as values -/
/-- the error at e, of the class C, its dict at d -/
def ExV (C e : Addr) (d : Option Addr) : HO := .ext fun h => ∃ (oe : Obj) (vs : Array Value), h.get? e = some oe ∧ oe.cls = .ref C ∧ oe.dict = d ∧ oe.data = .fields vs
theorem exV_ok {P : Program} {w : World} {H : Hp} {h : Heap} {C e : Addr} {d : Option Addr} {oe : Obj} {vs : Array Value} (he : h.get? e = some oe) (hc : oe.cls = .ref C) (hd : oe.dict = d) (hf : oe.data = .fields vs) : ObjOk P w H h e (ExV C e d) :=
  ⟨⟨oe, vs, he, hc, hd, hf⟩, ⟨oe, he⟩, fun h1 h2 ⟨o, us, a, b, c, f⟩ k => ⟨o, us, k _ a, b, c, f⟩⟩
theorem exV_at {P : Program} {w : World} {H : Hp} {h : Heap} {C e : Addr} {d : Option Addr} (ok : HOk P w H h) (he : H e = some (ExV C e d)) : ∃ (oe : Obj) (vs : Array Value), h.get? e = some oe ∧ oe.cls = .ref C ∧ oe.dict = d ∧ oe.data = .fields vs :=
  (show ObjOk P w H h e (ExV C e d) from ok e _ he).1
section
variable {X : Cx} {C fI : Addr} {cn fld : Str} {B mk ini : String} {bmF bmB : List Value}
/-- cn(e), the error kept -/
def tMkV (C : Addr) (fld : Str) (ta : TA) : TE := fun σ H Q => ta σ H fun vs H1 => ∃ v, vs = [v] ∧ ∀ d e, H1 d = none → H1 e = none → e ≠ d → Q (.ref e) (upd (upd H1 d (.xd [(fld, v)])) e (ExV C e (some d)))
theorem pe_mkV {a : Expr} {ta : TA} {p pos : Pos} {k : Nat} (FB : XBase B mk ini bmF bmB) (T : XTxt X.K X.mg cn fld mk bmB C fI) (D : InitDoes X.K C fI fld) (room : Room k X.A) (ha : PA X [a] ta) (hg : Gl X cn)
    (hdb : (cn == ("__debug__" : Str)) = false := by decide) (hst : starEach (a :: []) X.env = (false, eval a X.env) :: starEach [] X.env := by rfl) (hpl : (backTo pos (starEach [] X.env)).any (·.1) = false := by rfl) :
    PE X (.Call (.Name cn p) [a] [] pos) (tMkV C fld ta) := by
  refine ⟨fun pins s σ H Q I h => ?_⟩
  refine wpAny_Call_Name_kw (ld_glob I hg T.gC ?_ hdb)
  refine PySem.W.callWith_K (h₀ := X.base) I.ok.mod.kin T.kC (thn (ha.run pos pins s σ H _ I h) ?_) hst hpl
  rintro us s1 ⟨vs, H1, I1, r1, v, rfl, q1⟩
  refine ⟨I1.kIn, ?_⟩
  obtain ⟨u, rfl, rv⟩ := vals1 r1
  show wpAny _ _ (call (.ref C) [u]) _ _ _
  have lim := I1.nolimit
  obtain ⟨hp, g, dr, tk, os⟩ := s1
  refine wpAny_call (x_madeC FB T D I1.kIn lim (by have := room.dp; omega) fun h' tk' e d M => ?_)
  obtain ⟨oe, fv, hoe, hc, hd, hdat, h1⟩ := M.obj
  obtain ⟨G', g1, g2⟩ := restrict h' fun b => decide (b ≠ e)
  have off : ∀ b, b ≠ e → G'.get? b = h'.get? b := fun b hb => g1 b (decide_eq_true hb)
  have gone : G'.get? e = none := g2 e (by simp)
  have old : ∀ b o, hp.get? b = some o → G'.get? b = some o := fun b o q => (off b (Nat.ne_of_lt (Nat.lt_of_lt_of_le (Heap.lt_size q) M.new))).trans (M.keep b o q)
  have ob : ObjOk X.prog X.w (upd H1 d (.xd [(fld, v)])) G' d (.xd [(fld, v)]) := ⟨_, M.ns.at (fun o q => (off d M.ne).trans q), fun f => relO_one rv f⟩
  have J : Inv X pins σ (upd H1 d (.xd [(fld, v)])) ⟨G', g, dr, tk', os⟩ := I1.laid (t' := tk') old M.big ob
  have ne0 : H1 e = none := I1.hok.fresh M.new
  have J2 := J.laidN (h' := h') (t' := tk') (o := ExV C e (some d)) (fun b o q => by
    by_cases hb : b = e
    · have q' : G'.get? b = some o := q
      rw [hb, gone] at q'
      cases q'
    · exact (off b hb).symm.trans q) gone (by rw [upd_ne (Ne.symm M.ne)]; exact ne0) (exV_ok hoe hc hd hdat)
  exact ⟨.ref e, _, J2, rfl, q1 d e (I1.hok.fresh M.big) ne0 (Ne.symm M.ne)⟩
end
end Gx

set_option maxRecDepth 100000
set_option maxHeartbeats 4000000
namespace Gx
open PySem PySem.Spec PySem.W PySem.Calls PyProof.Rows L2
/-! ### own errors without an __init__ of their own, as values -/
/-- what the written part says of such a class -/
structure XPln (K : Frag) (mg : Str → Option Value) (cn : Str) (mk ini : String) (bmB : List Value) (C : Addr) : Prop where
  gC : mg cn = some (.ref C)
  cls : ∃ nm q N bs bm hd sn sub ab col dd k0 k1 k2 k3 k5, K.lookup C = some (excClassObj nm q C N bs bm hd sn sub ab col dd k0 k1 k2 k3 k5 mk) ∧ excTail bmB bm = true
  iC : findIn K (.ref C) "__init__" = some (some (.builtin ini))
  kC : keepIn K (.ref C) = true
/-- .. of any own class of errors, for isinstance -/
structure XCls (K : Frag) (C : Addr) : Prop where
  isC : isClsIn K C = true
  ga : findIn K (.ref C) "__getattribute__" = some (some (.builtin "BaseException.__getattribute__"))
  gg : findIn K (.ref C) "__getattr__" = some none
  ex : subIn K (.ref C) (.type "BaseException") = some true
  cl : findIn K (.ref C) "__class__" = some (some (.builtin "object.__class__"))
  sp : specialIn K (.builtin "object.__class__") "__get__" = some (some (.builtin "getset_descriptor.__get__"))
  ta : takesIn K (.builtin "object.__class__") = some true
  ob : mroIn K C (.type "object") = some true
section
variable {X : Cx} {C : Addr} {cn : Str} {B mk ini : String} {bmB : List Value}
def tMkP (C : Addr) (ta : TA) : TE := fun σ H Q => ta σ H fun vs H1 => vs.length ≤ 1000 ∧ ∀ e, H1 e = none → Q (.ref e) (upd H1 e (ExV C e none))
theorem pe_mkP {a : Expr} {ta : TA} {p pos : Pos} (F : ExcBaseFacts B mk ini bmB) (T : XPln X.K X.mg cn mk ini bmB C) (ha : PA X [a] ta) (hg : Gl X cn)
    (hdb : (cn == ("__debug__" : Str)) = false := by decide) (hst : starEach (a :: []) X.env = (false, eval a X.env) :: starEach [] X.env := by rfl) (hpl : (backTo pos (starEach [] X.env)).any (·.1) = false := by rfl) :
    PE X (.Call (.Name cn p) [a] [] pos) (tMkP C ta) := by
  refine ⟨fun pins s σ H Q I h => ?_⟩
  refine wpAny_Call_Name_kw (ld_glob I hg T.gC ?_ hdb)
  refine PySem.W.callWith_K (h₀ := X.base) I.ok.mod.kin T.kC (thn (ha.run pos pins s σ H _ I h) ?_) hst hpl
  rintro us s1 ⟨vs, H1, I1, r1, hz, q1⟩
  refine ⟨I1.kIn, ?_⟩
  obtain ⟨nm, q, N, bs, bm, hd, sn, sub, ab, col, dd, k0, k1, k2, k3, k5, hC, tail⟩ := T.cls
  have hl : us.length ≤ sizeLine := by
    rw [← r1.length]
    exact Nat.le_trans hz (by decide)
  obtain ⟨hp, g, dr, tk, os⟩ := s1
  refine PySem.W.call_B F (fun Y => excTail_contains Y bm tail) (I1.kIn _ _ hC) (looks_findIn I1.kIn T.iC) hl fun h' k he ht => ?_
  have fr := I1.hok.fresh (Nat.le_succ hp.objs.size)
  exact ⟨.ref (hp.objs.size + 1), _, I1.laid (t' := tk) k (Nat.le_succ _) (exV_ok he rfl rfl rfl), rfl, q1 _ fr⟩
end
/-- the error at e stands, with its dict if it has one -/
def ExAt (H : Hp) (e C : Addr) (d : Option Addr) (fs : List (Str × V)) : Prop := H e = some (ExV C e d) ∧ ∀ dd, d = some dd → H dd = some (.xd fs)
section
variable {X : Cx} {pins : List (Addr × Obj)} {σ : L2.St} {H : Hp} {s : Shared}
theorem exAt_inst {e C : Addr} {d : Option Addr} {fs : List (Str × V)} (I : Inv X pins σ H s) (h : ExAt H e C d fs) : ∃ (oe : Obj) (od : Option Obj), PySem.W.InstAt s.heap e oe C od := by
  obtain ⟨h1, h2⟩ := h
  obtain ⟨oe, vs, he, hc, hd, hf⟩ := exV_at I.hok h1
  have nc : PySem.W.notCls oe = true := by unfold PySem.W.notCls; rw [hf] <;> rfl
  cases d with
  | none => exact ⟨oe, none, he, hc, nc, by rw [hd]; trivial⟩
  | some dd =>
    obtain ⟨mA, hns, _⟩ := (show ObjOk X.prog X.w H s.heap dd (.xd fs) from I.hok dd _ (h2 dd rfl))
    obtain ⟨od, ho, _⟩ := lookIn_ns hns
    exact ⟨oe, some od, he, hc, nc, by rw [hd]; exact ho⟩
end
/-- isinstance(e, c), e an own error -/
def rIsV (K : PySem.W.Frag) : List V → Hp → VK → Prop := fun xs H Q => ∃ (e C : Addr) (d : Option Addr) (fs : List (Str × V)) (c : V) (u : Value) (b : Bool), xs = [.ref e, c] ∧ ExAt H e C d fs ∧ XCls K C ∧ ClsV c u ∧ PySem.W.kitOne K (.ref C) u = some b ∧ Q (.bl b) H
section
variable {X : Cx}
theorem call_isV : CallR X (.builtin "isinstance") (rIsV X.K) := by
  intro pins s σ H xs us Q I r h
  obtain ⟨e, C, d, fs, c, u, b, rfl, hx, T, k, hb, q⟩ := h
  obtain ⟨u1, u2, rfl, r1, r2⟩ := vals2 r
  have e2 := k.eq r2
  subst e2
  cases (show u1 = Value.ref e from r1)
  obtain ⟨oe, od, J⟩ := exAt_inst I hx
  exact PySem.W.kia_one (PySem.W.kitx_exc (ox := oe) (od := od) T.isC T.ga T.gg T.ex T.cl T.sp T.ta T.ob) I.kIn J hb (fun z => nomatch z) fun tk => ⟨.bl b, H, I.tok tk, rfl, q⟩
/-- e.fld, e an own error with that field -/
def tGetV (C : Addr) (fld : Str) (te : TE) : TE := fun σ H Q => te σ H fun x H1 => ∃ (e dd : Addr) (v : V), x = .ref e ∧ ExAt H1 e C (some dd) [(fld, v)] ∧ Q v H1
theorem pe_getV {C fI : Addr} {cn fld : Str} {mk : String} {bmB : List Value} {e : Expr} {te : TE} {pos : Pos} (T : XTxt X.K X.mg cn fld mk bmB C fI) (he : PE X e te)
    (hb : attributeBase e fld X.env (eval e X.env) = eval e X.env := by rfl) : PE X (.Attribute e fld pos) (tGetV C fld te) := by
  constructor
  intro pins s σ H Q I h
  refine attr_of hb (thn (he.run pins s σ H _ I h) ?_)
  rintro u s1 ⟨x, H1, I1, rx, e1, dd, v, rfl, ⟨h1, h2⟩, q⟩
  obtain rfl : u = Value.ref e1 := rx
  obtain ⟨oe, vs, here, hc, hd, hf⟩ := exV_at I1.hok h1
  obtain ⟨mA, hns, hr⟩ := (show ObjOk X.prog X.w H1 s1.heap dd (.xd [(fld, v)]) from I1.hok dd _ (h2 dd rfl))
  obtain ⟨od, ho, hl⟩ := lookIn_ns hns
  have l : List.lookup fld [(fld, v)] = some v := by simp [List.lookup]
  have hrf := hr fld
  rw [l] at hrf
  obtain ⟨u, hu, ru⟩ := RelO.some_of (v := v) (o := mA fld) hrf
  have J : PySem.W.InstAt s1.heap e1 oe C (some od) := ⟨here, hc, by unfold PySem.W.notCls; rw [hf] <;> rfl, by rw [hd]; exact ho⟩
  exact HandSPX.exc_get I1.kIn J T.ga T.gg T.exC (PySem.W.findObj_own T.hdC T.noN rfl (by rw [hl, hu])) (handed_of ru) ⟨v, H1, I1.tok _, ru, q⟩
end
end Gx

set_option maxRecDepth 100000
set_option maxHeartbeats 4000000
namespace Gx
open PySem PySem.Spec PySem.W PySem.Calls PyProof.Rows L2
/-! ### stores over KeyError -/
theorem store_KeyErr : StoreFacts "KeyError" bmKey "object.__setattr__" "object" := by
  constructor
  case mro => kernel_rfl
  case slot => exact .of (owner := "object") (n := "__setattr__") (by rw [typeLookup_type, builtinLookup_eq_fast]; kernel_rfl) (by decide +kernel) (by decide +kernel) (by decide +kernel) (.inl (by decide +kernel)) (by rw [isSubtype_type]; kernel_rfl)
  case entry => exact PySem.F.store_LookupError.entry
  case kind => decide +kernel
  case split => decide +kernel
  case hasOwner => decide +kernel
  case args => exact fun a b c => PySem.F.store_LookupError.args a b c
  case passes => exact fun o => by kernel_rfl
/-! ### the table of all errors: who is derived from whom -/
def subC (i j : Nat) : Bool := i == j || (j == 0 && decide (i ≤ 11))
def BS : List String := ["ValueError", "KeyError", "IndexError", "LookupError", "RuntimeError", "OverflowError", "ArithmeticError"]
def subB (i : Nat) (b : String) : Bool :=
  if b = "ValueError" then decide (i ≤ 11) else if b = "KeyError" then i == 12 || i == 13 else if b = "IndexError" then i == 15
  else if b = "LookupError" then decide (12 ≤ i) && decide (i ≤ 15) else if b = "RuntimeError" then i == 16 else if b = "OverflowError" then i == 17 else decide (17 ≤ i)
def xclsB (K : Frag) (C : Addr) : Bool :=
  isClsIn K C && (decide (findIn K (.ref C) "__getattribute__" = some (some (.builtin "BaseException.__getattribute__"))) && (decide (findIn K (.ref C) "__getattr__" = some none) && (decide (subIn K (.ref C) (.type "BaseException") = some true) &&
    (decide (findIn K (.ref C) "__class__" = some (some (.builtin "object.__class__"))) && (decide (specialIn K (.builtin "object.__class__") "__get__" = some (some (.builtin "getset_descriptor.__get__"))) &&
    (decide (takesIn K (.builtin "object.__class__") = some true) && decide (mroIn K C (.type "object") = some true)))))))
theorem xclsB_ok {K : Frag} {C : Addr} (h : xclsB K C = true) : XCls K C := by
  unfold xclsB at h
  simp only [Bool.and_eq_true, decide_eq_true_eq] at h
  obtain ⟨a, b, c, d, e, f, g, i⟩ := h
  exact ⟨a, b, c, d, e, f, g, i⟩
def tabB (K : Frag) (cs : List Addr) : Bool := (List.range 20).all fun i => xclsB K (cs.getD i 0) && (((List.range 20).all fun j => decide (kitOne K (.ref (cs.getD i 0)) (.ref (cs.getD j 0)) = some (subC i j))) && (BS.all fun b => decide (kitOne K (.ref (cs.getD i 0)) (.type b) = some (subB i b))))
theorem getD_range (c : Nat → Addr) {i : Nat} (h : i < 20) : ((List.range 20).map c).getD i 0 = c i := by
  rw [List.getD_eq_getElem?_getD, List.getElem?_map, List.getElem?_range h]
  rfl
section
variable {K : Frag} {c : Nat → Addr} (t : tabB K ((List.range 20).map c) = true) {i : Nat} (hi : i < 20)
include t hi
theorem tab_at : xclsB K (c i) = true ∧ (∀ j, j < 20 → kitOne K (.ref (c i)) (.ref (c j)) = some (subC i j)) ∧ ∀ b ∈ BS, kitOne K (.ref (c i)) (.type b) = some (subB i b) := by
  unfold tabB at t
  have h := List.all_eq_true.mp t i (List.mem_range.mpr hi)
  simp only [Bool.and_eq_true, List.all_eq_true, decide_eq_true_eq, List.mem_range] at h
  rw [getD_range c hi] at h
  refine ⟨h.1, fun j hj => ?_, fun b hb => h.2.2 b hb⟩
  have := h.2.1 j hj
  rw [getD_range c hj] at this
  exact this
theorem tab_cls : XCls K (c i) := xclsB_ok (tab_at t hi).1
theorem tab_own {j : Nat} (hj : j < 20) : kitOne K (.ref (c i)) (.ref (c j)) = some (subC i j) := (tab_at t hi).2.1 j hj
theorem tab_blt {b : String} (hb : b ∈ BS) : kitOne K (.ref (c i)) (.type b) = some (subB i b) := (tab_at t hi).2.2 b hb
end
end Gx

set_option maxRecDepth 100000
set_option maxHeartbeats 4000000
namespace Gx
open PySem PySem.Spec PySem.W PySem.Calls PyProof.Rows L2
/-- an own class of errors is caught by its own name -/
theorem exm_own {K : PySem.W.Frag} {S : Addr} (b : PySem.W.subIn K (.ref S) (.type "BaseException") = some true) (i : PySem.W.isClsIn K S = true) (t : PySem.W.typeIn K (.ref S) = some (.type "type")) (s : PySem.W.subIn K (.ref S) (.ref S) = some true) : PySem.W.exmOne K (.ref S) (.ref S) = some true := by
  have i' : (PySem.W.clsIn K S).isSome = true := i
  unfold PySem.W.exmOne PySem.W.kitCls
  simp [b, i', t, s]
section
variable {X : Cx} {C : Addr} {cn : Str} {B mk ini : String} {bmB : List Value}
/-- raise cn(a), an own error without an __init__ of its own -/
def tMkR (C : Addr) (ta : TA) : L2.St → Hp → XK → Prop := fun σ H Q => ta σ H fun vs H1 => vs.length ≤ 1000 ∧ Q (.ref C) none H1
theorem pmk_P {a : Expr} {ta : TA} {p pos : Pos} (F : ExcBaseFacts B mk ini bmB) (T : XPln X.K X.mg cn mk ini bmB C) (XC : XCls X.K C) (ha : PA X [a] ta) (hg : Gl X cn)
    (hdb : (cn == ("__debug__" : Str)) = false := by decide) (hst : starEach (a :: []) X.env = (false, eval a X.env) :: starEach [] X.env := by rfl) (hpl : (backTo pos (starEach [] X.env)).any (·.1) = false := by rfl) :
    PMk X (.Call (.Name cn p) [a] [] pos) (tMkR C ta) := by
  intro pins s σ H Q I h
  refine wpAny_Call_Name_kw (ld_glob I hg T.gC ?_ hdb)
  refine PySem.W.callWith_K (h₀ := X.base) I.ok.mod.kin T.kC (thn (ha.run pos pins s σ H _ I h) ?_) hst hpl
  rintro us s1 ⟨vs, H1, I1, r1, hz, q1⟩
  refine ⟨I1.kIn, ?_⟩
  obtain ⟨nm, q, N, bs, bm, hd, sn, sub, ab, col, dd, k0, k1, k2, k3, k5, hC, tail⟩ := T.cls
  have hl : us.length ≤ sizeLine := by
    rw [← r1.length]
    exact Nat.le_trans hz (by decide)
  have tyC : typeIn X.K (.ref C) = some (.type "type") := by
    show (X.K.lookup C).map (·.cls) = _
    rw [hC]
    rfl
  obtain ⟨hp, g, dr, tk, os⟩ := s1
  refine PySem.W.call_B F (fun Y => excTail_contains Y bm tail) (I1.kIn _ _ hC) (looks_findIn I1.kIn T.iC) hl fun h' k he ht => ?_
  obtain ⟨G', g1, g2⟩ := restrict h' fun b => decide (b ≠ hp.objs.size + 1)
  have off : ∀ b, b ≠ hp.objs.size + 1 → G'.get? b = h'.get? b := fun b hb => g1 b (decide_eq_true hb)
  have gone : G'.get? (hp.objs.size + 1) = none := g2 _ (by simp)
  have old : ∀ b o, hp.get? b = some o → G'.get? b = some o := fun b o q => (off b (Nat.ne_of_lt (Nat.lt_succ_of_lt (Heap.lt_size q)))).trans (k b o q)
  have J : Inv X pins σ H1 ⟨G', g, dr, tk, os⟩ := I1.kept (t' := tk) old
  refine ⟨hp.objs.size + 1, _, _, ⟨G', g, dr, tk, os⟩, H1, .ref C, none, rfl, J, ?_, gone, he, ⟨rfl, rfl⟩, rfl, rfl, I1.hok.fresh (Nat.le_succ _), rfl, I1.bare, raises_own XC.ex tyC, q1⟩
  intro b o q
  have q' : G'.get? b = some o := q
  by_cases hb : b = hp.objs.size + 1
  · rw [hb, gone] at q'
    cases q'
  · exact (off b hb).symm.trans q
end
/-! ### methods that may raise -/
/-- the class at C has a method m that keeps sp, and may raise -/
def CalMX (P : Program) (w : World) (K : PySem.W.Frag) (mg : Str → Option Value) (base : Heap) (C : Addr) (m : Str) (k : Nat) (ps : List Str) (sp : Sp) : Prop :=
  ∃ (f : Addr) (fd : FuncData), FnG P w K mg base (L2.CX P w) k f fd ps sp ∧ Meth K C m f ∧ Binds K fd ps []
theorem DefM.calX {P : Program} {w : World} {K : PySem.W.Frag} {mg : Str → Option Value} {base : Heap} {C : Addr} {m qual : Str} {st : Stmt} {k : Nat} {ps : List Str} {sp : Sp} (d : DefM K C m qual st ps)
    (h : ∀ f fd, Fun K m qual st f fd → FnG P w K mg base (L2.CX P w) k f fd ps sp) : CalMX P w K mg base C m k ps sp := by
  obtain ⟨f, fd, F, me, b, fi⟩ := d
  exact ⟨f, fd, h f fd F, me, b⟩
theorem CalMX.up {P : Program} {w : World} {K : PySem.W.Frag} {mg : Str → Option Value} {base : Heap} {C : Addr} {m : Str} {j k : Nat} {ps : List Str} {sp : Sp} (c : CalMX P w K mg base C m j ps sp) (h : j ≤ k) : CalMX P w K mg base C m k ps sp := by
  obtain ⟨f, fd, F, r⟩ := c
  exact ⟨f, fd, F.up h, r⟩
section
variable {X : Cx} {C : Addr} {m : Str} {k : Nat} {ps : List Str} {sp : Sp} {ta : TE} {t : TA} {o e : Expr} {es : List Expr} {pos apos : Pos} {E : L2.St → XK}
/-- o.m(..), which may raise -/
def tMethX (C : Addr) (m : Str) (sp : Sp) (E : L2.St → XK) (ta : TE) (t : TA) : TE := fun σ H Q => ta σ H fun x H1 => ∃ a dx fs, x = .ref a ∧ H1 a = some (.ins C dx fs) ∧ fs.lookup m = none ∧ t σ H1 fun vs H2 => sp (x :: vs) H2 Q (E σ)
theorem pe_methX {pl : Sem Bool} (he : PE X o ta) (cl : Cls X.K C) (c : CalMX X.prog X.w X.K X.mg X.base C m k ps sp) (g : Gd X.A) (room : Room k X.A) (hx : ∀ σ, PassesAt (L2.CX X.prog X.w) X σ (E σ)) (ha : PA X (e :: es) t)
    (hst : starEach (e :: es) X.env = (false, eval e X.env) :: starEach es X.env := by rfl) (hpl : (backTo pos (starEach es X.env)).any (·.1) = false := by rfl)
    (ht : eval (.Call (.Attribute o m apos) (e :: es) [] pos) X.env = (do
      let ov ← eval o X.env
      standAt apos.atName
      let (f, first) ← holding [ov] (getMethod ov m pl)
      callWith pos f first (backTo pos (starEach (e :: es) X.env)) (backToKw pos (keywordEach [] X.env))) := by rfl) :
    PE X (.Call (.Attribute o m apos) (e :: es) [] pos) (tMethX C m sp E ta t) := by
  obtain ⟨f, fd, F, hm, b⟩ := c
  refine ⟨fun pins s σ H Q I h => ?_⟩
  refine PySem.W.methodCall_KW (pl := pl) (thn (he.run pins s σ H _ I h) fun u s1 ⟨x, H1, I1, rx, a, dx, fs, ex, ea, l, q⟩ => ?_) ht
  subst ex
  obtain rfl : u = Value.ref a := rx
  refine getmeth_ok I1 ea cl hm l ?_
  refine PySem.W.callWith_K (first := [.ref a]) (h₀ := X.base) I.ok.mod.kin hm.kp (thn (ha.run pos pins s1 σ H1 _ I1 q) fun us s2 ⟨vs, H2, I2, r, q2⟩ => ⟨I2.kIn, ?_⟩) hst hpl
  have hl : (Value.ref a :: us).length = ps.length := by
    rw [← F.len _ _ _ _ q2, List.length_cons, List.length_cons, r.length]
  have b1 := b s2 (.ref a :: us) I2.kIn (by rw [List.append_nil]; exact hl)
  rw [List.append_nil] at b1
  exact runX (us := .ref a :: us) (vs := .ref a :: vs) (args := ⟨.ref a :: us, []⟩) F g room b1 (hx σ) I2 (.cons rfl r) q2
end
end Gx

set_option maxRecDepth 100000
set_option maxHeartbeats 4000000
/-! ### own end: a law whose promise holds where no repr is under way, and whose defs make lambdas -/
namespace Gx
open PySem PySem.Spec PyProof.Rows L2
/-- the abstract heap at the law's call: the script and the empty tables of the defs that make lambdas -/
def H0T (a : Addr) (o : Obj) (ns : List Int) (own : Bool) (ts : List Addr) : Hp := fun b => if b ∈ ts then some (.tbl #[]) else H00 a o ns own b
theorem h0t_in {a b : Addr} {o : Obj} {ns : List Int} {own : Bool} {ts : List Addr} (h : b ∈ ts) : H0T a o ns own ts b = some (.tbl #[]) := by
  unfold H0T
  rw [if_pos h]
theorem h0t_out {a b : Addr} {o : Obj} {ns : List Int} {own : Bool} {ts : List Addr} (h : b ∉ ts) : H0T a o ns own ts b = H00 a o ns own b := by
  unfold H0T
  rw [if_neg h]
theorem h0t_some {a b : Addr} {o : Obj} {ns : List Int} {own : Bool} {ts : List Addr} {u : HO} (h : H0T a o ns own ts b = some u) : (b ∈ ts ∧ u = .tbl #[]) ∨ (b ∉ ts ∧ own = false ∧ b = a ∧ u = .frz o (.lst (ns.map V.int))) := by
  by_cases c : b ∈ ts
  · rw [h0t_in c] at h
    cases h
    exact .inl ⟨c, rfl⟩
  · rw [h0t_out c] at h
    exact .inr ⟨c, h00_some h⟩
/-- the tables cs stand in the heap, and the module does not name them -/
structure TabsHere (K : PySem.W.Frag) (h : Heap) (cs : List (Addr × Addr)) : Prop where
  hd : ∀ c ∈ cs, PySem.W.CodeHd h c.1 c.2
  at_ : ∀ c ∈ cs, h.get? c.2 = some (PySem.W.tabObj #[])
  free : ∀ c ∈ cs, K.lookup c.2 = none
theorem lawGT {P : Program} {w : World} {K : PySem.W.Frag} {mg mb : Str → Option Value} {CX : CXT} {k : Nat} {fa a : Addr} {fd : FuncData} {x : Str} {sp : Sp} {t : Shared} {vs : List Value} {ns : List Int} {cs : List (Addr × Addr)}
    (inK : K.In t.heap) (glob : t.heap.Ns mainGlobals mg) (blt : t.heap.Ns builtinsNs mb) (boot : ∀ y : Str, y ≠ "__name__" → mb y = bootBuiltins y) (noLim : t.heap.NoLimit) (gens : t.gens = #[]) (tabs : TabsHere K t.heap cs)
    (bmod : ∃ (bm : Addr) (ob : Obj), mg "__builtins__" = some (.ref bm) ∧ bm ≠ builtinsNs ∧ t.heap.get? bm = some ob ∧ ob.cls = .type "module" ∧ ob.dict = some builtinsNs ∧ ob.data = .plain)
    (scr : t.heap.get? a = some { cls := .type "list", data := .seq vs.toArray }) (hints : IntsAre vs ns) (short : ns.length ≤ sizeLine) (room : Room k callerA)
    (F : ∀ base : Heap, K.In base → base.Ns mainGlobals mg → (∀ c ∈ cs, LamX.TabB base mg c.1 c.2) → FnG P w K mg base CX k fa fd [x] sp) (bind : ∀ (s : Shared) (u : Value), BindsTo s fd ⟨[u], []⟩ [(x, u)])
    (want : ∀ H : Hp, (∀ c ∈ cs, H c.2 = some (.tbl #[])) → SqL K H a (ns.map V.int) → sp [.ref a] H (fun v _ => v = .bl true) fun _ _ _ => False)
    (noErr : ∀ H e s', CX [] H t (fun _ _ _ => False) e s' → False) :
    codeAny (model P w) callerA (.call (.ref fa) ⟨[.ref a], []⟩) (fun r s' => r = .ok (.ret (.bool true)) ∧ OldK t.heap s'.heap ∧ s'.os = t.os ∧ AllBare s'.gens) t := by
  have hv : Vals (ns.map V.int) vs := vals_ints hints
  have hlv : vs.length = ns.length := hints.length
  obtain ⟨own, hown⟩ : ∃ own : Bool, own = (K.lookup a).isSome := ⟨_, rfl⟩
  obtain ⟨ts, hts⟩ : ∃ ts : List Addr, ts = cs.map (·.2) := ⟨_, rfl⟩
  have tin : ∀ {c : Addr × Addr}, c ∈ cs → c.2 ∈ ts := fun h => by
    rw [hts]
    exact List.mem_map.mpr ⟨_, h, rfl⟩
  have tout : ∀ {b : Addr}, b ∈ ts → ∃ c ∈ cs, c.2 = b := fun h => by
    rw [hts] at h
    exact List.mem_map.mp h
  have tget : ∀ {b : Addr}, b ∈ ts → t.heap.get? b = some (PySem.W.tabObj #[]) := fun h => by
    obtain ⟨c, hc, rfl⟩ := tout h
    exact tabs.at_ c hc
  have na : a ∉ ts := fun h => by
    have e := tget h
    rw [scr] at e
    have e2 := congrArg Obj.data (Option.some.inj e)
    cases e2
  let o : Obj := { cls := .type "list", data := .seq vs.toArray }
  let H0 : Hp := H0T a o ns own ts
  have hOk : HOk P w H0 t.heap := by
    intro b u e
    rcases h0t_some e with ⟨h, rfl⟩ | ⟨_, _, rfl, rfl⟩
    · exact tget h
    · exact ⟨scr, by rw [List.length_map]; exact short, vs, _, hv, scr⟩
  have none0 : ∀ {b : Addr}, b ∉ ts → own = true ∨ b ≠ a → H0 b = none := fun h1 h2 => (h0t_out h1).trans (h00_none h2)
  have keepT : ∀ {b : Addr} {ob : Obj}, t.heap.get? b = some ob → b ∉ ts → own = true ∨ b ≠ a → (hidT t.heap H0).get? b = some ob := fun e n1 n2 => hidT_get e (none0 n1 n2)
  -- what is neither the script nor a table
  have other : ∀ {b : Addr} {ob : Obj}, t.heap.get? b = some ob → (∀ xs n, ob.data ≠ .seq xs n) → ob.data ≠ .fields #[] → b ∉ ts ∧ b ≠ a := by
    intro b ob e n1 n2
    refine ⟨fun h => ?_, fun h => ?_⟩
    · rw [tget h] at e
      cases e
      exact n2 rfl
    · rw [h, scr] at e
      cases e
      exact n1 _ _ rfl
  have nsKeep : ∀ {b : Addr} {m : Str → Option Value}, t.heap.Ns b m → (hidT t.heap H0).Ns b m := by
    rintro b m ⟨ob, es, ep, e, dd, r⟩
    obtain ⟨n1, n2⟩ := other e (fun xs n z => by rw [dd] at z; cases z) (fun z => by rw [dd] at z; cases z)
    exact ⟨ob, es, ep, keepT e n1 (.inr n2), dd, r⟩
  have inK' : K.In (hidT t.heap H0) := by
    intro b ob e
    have nt : b ∉ ts := fun h => by
      obtain ⟨c, hc, rfl⟩ := tout h
      rw [tabs.free c hc] at e
      cases e
    refine keepT (inK b ob e) nt ?_
    by_cases hb : b = a
    · subst hb
      left
      rw [hown, e]
      rfl
    · exact .inr hb
  have noLim' : (hidT t.heap H0).NoLimit := by
    obtain ⟨mc, h1, h2⟩ := noLim
    exact ⟨mc, nsKeep h1, h2⟩
  have tabB : ∀ c ∈ cs, LamX.TabB (hidT t.heap H0) mg c.1 c.2 := by
    intro c hc
    have hP := tabs.at_ c hc
    constructor
    · obtain ⟨oc, us, file, tf, flags, tg, inF, text, tt, e, r1, r2, r3, r4⟩ := tabs.hd c hc
      obtain ⟨n1, n2⟩ := other e (fun xs n z => by rw [r2] at z; cases z) (fun z => by
        rw [r2] at z
        cases z
        cases r3)
      exact ⟨oc, us, file, tf, flags, tg, inF, text, tt, keepT e n1 (.inr n2), r1, r2, r3, r4⟩
    · obtain ⟨bm, ob, b1, b2, b3, b4, b5, b6⟩ := bmod
      obtain ⟨n1, n2⟩ := other b3 (fun xs n z => by rw [b6] at z; cases z) (fun z => by rw [b6] at z; cases z)
      refine ⟨bm, ob, b1, b2, ?_, fun z => n1 (z ▸ tin hc), keepT b3 n1 (.inr n2), b4, b5, b6⟩
      rintro rfl
      obtain ⟨og, es, ep, e, dd, _⟩ := glob
      rw [b3] at e
      cases e
      rw [b6] at dd
      cases dd
    · rintro z
      obtain ⟨og, es, ep, e, dd, _⟩ := glob
      rw [z, hP] at e
      cases e
      cases dd
  have env : Env0 P w K mg (hidT t.heap H0) callerA [] t H0 := by
    refine ⟨rfl, ⟨inK', nsKeep glob, ⟨mb, nsKeep blt, boot⟩, noLim'⟩, fun b ob e => of_hidT e, Nat.le_of_eq (hidT_size _ _), trivial, ?_, hOk, .of_eq gens⟩
    intro b hb
    exact absurd (show b ∈ ([] : List Addr) from hb) List.not_mem_nil
  have hS : SqL K H0 a (ns.map V.int) := by
    cases own with
    | false =>
      refine .inl (.inr ⟨o, ?_⟩)
      show H0T a o ns false ts a = _
      rw [h0t_out na]
      unfold H00
      rw [if_pos ⟨rfl, rfl⟩]
    | true =>
      obtain ⟨ob, e⟩ := Option.isSome_iff_exists.mp hown.symm
      have e2 := inK a ob e
      rw [scr] at e2
      cases e2
      exact .inr ⟨_, vs.toArray, _, e, rfl, rfl, rfl, by rw [List.size_toArray, hlv]; exact short, by simpa using hv⟩
  have runs := (F _ inK' (nsKeep glob) tabB).run callerA [] t H0 ⟨[.ref a], []⟩ [.ref a] [.ref a] _ _ rfl room env (bind t (.ref a)) (.cons rfl .nil) (want _ (fun c hc => h0t_in (tin hc)) hS)
  refine codeAny_mono runs ?_
  intro res s' hres
  match res, hres with
  | .error e, hres => exact (noErr _ e s' hres).elim
  | .ok (.ret u), hres =>
    obtain ⟨v, H', hos, bare, un, ok', rel, rfl⟩ := hres
    obtain rfl : u = Value.bool true := rel
    have stays : ∀ b ob, b ∉ ts → t.heap.get? b = some ob → s'.heap.get? b = some ob := by
      intro b ob nb e
      cases q : H0 b with
      | none => exact un.keep b ob e q (fun z => absurd (show b ∈ ([] : List Addr) from z) List.not_mem_nil) List.not_mem_nil
      | some u =>
        rcases h0t_some q with ⟨h, _⟩ | ⟨_, _, _, rfl⟩
        · exact absurd h nb
        · have q' := un.frzs b _ _ q
          have e1 := (hOk b _ q).1
          rw [e] at e1
          cases e1
          exact (ok' b _ q').1
    have grows : ∀ c ∈ cs, ∃ more : Array Value, s'.heap.get? c.2 = some (PySem.W.tabObj more) := by
      intro c hc
      obtain ⟨more, z⟩ := un.tbls c.2 #[] (h0t_in (tin hc))
      exact ⟨_, ok' c.2 _ z⟩
    refine ⟨rfl, ⟨fun b ob e => ?_, fun b ob e => ?_⟩, hos, bare⟩
    · by_cases hb : b ∈ ts
      · obtain ⟨c, hc, rfl⟩ := tout hb
        obtain ⟨more, hm⟩ := grows c hc
        have hP := tabs.at_ c hc
        rw [hP] at e
        cases e
        refine .inr (.inl ⟨((tabs.hd c hc).tab hP).isCodeTable, rfl, #[], more, rfl, ?_⟩)
        rw [Array.empty_append]
        exact hm
      · exact .inl (stays b ob hb e)
    · by_cases hb : b ∈ ts
      · obtain ⟨c, hc, rfl⟩ := tout hb
        obtain ⟨more, hm⟩ := grows c hc
        exact ⟨_, hm⟩
      · exact ⟨ob, stays b ob hb e⟩
/-- what k_head leaves, for such a law -/
theorem walkGT {l : PySem.W.OpenLaw} {n k : Nat} {q : Program} {loose : List Str} {XP : (Str → Option Value) → Heap → Prop} {YP : World → Heap → Prop} {d : DefRec} {K : Params → PySem.W.Frag} {CX : World → CXT} {x : Str}
    (most : l.most = some n) (small : n ≤ sizeLine) (plain : d.params.defaults = []) (room : Room k callerA) (hY : ∀ (w : World) (h : Heap), YP w h → (K w.params).In h)
    (F : ∀ (w : World) (mg : Str → Option Value) (fa : Addr) (h : Heap), (K w.params).In h → h.Ns mainGlobals mg → mg d.name = some (.ref fa) →
      ∃ (fd : FuncData) (cs : List (Addr × Addr)) (sp : Sp), (∀ c ∈ cs, (∃ (y : Str) (e : DefRec), (recsOf q).find? (fun r => r.name == y) = some e ∧ PySem.W.tabIn (K w.params) y = some c) ∧ (K w.params).lookup c.2 = none) ∧
        (∀ (s : Shared) (u : Value), BindsTo s fd ⟨[u], []⟩ [(x, u)]) ∧
        (∀ (H : Hp) (a : Addr) (ns : List Int), ns.length ≤ n → (∀ c ∈ cs, H c.2 = some (.tbl #[])) → SqL (K w.params) H a (ns.map V.int) → sp [.ref a] H (fun v _ => v = .bl true) fun _ _ _ => False) ∧
        ∀ base : Heap, (K w.params).In base → base.Ns mainGlobals mg → (∀ c ∈ cs, LamX.TabB base mg c.1 c.2) → FnG l.prog w (K w.params) mg base (CX w) k fa fd [x] sp)
    (noErr : ∀ (w : World) (H : Hp) (s : Shared) (e : Value) (s' : Shared), CX w [] H s (fun _ _ _ => False) e s' → False) :
    PySem.W.WalkO q loose XP YP l.row.toRowW d [] (fun f vs => PySem.call f vs) := by
  refine Att.attach_call most plain fun w s₀ t mg mb fa o pm cd doc a vs ns G Y ho hd hcd hmg scr hints hlen gens => ?_
  obtain ⟨fd, cs, sp, tabs, bind, want, body⟩ := F w mg fa _ (hY w _ Y) G.T.g hmg
  have th : ∀ c ∈ cs, PySem.W.CodeHd t.heap c.1 c.2 ∧ t.heap.get? c.2 = some (PySem.W.tabObj #[]) := fun c hc => by
    obtain ⟨⟨y, e, h1, h2⟩, _⟩ := tabs c hc
    exact PySem.W.tab_of G.T (hY w _ Y) h1 h2
  exact lawGT (hY w _ Y) G.T.g G.T.b G.T.builtins G.T.nolimit gens ⟨fun c hc => (th c hc).1, fun c hc => (th c hc).2, fun c hc => (tabs c hc).2⟩ G.T.bmain scr hints (Nat.le_trans hlen small) room body bind
    (fun H hO hS => want H a ns hlen hO hS) fun H e s' => noErr w H t e s'
/-! ### a def that makes lambdas: its own code is known -/
section
variable {P : Program} {w : World} {K : PySem.W.Frag} {mg : Str → Option Value} {base : Heap}
/-- .. where no repr is under way; its code object is at c -/
theorem okGL {x qual : Str} {st : Stmt} {f c : Addr} {fd : FuncData} {N ps : List Str} {k : Nat} {sp : Sp} (F : Fun K x qual st f fd) (hc : fd.code = .ref c) (S : FnScope N ps (defScope st)) (hlen : ∀ vs H Q E, sp vs H Q E → vs.length = ps.length)
    (hb : ∀ (A : Around) (outer : List Env) (s : Shared) (H : Hp) (vs : List V) (Q : VK) (E : XK), Gd (A.deeper (envOfC qual (defScope st) s.heap.objs.size f (.ref c))) → Room k (A.deeper (envOfC qual (defScope st) s.heap.objs.size f (.ref c))) → sp vs H Q E →
      ∃ t, PSs (cxOf CX0 P w K mg base N qual (defScope st) f (.ref c) A outer s H E).nox (defBody st) t ∧ t { nx := fun _ H' => Q .non H', rt := Q } (start N vs) H) : FnG P w K mg base CX0 (k + 1) f fd ps sp := by
  obtain ⟨oc, od, kV, doc, pm, an, cdv, ct, osl, rfl, lk, hcd⟩ := F.ex
  have e : cdv = .ref c := hc
  subst e
  refine fnG_body lk hcd S hlen fun A outer s H vs Q E g hr want => ?_
  obtain ⟨t, h, q⟩ := hb A outer s H vs Q E g hr want
  exact ⟨t, h.nox, q⟩
end
end Gx

set_option maxRecDepth 100000
set_option maxHeartbeats 4000000
namespace Gx
open PySem PySem.Spec PyProof.Rows L2 LamX
/-- an own class of errors is not caught by the name of another -/
theorem exm_no {K : PySem.W.Frag} {S C : Addr} (b : PySem.W.subIn K (.ref C) (.type "BaseException") = some true) (i : PySem.W.isClsIn K C = true) (t : PySem.W.typeIn K (.ref C) = some (.type "type")) (s : PySem.W.subIn K (.ref S) (.ref C) = some false) : PySem.W.exmOne K (.ref S) (.ref C) = some false := by
  have i' : (PySem.W.clsIn K C).isSome = true := i
  unfold PySem.W.exmOne PySem.W.kitCls
  simp [b, i', t, s]
/-- one table, one name -/
theorem one_of : ∀ {Tb : List (Addr × Str)} {P : Addr} {q : Str}, (Tb.map (·.1)).Nodup → (P, q) ∈ Tb → ∀ p ∈ Tb, p.1 = P → p.2 = q
  | (P0, q0) :: r, P, q, nd, m, p, hp, e => by
    rw [List.map_cons, List.nodup_cons] at nd
    rcases List.mem_cons.mp m with h | h
    · cases h
      rcases List.mem_cons.mp hp with rfl | h2
      · rfl
      · exact absurd (List.mem_map.mpr ⟨p, h2, e⟩) nd.1
    · rcases List.mem_cons.mp hp with rfl | h2
      · exact absurd (List.mem_map.mpr ⟨_, h, e.symm⟩) nd.1
      · exact one_of nd.2 h p h2 e
/-- as Def.calG, the name's address handed on -/
theorem Def.calGL {P : Program} {w : World} {K : PySem.W.Frag} {mg : Str → Option Value} {base : Heap} {x qual : Str} {st : Stmt} {ps : List Str} (d : Def K mg x qual st ps) {k : Nat} {sp : Sp} (h : ∀ f fd, mg x = some (.ref f) → Fun K x qual st f fd → FnG P w K mg base CX0 k f fd ps sp) : CalG P w K mg base k x ps sp := by
  obtain ⟨f, fd, F, b, g⟩ := d
  exact ⟨f, fd, h f fd g F, F.kp, b, g⟩
abbrev ln (x : Str) : Str := (x ++ ".<locals>.") ++ "<lambda>"
/-- a def of the module that makes lambdas: its code and its table -/
structure Lam (K : PySem.W.Frag) (mg : Str → Option Value) (base : Heap) (Tb : List (Addr × Str)) (x : Str) (c Pt : Addr) : Prop where
  tb : TabB base mg c Pt
  mem : (Pt, ln x) ∈ Tb
  one : ∀ p ∈ Tb, p.1 = Pt → p.2 = ln x
  code : ∀ (f : Addr) (oc : Value) (od : Option Addr) (fd : FuncData) (sl : Array (Option Value)), mg x = some (.ref f) → K.lookup f = some ⟨oc, od, .func fd, sl⟩ → fd.code = .ref c
theorem Lam.of {K : PySem.W.Frag} {mg : Str → Option Value} {base : Heap} {Tb : List (Addr × Str)} {x : Str} {c Pt : Addr} (L : Lam K mg base Tb x c Pt) {qual : Str} {st : Stmt} {f : Addr} {fd : FuncData} (g : mg x = some (.ref f)) (F : Fun K x qual st f fd) : fd.code = .ref c := by
  obtain ⟨oc, od, kV, doc, pm, an, cdv, ct, osl, _, lk, _⟩ := F.ex
  exact L.code f oc od fd osl g lk
theorem tabIn_of {K : PySem.W.Frag} {x : Str} {f c Pt : Addr} {oc oc2 : Value} {od od2 : Option Addr} {fd : FuncData} {sl sl2 : Array (Option Value)} {vs : Array Value} (a : PySem.W.nsIn K mainGlobals x = some (some (.ref f))) (l : K.lookup f = some ⟨oc, od, .func fd, sl⟩) (hc : fd.code = .ref c) (lc : K.lookup c = some ⟨oc2, od2, .fields vs, sl2⟩) (hp : vs[11]? = some (.ref Pt)) : PySem.W.tabIn K x = some (c, Pt) := by
  unfold PySem.W.tabIn
  simp only [a, l, hc, lc, hp]
/-- .. as the top has made it -/
theorem Lam.mk_of {K : PySem.W.Frag} {mg : Str → Option Value} {base : Heap} {Tb : List (Addr × Str)} {x : Str} {c Pt : Addr} (X : K.In base) (G : base.Ns mainGlobals mg) (ht : PySem.W.tabIn K x = some (c, Pt)) (tb : TabB base mg c Pt) (nd : (Tb.map (·.1)).Nodup) (m : (Pt, ln x) ∈ Tb) : Lam K mg base Tb x c Pt :=
  ⟨tb, m, one_of nd m, fun f oc od fd sl g lk => PySem.W.law_code X G ht g (X _ _ lk) rfl⟩
end Gx

set_option maxRecDepth 100000
set_option maxHeartbeats 4000000
namespace Gx
open PySem PySem.Spec PyProof.Rows L2
/-! ### dicts whose keys are nested tuples -/
mutual
/-- the value v is the key k -/
inductive KeyV (K : PySem.W.Frag) (H : Hp) : NestedKey → V → Prop
  | none : KeyV K H .none .non
  | bool (b : Bool) : KeyV K H (.num (if b = true then 1 else 0)) (.bl b)
  | int (i : Int) : KeyV K H (.num i) (.int i)
  | text (x : Str) : KeyV K H (.text x) (.str x)
  | tup {a : Addr} {xs : List V} {ks : List NestedKey} : SqT K H a xs → KeyAll K H ks xs → KeyV K H (.tup ks) (.ref a)
inductive KeyAll (K : PySem.W.Frag) (H : Hp) : List NestedKey → List V → Prop
  | nil : KeyAll K H [] []
  | cons {k : NestedKey} {v : V} {ks : List NestedKey} {vs : List V} : KeyV K H k v → KeyAll K H ks vs → KeyAll K H (k :: ks) (v :: vs)
end
/-- at a stands the key k -/
def KeyA (K : PySem.W.Frag) (H : Hp) (a : Addr) (k : NestedKey) : Prop := KeyV K H k (.ref a) ∧ k.depth ≤ 8
mutual
theorem KeyV.mono {K : PySem.W.Frag} {H H' : Hp} (m : ∀ a xs, SqT K H a xs → SqT K H' a xs) : ∀ (k : NestedKey) (v : V), KeyV K H k v → KeyV K H' k v
  | .none, _, x => by cases x; exact .none
  | .num i, _, x => by
    cases x with
    | bool b => exact .bool b
    | int _ => exact .int _
  | .text x, _, h => by cases h; exact .text _
  | .tup ks, _, h => by
    cases h with
    | tup h1 h2 => exact .tup (m _ _ h1) (KeyAll.mono m ks _ h2)
theorem KeyAll.mono {K : PySem.W.Frag} {H H' : Hp} (m : ∀ a xs, SqT K H a xs → SqT K H' a xs) : ∀ (ks : List NestedKey) (vs : List V), KeyAll K H ks vs → KeyAll K H' ks vs
  | [], _, x => by cases x; exact .nil
  | k :: ks, _, x => by
    cases x with
    | cons h1 h2 => exact .cons (KeyV.mono m k _ h1) (KeyAll.mono m ks _ h2)
end
theorem KeyA.mono {K : PySem.W.Frag} {H H' : Hp} (m : ∀ a xs, SqT K H a xs → SqT K H' a xs) {a : Addr} {k : NestedKey} (h : KeyA K H a k) : KeyA K H' a k := ⟨h.1.mono m k _, h.2⟩
/-- the entries: key, the key's own tuple, value -/
abbrev NL := List (NestedKey × Addr × V)
def prN (L : NL) : List (NestedKey × V) := L.map fun x => (x.1, x.2.2)
def getN (L : NL) (k : NestedKey) : Option V := valV (prN L) k
def putN (L : NL) (k : NestedKey) (a : Addr) (v : V) : NL := if (getN L k).isSome = true then L.map (fun x => if x.1 = k then (x.1, x.2.1, v) else x) else L ++ [(k, a, v)]
def dropN (L : NL) (k : NestedKey) : NL := L.filter fun x => decide (x.1 ≠ k)
theorem prN_put (L : NL) (k : NestedKey) (a : Addr) (v : V) : prN (putN L k a v) = putK (prN L) k v := by
  unfold putN putK
  rw [valV_any]
  show prN (if (valV (prN L) k).isSome = true then _ else _) = _
  split
  · unfold prN
    rw [List.map_map, List.map_map]
    refine List.map_congr_left fun x _ => ?_
    by_cases h : x.1 = k <;> simp [h]
  · simp [prN]
theorem prN_drop (L : NL) (k : NestedKey) : prN (dropN L k) = dropK (prN L) k := by
  unfold prN dropN dropK
  rw [List.filter_map]
  rfl
theorem prN_len (L : NL) : (prN L).length = L.length := by simp [prN]
theorem putN_len (L : NL) (k : NestedKey) (a : Addr) (v : V) : (putN L k a v).length ≤ L.length + 1 := by
  rw [← prN_len, prN_put, ← prN_len L]
  exact length_putK _ _ _
theorem dropN_len (L : NL) (k : NestedKey) : (dropN L k).length ≤ L.length := List.length_filter_le _ _
theorem putN_mem {L : NL} {k : NestedKey} {a : Addr} {v : V} {x : NestedKey × Addr × V} (h : x ∈ putN L k a v) : (∃ y ∈ L, x.1 = y.1 ∧ x.2.1 = y.2.1) ∨ (x.1 = k ∧ x.2.1 = a) := by
  unfold putN at h
  split at h
  · obtain ⟨y, hy, e⟩ := List.mem_map.mp h
    refine .inl ⟨y, hy, ?_⟩
    by_cases q : y.1 = k
    · rw [if_pos q] at e
      rw [← e]
      exact ⟨rfl, rfl⟩
    · rw [if_neg q] at e
      rw [← e]
      exact ⟨rfl, rfl⟩
  · rcases List.mem_append.mp h with h | h
    · exact .inl ⟨x, h, rfl, rfl⟩
    · have e : x = (k, a, v) := by simpa using h
      rw [e]
      exact .inr ⟨rfl, rfl⟩
abbrev NR : NL → List (NestedKey × Addr × Value) → Prop := Paired fun p q => q.1 = p.1 ∧ q.2.1 = p.2.1 ∧ RelV p.2.2 q.2.2
theorem NR.val {L : NL} {xs : List (NestedKey × Addr × Value)} (r : NR L xs) (k : NestedKey) : RelO (getN L k) ((atKey xs k).map (·.2)) := by
  unfold getN prN
  induction r with
  | nil => exact True.intro
  | @cons p q ps qs h t ih =>
    obtain ⟨h1, _, h2⟩ := h
    rw [List.map_cons]
    by_cases e : p.1 = k
    · have e' : q.1 = k := by rw [h1, e]
      have b : atKey (q :: qs) k = some q.2 := by simp [atKey, List.find?_cons, e']
      rw [valV_pos (p := (p.1, p.2.2)) e, b]; exact h2
    · have e' : ¬ q.1 = k := fun z => e (h1.symm.trans z)
      have b : atKey (q :: qs) k = atKey qs k := by simp [atKey, List.find?_cons, e']
      rw [valV_neg (p := (p.1, p.2.2)) e, b]; exact ih
theorem NR.repl {L : NL} {xs : List (NestedKey × Addr × Value)} (r : NR L xs) (k : NestedKey) {y : V} {u : Value} (ry : RelV y u) :
    NR (L.map fun x => if x.1 = k then (x.1, x.2.1, y) else x) (xs.map (putAt k u)) := by
  induction r with
  | nil => exact .nil
  | @cons p q ps qs h t ih =>
    rw [List.map_cons, List.map_cons]
    refine .cons ?_ ih
    obtain ⟨h1, h2, h3⟩ := h
    unfold putAt
    by_cases e : p.1 = k
    · rw [if_pos e, if_pos (by rw [h1, e])]; exact ⟨h1, h2, ry⟩
    · rw [if_neg e, if_neg (fun z => e (h1.symm.trans z))]; exact ⟨h1, h2, h3⟩
theorem NR.put {L : NL} {xs : List (NestedKey × Addr × Value)} (r : NR L xs) (k : NestedKey) {b : Addr} {y : V} {u : Value} (ry : RelV y u) : NR (putN L k b y) (storedH xs k b u) := by
  have e : (getN L k).isSome = (atKey xs k).isSome := by rw [(r.val k).isSome_eq, Option.isSome_map]
  unfold putN storedH
  rw [e]
  by_cases q : (atKey xs k).isSome = true
  · rw [if_pos q, if_pos q]; exact r.repl k ry
  · rw [if_neg q, if_neg q]; exact Paired.snoc r ⟨rfl, rfl, ry⟩
theorem NR.drop {L : NL} {xs : List (NestedKey × Addr × Value)} (r : NR L xs) (k : NestedKey) : NR (dropN L k) (withoutH xs k) := by
  unfold dropN withoutH
  induction r with
  | nil => exact .nil
  | @cons p q ps qs h t ih =>
    obtain ⟨h1, h2⟩ := h
    rw [List.filter_cons, List.filter_cons]
    by_cases e : p.1 = k
    · have a : ¬ decide (p.1 ≠ k) = true := by simp [e]
      have b : ¬ decide (q.1 ≠ k) = true := by simp [h1, e]
      rw [if_neg a, if_neg b]; exact ih
    · have e' : ¬ q.1 = k := fun z => e (h1.symm.trans z)
      have a : decide (p.1 ≠ k) = true := by simp [e]
      have b : decide (q.1 ≠ k) = true := by simp [e']
      rw [if_pos a, if_pos b]; exact .cons ⟨h1, h2⟩ ih
theorem NR.length {L : NL} {xs : List (NestedKey × Addr × Value)} (r : NR L xs) : L.length = xs.length := Paired.length r
/-- what is true of the dict's one object -/
def DNp (P : Program) (w : World) (d : Addr) (L : NL) (h : Heap) : Prop := L.length ≤ sizeLine ∧ (d == sysModules) = false ∧ ∃ xs, NR L xs ∧
  ∃ o es ep, h.get? d = some o ∧ o.ExactDict ∧ o.data = .dict es ep ∧ es.toList = xs.map (entryOfKey (nestedKind P w)) ∧ (xs.map (·.1)).Nodup
/-- the dict with the entries L stands at d -/
def DN (P : Program) (w : World) (d : Addr) (L : NL) : HO := .ext (DNp P w d L)
theorem dnp_at {P : Program} {w : World} {d : Addr} {L : NL} {h1 h2 : Heap} (x : DNp P w d L h1) (k : ∀ o, h1.get? d = some o → h2.get? d = some o) : DNp P w d L h2 := by
  obtain ⟨z, y, xs, r, o, es, ep, e, c⟩ := x
  exact ⟨z, y, xs, r, o, es, ep, k _ e, c⟩
theorem dn_ok {P : Program} {w : World} {d : Addr} {L : NL} {H : Hp} {h : Heap} (x : DNp P w d L h) : ObjOk P w H h d (DN P w d L) := by
  obtain ⟨z, y, xs, r, o, es, ep, e, c⟩ := id x
  exact ⟨x, ⟨o, e⟩, fun h1 h2 p k => dnp_at p k⟩
theorem dnp_of {P : Program} {w : World} {d : Addr} {L : NL} {H : Hp} {h : Heap} (ok : HOk P w H h) (e : Rd H d (DN P w d L)) : DNp P w d L h := (show ObjOk P w H h d (DN P w d L) from e.ok ok).1
/-- a dict that can be read, its keys standing -/
def NDict (P : Program) (w : World) (K : PySem.W.Frag) (H : Hp) (d : Addr) (L : NL) : Prop := Rd H d (DN P w d L) ∧ ∀ x ∈ L, KeyA K H x.2.1 x.1
section
variable {X : Cx} {pins : List (Addr × Obj)} {σ : L2.St} {H : Hp} {s : Shared} {d b : Addr} {L : NL} {k : NestedKey} {v z : V} {u r : Value} {A : Around} {E : Value → Shared → Prop}
mutual
theorem keyV_is (I : Inv X pins σ H s) : ∀ (k : NestedKey) (v : V) (u : Value), KeyV X.K H k v → RelV v u → NestedIs s.heap k u
  | .none, _, _, x, r => by cases x; obtain rfl := (show _ = Value.none from r); exact .none
  | .num i, _, _, x, r => by
    cases x with
    | bool b => obtain rfl := (show _ = Value.bool b from r); exact .bool rfl
    | int _ => obtain ⟨t, rfl⟩ := (show ∃ t, _ = Value.int i t from r); exact .int _ _
  | .text x, _, _, h, r => by cases h; obtain ⟨t, rfl⟩ := (show ∃ t, _ = Value.str x t from r); exact .text _ _
  | .tup ks, _, _, h, r => by
    cases h with
    | @tup a xs _ h1 h2 =>
      obtain rfl := (show _ = Value.ref a from r)
      obtain ⟨its, rv, ⟨o, e1, e2, n, e3⟩, _⟩ := I.tuple h1
      exact .tup e1 e2 e3 (by simpa using keyAll_is I ks _ _ h2 rv)
theorem keyAll_is (I : Inv X pins σ H s) : ∀ (ks : List NestedKey) (vs : List V) (us : List Value), KeyAll X.K H ks vs → Vals vs us → NestedAll s.heap ks us
  | [], _, _, x, r => by cases x; cases r; exact .nil
  | k :: ks, _, _, x, r => by
    cases x with
    | cons h1 h2 =>
      cases r with
      | cons r1 r2 => exact .cons (keyV_is I k _ _ h1 r1) (keyAll_is I ks _ _ h2 r2)
end
theorem nkey_of (I : Inv X pins σ H s) (h : KeyA X.K H b k) : (nestedKind X.prog X.w).is s.heap k b := ⟨keyV_is I k _ _ h.1 rfl, h.2⟩
theorem dn_rd (I : Inv X pins σ H s) (e : NDict X.prog X.w X.K H d L) : L.length ≤ sizeLine ∧ (d == sysModules) = false ∧ ∃ xs, NR L xs ∧ s.heap.DictOfH (nestedKind X.prog X.w) d xs := by
  obtain ⟨e, hk⟩ := e
  obtain ⟨z, y, xs, r, o, es, ep, h1, h2, h3, h4, h5⟩ := dnp_of I.hok e
  refine ⟨z, y, xs, r, o, es, ep, h1, h2, h3, h4, fun x hx => ?_, h5⟩
  have all : ∀ {l : NL} {m : List (NestedKey × Addr × Value)}, NR l m → (∀ x ∈ l, KeyA X.K H x.2.1 x.1) → ∀ x ∈ m, (nestedKind X.prog X.w).is s.heap x.1 x.2.1 := by
    intro l m q
    induction q with
    | nil => intro _ x hx; exact nomatch hx
    | @cons p q ps qs hq t ih =>
      intro hl x hx
      rcases List.mem_cons.mp hx with e | hx
      · subst e
        rw [hq.1, hq.2.1]
        exact nkey_of I (hl p List.mem_cons_self)
      · exact ih (fun y hy => hl y (List.mem_cons_of_mem _ hy)) x hx
  exact all r hk x hx
theorem roomN (hu : A.units + 64 < cLine) : (nestedKind X.prog X.w).room A.in1 := by
  show A.units + 1 + 8 < cLine
  omega
theorem n_getItem {Q : Value → Shared → Prop} (hu : A.units + 64 < cLine) (I : Inv X pins σ H s) (e : NDict X.prog X.w X.K H d L) (hb : KeyA X.K H b k) (hv : getN L k = some v) (h : ∀ w' s', Inv X pins σ H s' → RelV v w' → Q w' s') :
    wpAny (model X.prog X.w) A (getItem (.ref d) (.ref b)) Q E s := by
  obtain ⟨z, hd, xs, rel, dd⟩ := dn_rd I e
  obtain ⟨w', hw, rw'⟩ := RelO.some_of (v := v) (o := (atKey xs k).map (·.2)) (by rw [← hv]; exact rel.val k)
  obtain ⟨p, hp, hp2⟩ := Option.map_eq_some_iff.mp hw
  refine wpAny_getItem_heap (roomN (X := X) hu) (nkey_of I hb) dd hp ?_
  rw [hp2]
  exact h w' _ (I.tok _) rw'
theorem n_in {Q : Value → Shared → Prop} (hu : A.units + 64 < cLine) (I : Inv X pins σ H s) (e : NDict X.prog X.w X.K H d L) (hb : KeyA X.K H b k) (h : ∀ s', Inv X pins σ H s' → Q (.bool (getN L k).isSome) s') :
    wpAny (model X.prog X.w) A (compareOp .In (.ref b) (.ref d)) Q E s := by
  obtain ⟨z, hd, xs, rel, dd⟩ := dn_rd I e
  refine wpAny_in_heap (roomN (X := X) hu) (nkey_of I hb) hd dd ?_
  have q := (rel.val k).isSome_eq
  rw [Option.isSome_map] at q
  rw [← q]
  exact h _ (I.tok _)
theorem n_notIn {Q : Value → Shared → Prop} (hu : A.units + 64 < cLine) (I : Inv X pins σ H s) (e : NDict X.prog X.w X.K H d L) (hb : KeyA X.K H b k) (h : ∀ s', Inv X pins σ H s' → Q (.bool (!(getN L k).isSome)) s') :
    wpAny (model X.prog X.w) A (compareOp .NotIn (.ref b) (.ref d)) Q E s := by
  obtain ⟨z, hd, xs, rel, dd⟩ := dn_rd I e
  refine wpAny_notIn_heap (roomN (X := X) hu) (nkey_of I hb) hd dd ?_
  have q := (rel.val k).isSome_eq
  rw [Option.isSome_map] at q
  rw [← q]
  exact h _ (I.tok _)
theorem n_get2 {Q : Value → Shared → Prop} (hu : A.units + 64 < cLine) (I : Inv X pins σ H s) (e : NDict X.prog X.w X.K H d L) (hb : KeyA X.K H b k) (rd : RelV z r) (h : ∀ w' s', Inv X pins σ H s' → RelV ((getN L k).getD z) w' → Q w' s') :
    wpAny (model X.prog X.w) A (call (.builtin "dict.get") [.ref d, .ref b, r]) Q E s := by
  obtain ⟨_, hd, xs, rel, dd⟩ := dn_rd I e
  exact call_meetsIn PySem.F.slot_dict_get dd.typeIs PySem.F.entry_dict_get (PySem.F.args_dict_get_3 _ _ _) (meetsH_dict_get_default (nestedKind X.prog X.w) d b hd r) ⟨roomN (X := X) hu, k, xs, nkey_of I hb, dd, h _ _ (I.tok _) ((rel.val k).getD rd)⟩
/-- the keys stay when the dict's object is replaced -/
theorem SqT.ext_upd {K : PySem.W.Frag} {φ : Heap → Prop} {u : HO} {a : Addr} {xs : List V} (e : H d = some (.ext φ)) (h : SqT K H a xs) : SqT K (upd H d u) a xs := by
  rcases h with h | h
  · refine .inl ?_
    rcases h with h | ⟨o, h⟩
    · exact .inl (by rw [upd_ne (fun z => by rw [z, e] at h; cases h)]; exact h)
    · exact .inr ⟨o, by rw [upd_ne (fun z => by rw [z, e] at h; cases h)]; exact h⟩
  · exact .inr h
theorem KeyA.ext_upd {K : PySem.W.Frag} {φ : Heap → Prop} {u : HO} {a : Addr} {p : NestedKey} (e : H d = some (.ext φ)) (h : KeyA K H a p) : KeyA K (upd H d u) a p := h.mono fun _ _ q => SqT.ext_upd e q
theorem n_write {L' : NL} {xs : List (NestedKey × Addr × Value)} {h' : Heap} {t' : Nat} (I : Inv X pins σ H s) (e : H d = some (DN X.prog X.w d L)) (hl : L'.length ≤ sizeLine) (rel : NR L' xs) (dd : h'.DictOfH (nestedKind X.prog X.w) d xs) (hs : Heap.SameBut d s.heap h') :
    Inv X pins σ (upd H d (DN X.prog X.w d L')) { s with heap := h', toks := t' } := by
  obtain ⟨_, hd, _⟩ := dnp_of I.hok (.inl e)
  obtain ⟨q, es, ep, hq, h2, h3, h4, _, h5⟩ := dd
  exact d_write I (by rw [e]; exact True.intro) hs ⟨q, hq⟩ (dn_ok ⟨hl, hd, xs, rel, q, es, ep, hq, h2, h3, h4, h5⟩)
theorem n_setItem {Q : Unit → Shared → Prop} (hu : A.units + 64 < cLine) (I : Inv X pins σ H s) (e : H d = some (DN X.prog X.w d L)) (hk : ∀ x ∈ L, KeyA X.K H x.2.1 x.1) (hb : KeyA X.K H b k) (hz : L.length < sizeLine) (rv : RelV v r)
    (h : ∀ s', Inv X pins σ (upd H d (DN X.prog X.w d (putN L k b v))) s' → Q () s') : wpAny (model X.prog X.w) A (setItem (.ref d) (.ref b) r) Q E s := by
  obtain ⟨z, hd, xs, rel, dd⟩ := dn_rd I ⟨.inl e, hk⟩
  have hz' : xs.length ≤ sizeLine := by rw [← rel.length]; exact z
  exact wpAny_setItem_heap (hsz := hz') (roomN (X := X) hu) (nkey_of I hb) dd fun h' dd' hs => h _ (n_write I e (by have := putN_len L k b v; omega) (rel.put k rv) dd' hs)
theorem n_dictSet {Q : Unit → Shared → Prop} (hu : A.units + 64 < cLine) (I : Inv X pins σ H s) (e : H d = some (DN X.prog X.w d L)) (hk : ∀ x ∈ L, KeyA X.K H x.2.1 x.1) (hb : KeyA X.K H b k) (hz : L.length < sizeLine) (rv : RelV v r)
    (h : ∀ s', Inv X pins σ (upd H d (DN X.prog X.w d (putN L k b v))) s' → Q () s') : wpAny (model X.prog X.w) A (dictSet d (.ref b) r) Q E s := by
  obtain ⟨z, hd, xs, rel, dd⟩ := dn_rd I ⟨.inl e, hk⟩
  have hz' : xs.length ≤ sizeLine := by rw [← rel.length]; exact z
  exact wpAny_dictSet_heap (hsz := hz') (show A.units + 8 < cLine by omega) (nkey_of I hb) dd fun h' dd' hs => h _ (n_write I e (by have := putN_len L k b v; omega) (rel.put k rv) dd' hs)
theorem n_pop {Q : Value → Shared → Prop} (hu : A.units + 64 < cLine) (I : Inv X pins σ H s) (e : H d = some (DN X.prog X.w d L)) (hk : ∀ x ∈ L, KeyA X.K H x.2.1 x.1) (hb : KeyA X.K H b k) (hv : getN L k = some v)
    (h : ∀ w' s', Inv X pins σ (upd H d (DN X.prog X.w d (dropN L k))) s' → RelV v w' → Q w' s') : wpAny (model X.prog X.w) A (call (.builtin "dict.pop") [.ref d, .ref b]) Q E s := by
  obtain ⟨z, hd, xs, rel, dd⟩ := dn_rd I ⟨.inl e, hk⟩
  have hz' : xs.length ≤ sizeLine := by rw [← rel.length]; exact z
  obtain ⟨w', hw, rw'⟩ := RelO.some_of (v := v) (o := (atKey xs k).map (·.2)) (by rw [← hv]; exact rel.val k)
  obtain ⟨p, hp, hp2⟩ := Option.map_eq_some_iff.mp hw
  refine call_pop_heap (more := []) (hsz := hz') (.inl rfl) (PySem.F.args_dict_pop_2 _ _) (roomN (X := X) hu) (nkey_of I hb) hd dd hp fun h' dd' hs => ?_
  rw [hp2]
  exact h w' _ (n_write I e (Nat.le_trans (dropN_len L k) z) (rel.drop k) dd' hs) rw'
theorem n_clear {Q : Value → Shared → Prop} (I : Inv X pins σ H s) (e : H d = some (DN X.prog X.w d L)) (h : ∀ s', Inv X pins σ (upd H d (DN X.prog X.w d [])) s' → Q .none s') :
    wpAny (model X.prog X.w) A (call (.builtin "dict.clear") [.ref d]) Q E s := by
  obtain ⟨z, hd, xs, rel, o, es, ep, ho, hx, hdt, he, hn⟩ := dnp_of I.hok (.inl e)
  have hs : es.size ≤ sizeLine := by rw [size_of_entries he, ← rel.length]; exact z
  refine call_meetsIn PySem.F.slot_dict_clear ⟨o, ho, hx.1⟩ PySem.F.entry_dict_clear (PySem.F.args_dict_clear_1 _) (meets_dict_clear_raw d) ⟨es, ep, ⟨o, ho, hx, hdt⟩, hs, fun h' hr' hs' => h _ ?_⟩
  obtain ⟨o', ho', hc', hd'⟩ := hr'
  exact n_write (t' := s.toks) I e (Nat.zero_le _) .nil ⟨o', #[], ep + 1, ho', hc', hd', rfl, (fun _ hx => nomatch hx), List.nodup_nil⟩ hs'
theorem n_raw (I : Inv X pins σ H s) (e : Rd H d (DN X.prog X.w d L)) : L.length ≤ sizeLine ∧ (d == sysModules) = false ∧ ∃ es ep, s.heap.DictRaw d es ep ∧ es.size = L.length ∧
    ∀ (i : Nat) (x : NestedKey × Addr × V), L[i]? = some x → ∃ en, es[i]? = some en ∧ en.key = .ref x.2.1 ∧ RelV x.2.2 en.val := by
  obtain ⟨z, hd, xs, rel, o, es, ep, ho, hx, hdt, he, hn⟩ := dnp_of I.hok e
  refine ⟨z, hd, es, ep, ⟨o, ho, hx, hdt⟩, by rw [size_of_entries he, ← rel.length], fun i x hi => ?_⟩
  obtain ⟨y, hy, e1, e2, e3⟩ := paired_get rel hi
  have q := entry_at he i
  rw [hy] at q
  exact ⟨_, q, congrArg Value.ref e2, e3⟩
end
end Gx


set_option maxRecDepth 100000
set_option maxHeartbeats 4000000
namespace Gx
open PySem PySem.Spec PyProof.Rows L2
/-! ### rules over dicts with keys (text, tuple of texts) -/
/-- the context's program, world and written part -/
abbrev XI (X : Cx) (P : Program) (w : World) (K : PySem.W.Frag) : Prop := X.prog = P ∧ X.w = w ∧ X.K = K
section
variable {P : Program} {w : World} {K : PySem.W.Frag}
/-- d[y] -/
def tNGet (P : Program) (w : World) (K : PySem.W.Frag) (td ty : TE) : TE := fun σ H Q => td σ H fun x H1 => ty σ H1 fun y H2 => ∃ a b L k v, x = .ref a ∧ y = .ref b ∧ NDict P w K H2 a L ∧ KeyA K H2 b k ∧ getN L k = some v ∧ Q v H2
/-- y in d, y not in d -/
def tNIn (P : Program) (w : World) (K : PySem.W.Frag) (g : Bool → Bool) (ty td : TE) : TE := fun σ H Q => ty σ H fun y H1 => td σ H1 fun x H2 => ∃ a b L k, x = .ref a ∧ y = .ref b ∧ NDict P w K H2 a L ∧ KeyA K H2 b k ∧ Q (.bl (g (getN L k).isSome)) H2
/-- d[y] = v -/
def sNPut (P : Program) (w : World) (K : PySem.W.Frag) (td ty tv : TE) : TS := fun D σ H => tv σ H fun v H1 => td σ H1 fun x H2 => ty σ H2 fun y H3 => ∃ a b L k, x = .ref a ∧ y = .ref b ∧ H3 a = some (DN P w a L) ∧ (∀ e ∈ L, KeyA K H3 e.2.1 e.1) ∧ KeyA K H3 b k ∧ L.length < sizeLine ∧ D.nx σ (upd H3 a (DN P w a (putN L k b v)))
/-- d.get(y, z) -/
def tNGet2 (P : Program) (w : World) (K : PySem.W.Frag) (td ty tx : TE) : TE := fun σ H Q => td σ H fun x H1 => ∃ a L0, x = .ref a ∧ Rd H1 a (DN P w a L0) ∧ ty σ H1 fun y H2 => tx σ H2 fun z H3 => ∃ b L k, y = .ref b ∧ NDict P w K H3 a L ∧ KeyA K H3 b k ∧ Q ((getN L k).getD z) H3
/-- d.pop(y) of a key that is there; d.clear() -/
def tNPop (P : Program) (w : World) (K : PySem.W.Frag) (td ty : TE) : TE := fun σ H Q => td σ H fun x H1 => ∃ a L0, x = .ref a ∧ Rd H1 a (DN P w a L0) ∧ ty σ H1 fun y H2 => ∃ b L k v, y = .ref b ∧ H2 a = some (DN P w a L) ∧ (∀ e ∈ L, KeyA K H2 e.2.1 e.1) ∧ KeyA K H2 b k ∧ getN L k = some v ∧ Q v (upd H2 a (DN P w a (dropN L k)))
def tNClear (P : Program) (w : World) (td : TE) : TE := fun σ H Q => td σ H fun x H1 => ∃ a L, x = .ref a ∧ H1 a = some (DN P w a L) ∧ Q .non (upd H1 a (DN P w a []))
/-- {} -/
def tNNew (P : Program) (w : World) : TE := fun _ H Q => ∀ p, H p = none → Q (.ref p) (upd H p (DN P w p []))
theorem dn_empty {H : Hp} (h : Heap) (hb : sysModules < h.objs.size) : ObjOk P w H (h.push { cls := .type "dict", data := .dict #[] }) h.objs.size (DN P w h.objs.size []) :=
  dn_ok ⟨Nat.zero_le _, beq_eq_false_iff_ne.mpr (Ne.symm (Nat.ne_of_lt hb)), [], .nil, _, #[], 0, Heap.get?_push_size _ rfl, ⟨rfl, rfl, rfl⟩, rfl, rfl, List.nodup_nil⟩
section
variable {X : Cx} {pins : List (Addr × Obj)} {σ : L2.St} {H : Hp} {s : Shared} {a : Addr} {L : NL}
theorem n_type (I : Inv X pins σ H s) (e : Rd H a (DN X.prog X.w a L)) : s.TypeIs (.ref a) "dict" ∧ (∀ b, Value.ref a = .ref b → ∃ ob, s.heap.get? b = some ob ∧ ob.dict = none) := by
  obtain ⟨_, _, es, ep, ⟨o, h1, h2, _⟩, _⟩ := n_raw I e
  refine ⟨⟨o, h1, h2.1⟩, fun b q => ?_⟩
  cases q
  exact ⟨o, h1, h2.2.1⟩
end
section
variable {X : Cx} {o i e f value : Expr} {pos pos' apos cpos : Pos} {td ty tv tx : TE}
theorem pe_nget (hx : XI X P w K) (hu : X.A.units + 64 < cLine) (ho : PE X o td) (hi : PE X i ty) (hs : NoSl i) : PE X (.Subscript o i pos) (tNGet P w K td ty) := by
  obtain ⟨rfl, rfl, rfl⟩ := hx
  refine ⟨fun pins s σ H Q I h => ?_⟩
  refine subD_of PySem.F.slot_dict_getitem.lookup hs (thn (ho.run pins s σ H _ I h) fun u s1 ⟨x, H1, I1, rx, q1⟩ => thn (hi.run pins s1 σ H1 _ I1 q1) fun iv s2 ⟨y, H2, I2, ry, a, b, L, k, v, ex, ey, g, hb, hv, q2⟩ => ?_)
  subst ex ey
  obtain rfl : u = Value.ref a := rx
  obtain rfl : iv = Value.ref b := ry
  exact ⟨(n_type I2 g.1).1, n_getItem hu I2 g hb hv fun w' s3 I3 rw' => ⟨v, H2, I3, rw', q2⟩⟩
theorem pc_nin (hx : XI X P w K) (hu : X.A.units + 64 < cLine) (hi : PE X i ty) (ho : PE X o td) : PC X .In i o (tNIn P w K id ty td) := by
  obtain ⟨rfl, rfl, rfl⟩ := hx
  refine ⟨fun pins s σ H Q I h => ?_⟩
  refine thn (hi.run pins s σ H _ I h) fun iv s1 ⟨y, H1, I1, ry, q1⟩ => thn (ho.run pins s1 σ H1 _ I1 q1) fun u s2 ⟨x, H2, I2, rx, a, b, L, k, ex, ey, g, hb, q2⟩ => ?_
  subst ex ey
  obtain rfl : u = Value.ref a := rx
  obtain rfl : iv = Value.ref b := ry
  exact n_in hu I2 g hb fun s3 I3 => ⟨.bl (getN L k).isSome, H2, I3, rfl, q2⟩
theorem pc_nnotin (hx : XI X P w K) (hu : X.A.units + 64 < cLine) (hi : PE X i ty) (ho : PE X o td) : PC X .NotIn i o (tNIn P w K not ty td) := by
  obtain ⟨rfl, rfl, rfl⟩ := hx
  refine ⟨fun pins s σ H Q I h => ?_⟩
  refine thn (hi.run pins s σ H _ I h) fun iv s1 ⟨y, H1, I1, ry, q1⟩ => thn (ho.run pins s1 σ H1 _ I1 q1) fun u s2 ⟨x, H2, I2, rx, a, b, L, k, ex, ey, g, hb, q2⟩ => ?_
  subst ex ey
  obtain rfl : u = Value.ref a := rx
  obtain rfl : iv = Value.ref b := ry
  exact n_notIn hu I2 g hb fun s3 I3 => ⟨.bl (!(getN L k).isSome), H2, I3, rfl, q2⟩
theorem ps_nput (hx : XI X P w K) (hu : X.A.units + 64 < cLine) (ho : PE X o td) (hi : PE X i ty) (hv : PE X value tv) (hs : swapsWith value (some (.Subscript o i pos')) pos.line X.env = pure false) :
    PS X (.Assign [.Subscript o i pos'] value pos) (sNPut P w K td ty tv) := by
  obtain ⟨rfl, rfl, rfl⟩ := hx
  refine ⟨fun pins s σ H D I h => ?_⟩
  refine wpAny_Assign_Subscript (thn (hv.run pins s σ H _ I h) fun r s1 ⟨v, H1, I1, rv, q1⟩ => thn (ho.run pins s1 σ H1 _ I1 q1) fun u s2 ⟨x, H2, I2, rx, q2⟩ => thn (hi.run pins s2 σ H2 _ I2 q2) fun iv s3 ⟨y, H3, I3, ry, a, b, L, k, ex, ey, g, hk, hb, hz, q3⟩ => ?_) hs
  subst ex ey
  obtain rfl : u = Value.ref a := rx
  obtain rfl : iv = Value.ref b := ry
  exact n_setItem hu I3 g hk hb hz rv fun s4 I4 => ⟨σ, _, I4, q3⟩
theorem pe_nget2 (hx : XI X P w K) (hu : X.A.units + 64 < cLine) (ho : PE X o td) (he : PE X e ty) (hf : PE X f tx) (m : M2 X o "get" apos e f cpos) : PE X (.Call (.Attribute o "get" apos) [e, f] [] cpos) (tNGet2 P w K td ty tx) := by
  obtain ⟨rfl, rfl, rfl⟩ := hx
  refine ⟨fun pins s σ H Q I h => ?_⟩
  refine wpAny_Call_method m.base m.few m.line PySem.F.plainAttrs_dict PySem.F.slot_dict_get PySem.F.type_dict_get (thn (ho.run pins s σ H _ I h) fun u s1 ⟨x, H1, I1, rx, a, L0, ex, d, q1⟩ => ?_)
  subst ex
  obtain rfl : u = Value.ref a := rx
  obtain ⟨t1, t2⟩ := n_type I1 d
  refine ⟨t1, t2, ?_⟩
  rw [m.trees]
  refine Calls.callWith_builtin rfl (Calls.evalArgs_plain (Calls.spliced_cons (thn (he.run pins s1 σ H1 _ I1 q1) fun iv s2 ⟨y, H2, I2, ry, q2⟩ =>
    Calls.spliced_cons (thn (hf.run pins s2 σ H2 _ I2 q2) fun fv s3 ⟨z, H3, I3, rz, b, L, k, ey, g, hb, q3⟩ => Calls.spliced_nil ?_))))
  subst ey
  obtain rfl : iv = Value.ref b := ry
  exact n_get2 hu I3 g hb rz fun w' s4 I4 rw' => ⟨_, H3, I4, rw', q3⟩
theorem pe_npop (hx : XI X P w K) (hu : X.A.units + 64 < cLine) (ho : PE X o td) (he : PE X e ty) (m : M1 X o "pop" apos e cpos) : PE X (.Call (.Attribute o "pop" apos) [e] [] cpos) (tNPop P w K td ty) := by
  obtain ⟨rfl, rfl, rfl⟩ := hx
  refine ⟨fun pins s σ H Q I h => ?_⟩
  refine wpAny_Call_method m.base m.few m.line PySem.F.plainAttrs_dict PySem.F.slot_dict_pop PySem.F.type_dict_pop (thn (ho.run pins s σ H _ I h) fun u s1 ⟨x, H1, I1, rx, a, L0, ex, d, q1⟩ => ?_)
  subst ex
  obtain rfl : u = Value.ref a := rx
  obtain ⟨t1, t2⟩ := n_type I1 d
  refine ⟨t1, t2, ?_⟩
  rw [m.trees]
  refine Calls.callWith_builtin rfl (Calls.evalArgs_plain (Calls.spliced_cons (thn (he.run pins s1 σ H1 _ I1 q1) fun iv s2 ⟨y, H2, I2, ry, b, L, k, v, ey, g, hk, hb, hv, q2⟩ => Calls.spliced_nil ?_)))
  subst ey
  obtain rfl : iv = Value.ref b := ry
  exact n_pop hu I2 g hk hb hv fun w' s3 I3 rw' => ⟨v, _, I3, rw', q2⟩
theorem pe_nclear (hx : XI X P w K) (ho : PE X o td) (hbase : attributeBase o "clear" X.env (eval o X.env) = eval o X.env := by rfl) (hline : (apos.endLine == cpos.line) = true := by rfl) :
    PE X (.Call (.Attribute o "clear" apos) [] [] cpos) (tNClear P w td) := by
  obtain ⟨rfl, rfl, rfl⟩ := hx
  refine ⟨fun pins s σ H Q I h => ?_⟩
  refine wpAny_Call_method (T := "dict") (id := "dict.clear") hbase rfl hline PySem.F.plainAttrs_dict PySem.F.slot_dict_clear PySem.F.type_dict_clear (thn (ho.run pins s σ H _ I h) fun u s1 ⟨x, H1, I1, rx, a, L, ex, d, q1⟩ => ?_)
  subst ex
  obtain rfl : u = Value.ref a := rx
  obtain ⟨t1, t2⟩ := n_type I1 (.inl d)
  refine ⟨t1, t2, ?_⟩
  show wpAny _ _ (callWith cpos (.builtin "dict.clear") [.ref a] [] []) _ X.xe s1
  exact Calls.callWith_builtin rfl (PySem.evalArgs_none (n_clear I1 d fun s2 I2 => ⟨V.non, _, I2, rfl, q1⟩))
theorem pe_nnew (hx : XI X P w K) : PE X (.Dict [] [] pos) (tNNew P w) := by
  obtain ⟨rfl, rfl, rfl⟩ := hx
  exact ⟨fun pins s σ H Q I h =>
  wpAny_Dict_empty ⟨.ref s.heap.objs.size, _, I.laid (a := s.heap.objs.size) (o := DN X.prog X.w s.heap.objs.size []) (t' := s.toks) (fun _ _ q => Heap.get?_push_of_some _ q) (Nat.le_refl _) (dn_empty s.heap I.big), rfl, h _ (I.hok.fresh (Nat.le_refl _))⟩⟩
end
section
variable {X : Cx}
/-- len(d) -/
def rLenN (P : Program) (w : World) : List V → Hp → VK → Prop := fun vs H Q => ∃ (a : Addr) (L : NL), vs = [V.ref a] ∧ Rd H a (DN P w a L) ∧ Q (.int L.length) H
theorem call_lenN (hx : XI X P w K) : CallR X (.builtin "len") (rLenN P w) := by
  obtain ⟨rfl, rfl, rfl⟩ := hx
  intro pins s σ H vs us Q I r h
  obtain ⟨a, L, rfl, ha, q⟩ := h
  rw [Vals.ref1 r]
  obtain ⟨z, hd, es, ep, raw, hs, _⟩ := n_raw I ha
  have hz : L.length ≤ 16777216 := by rw [← sizeLine_eq]; exact z
  refine call_len_slot (n := (L.length : Int)) raw.typeIs PySem.F.slot_dict_len (fun Q' hq => call_len_raw hd raw (by rw [hs]; exact hq)) (by omega) (by omega) ⟨.int L.length, H, I.tok _, ⟨_, rfl⟩, q⟩
/-- list(d): a list of the keys' own tuples; list(d.values()) -/
theorem cr_listN (hx : XI X P w K) (hc : X.calm = true) : CallR X (.type "list") (fun vs H Q => ∃ (a : Addr) (L : NL), vs = [V.ref a] ∧ Rd H a (DN P w a L) ∧ ∀ p, H p = none → Q (.ref p) (upd H p (.lst (L.map fun x => V.ref x.2.1)))) := by
  obtain ⟨rfl, rfl, rfl⟩ := hx
  intro pins s σ H vs us Q I r h
  obtain ⟨a, L, rfl, ha, q⟩ := h
  rw [Vals.ref1 r]
  obtain ⟨z, hd, es, ep, raw, hs, hi⟩ := n_raw I ha
  refine PySem.W.kdl_call (KdlSrc.rawDict hd) (I.ok.hd hc) raw (by rw [hs]; exact z) fun h' tk acc c hk hD hacc => ?_
  have e : acc.toList = L.map fun x => Value.ref x.2.1 := by
    refine List.ext_getElem? fun j => ?_
    rw [List.getElem?_map, Array.getElem?_toList]
    cases hL : L[j]? with
    | none =>
      have : L.length ≤ j := List.getElem?_eq_none_iff.mp hL
      exact Array.getElem?_eq_none (by rw [hacc.1, hs]; exact this)
    | some x =>
      obtain ⟨en, h1, h2, _⟩ := hi j x hL
      have hj : j < acc.size := by
        have : j < L.length := (List.getElem?_eq_some_iff.mp hL).1
        rw [hacc.1, hs]; exact this
      obtain ⟨hlt, h3⟩ := hacc.2 j _ (Array.getElem?_eq_getElem hj)
      rw [Array.getElem?_eq_getElem hj, h3]
      rw [Array.getElem?_eq_getElem hlt] at h1
      rw [Option.some.inj h1, h2]
      rfl
  refine ⟨.ref s.heap.objs.size, upd H s.heap.objs.size (.lst (L.map fun x => V.ref x.2.1)), I.laid (t' := tk) hk (Nat.le_refl _) ⟨by rw [List.length_map]; exact z, acc.toList, c, ?_, by simpa using hD⟩, rfl, q _ (I.hok.fresh (Nat.le_refl _))⟩
  rw [e]
  exact vals_maps (fun x : NestedKey × Addr × V => V.ref x.2.1) (fun x => Value.ref x.2.1) L fun _ _ => rfl
end
/-! ### walks of a locked dict -/
def Itn (P : Program) (w : World) (d : Addr) (o : Obj) (L : NL) : It :=
  ⟨fun i H => H d = some (.frz o (DN P w d L)) ∧ i < L.length, fun i H x H' => H' = H ∧ ∃ e, L[i]? = some e ∧ x = .ref e.2.1, fun i H => H d = some (.frz o (DN P w d L)) ∧ L.length ≤ i⟩
def Itni (P : Program) (w : World) (d : Addr) (o : Obj) (L : NL) : It :=
  ⟨fun i H => H d = some (.frz o (DN P w d L)) ∧ i < L.length, fun i H x H' => ∃ T e, L[i]? = some e ∧ x = .ref T ∧ H T = none ∧ H' = upd H T (.tup [.ref e.2.1, e.2.2]), fun i H => H d = some (.frz o (DN P w d L)) ∧ L.length ≤ i⟩
theorem Inv.frzN {X : Cx} {pins : List (Addr × Obj)} {σ : L2.St} {H : Hp} {s : Shared} {d : Addr} {o : Obj} {L : NL} (I : Inv X pins σ H s) (h : H d = some (.frz o (DN X.prog X.w d L))) :
    (d == sysModules) = false ∧ s.heap.get? d = some o ∧ o.ExactDict ∧ ∃ (es : Array DictEntry) (ep : Nat), o.data = .dict es ep ∧ es.size = L.length ∧
      ∀ (i : Nat) (x : NestedKey × Addr × V), L[i]? = some x → ∃ (en : DictEntry), es[i]? = some en ∧ en.key = .ref x.2.1 ∧ RelV x.2.2 en.val := by
  obtain ⟨hd, _⟩ := I.hok d _ h
  obtain ⟨z, hs, es, ep, ⟨o', h1, h2, h3⟩, h4, h5⟩ := n_raw I (.inr ⟨o, h⟩)
  rw [hd] at h1
  cases h1
  exact ⟨hs, hd, h2, es, ep, h3, h4, h5⟩
section
variable {tg : Expr} {d : Addr} {o : Obj} {es : Array DictEntry} {ep : Nat} {L : NL}
theorem turn_keysN (it : Addr) (hod : o.data = .dict es ep) : Turn P w K tg (Itn P w d o L) [it] it (fun i h => h.IsKeyIter it d i L.length ep) where
  mem := by simp
  obj := fun i h st b hb => by
    have e : b = it := by simpa using hb
    subst e
    obtain ⟨oi, e, c, dd⟩ := st
    exact ⟨oi, e, fun v z => by rw [dd] at z; cases z⟩
  keep := fun i h h' st k => st.at fun oi e => k it (by simp) oi e
  item := by
    intro X hP hw hK hc i pins s σ H E I hf st hg
    subst hP hw hK
    obtain ⟨hd, hi⟩ := hg
    obtain ⟨f0, f1, f2, f3, f4, f5⟩ := hf it (by simp)
    obtain ⟨hs, hgd, hx, es', ep', hdt, hsz, ent⟩ := Gx.Inv.frzN I hd
    obtain ⟨rfl, rfl⟩ := dict_ep hod hdt
    obtain ⟨x, hkv⟩ : ∃ p, L[i]? = some p := ⟨L[i], List.getElem?_eq_getElem hi⟩
    obtain ⟨en, hen, hkey, _⟩ := ent i x hkv
    refine next_key_item st hgd hdt hsz hen fun h' st' sb => ?_
    have I1 : Inv X pins σ H { s with heap := h' } := I.turned (t' := s.toks) (fun b ob hb e => (sb.2 b hb).trans e) f0 f1 f3 f4 f5
    obtain ⟨oi, e, c, dd⟩ := id st'
    exact ⟨en.key, rfl, go_of (s := { s with heap := h' }) e c dd (by decide) ⟨.ref x.2.1, H, I1, hkey, ⟨rfl, x, hkv, rfl⟩, st', fun b hb => (hf b hb).1⟩⟩
  done := by
    intro X hP hw hK hc i pins s σ H E I hf st hg
    subst hP hw hK
    obtain ⟨hd, hi⟩ := hg
    obtain ⟨f0, f1, f2, f3, f4, f5⟩ := hf it (by simp)
    obtain ⟨hs, hgd, hx, es', ep', hdt, hsz, ent⟩ := Gx.Inv.frzN I hd
    obtain ⟨rfl, rfl⟩ := dict_ep hod hdt
    exact next_key_end (I.ok.hd hc) st hgd hdt hsz hi fun h' eb => ⟨rfl, I.turned (t' := s.toks) (fun b ob hb e => eb b ob hb e) f0 f1 f3 f4 f5⟩
  self := fun A i s Q E st h => by
    refine wpAny_pyIter_slot st.typeIs F.slot_dict_keyiterator_iter (wpAny_call_entry F.slot_dict_keyiterator_iter st.typeIs F.entry_dict_keyiterator_iter ?_ (F.args_dict_keyiterator_iter_1 _))
    show wpAny _ _ (ret (.ref it)) _ _ s
    exact wpAny_pure ⟨_, rfl, "dict_keyiterator", _, st.typeIs, F.slot_dict_keyiterator_next.lookup, h⟩
theorem turn_itemsN {elts : List Expr} {kk : Nat} {tpos : Pos} (it : Addr) (hod : o.data = .dict es ep) :
    Turn P w K (.Tuple elts kk tpos) (Itni P w d o L) [it] it (fun i h => ∃ ok ov, IsItemIter h it d i L.length ep ok ov) where
  mem := by simp
  obj := fun i h st b hb => by
    have e : b = it := by simpa using hb
    subst e
    obtain ⟨ok, ov, e⟩ := st
    exact ⟨_, e, fun v z => nomatch z⟩
  keep := fun i h h' st k => let ⟨ok, ov, e⟩ := st; ⟨ok, ov, k it (by simp) _ e⟩
  item := by
    intro X hP hw hK hc i pins s σ H E I hf st hg
    subst hP hw hK
    obtain ⟨hd, hi⟩ := hg
    obtain ⟨hs, hgd, hx, es', ep', hdt, hsz, ent⟩ := Gx.Inv.frzN I hd
    obtain ⟨rfl, rfl⟩ := dict_ep hod hdt
    obtain ⟨x, hkv⟩ : ∃ p, L[i]? = some p := ⟨L[i], List.getElem?_eq_getElem hi⟩
    obtain ⟨en, hen, hkey, hval⟩ := ent i x hkv
    obtain ⟨ok, ov, he⟩ := st
    rw [← hsz] at he
    have hlt : it < s.heap.objs.size := Heap.lt_size he
    have hi' : i < es'.size := by rw [hsz]; exact hi
    have een : es'[i] = en := by
      rw [Array.getElem?_eq_getElem hi'] at hen
      exact Option.some.inj hen
    refine DT.nextI he ⟨o, hgd, hx, hdt⟩ hi' fun h' ho hT hz hk => ?_
    rw [een] at ho hT
    refine ⟨_, rfl, wpAny_letOwnedTupleGo_items (s := { s with heap := h' }) ho fun h'' he' sb => ?_⟩
    have hT2 : h''.get? s.heap.objs.size = some { cls := .type "tuple", data := .seq #[en.key, en.val] } := (sb.2 _ (Nat.ne_of_gt hlt)).trans hT
    have new : ObjOk X.prog X.w (upd H s.heap.objs.size (.tup [.ref x.2.1, x.2.2])) h'' s.heap.objs.size (.tup [.ref x.2.1, x.2.2]) :=
      ⟨by show 2 ≤ sizeLine; decide, [en.key, en.val], .cons hkey (.cons hval .nil), ⟨_, hT2, rfl, _, rfl⟩⟩
    have I1 : Inv X pins σ (upd H s.heap.objs.size (.tup [.ref x.2.1, x.2.2])) { s with heap := h'' } :=
      I.turnedNew (t' := s.toks) (ch := [it]) (fun b ob hb e => (sb.2 b (by simpa using hb)).trans (hk b ob (by simpa using hb) e)) hf (Nat.le_refl _) new
    refine ⟨.ref s.heap.objs.size, _, I1, rfl, ⟨_, x, hkv, rfl, I.hok.fresh (Nat.le_refl _), rfl⟩, ⟨en.key, en.val, ?_⟩, fun b hb => ?_⟩
    · rw [← hsz]; exact he'
    · have e : b = it := by simpa using hb
      rw [e, upd_ne (Nat.ne_of_lt hlt)]
      exact (hf it (by simp)).1
  done := by
    intro X hP hw hK hc i pins s σ H E I hf st hg
    subst hP hw hK
    obtain ⟨hd, hi⟩ := hg
    obtain ⟨f0, f1, f2, f3, f4, f5⟩ := hf it (by simp)
    obtain ⟨hs, hgd, hx, es', ep', hdt, hsz, ent⟩ := Gx.Inv.frzN I hd
    obtain ⟨rfl, rfl⟩ := dict_ep hod hdt
    obtain ⟨ok, ov, he⟩ := st
    rw [← hsz] at he
    exact DT.endI (I.ok.hd hc) he ⟨o, hgd, hx, hdt⟩ (by rw [hsz]; exact hi) fun h' eb => ⟨rfl, I.turned (t' := s.toks) (fun b ob hb e => eb b ob hb e) f0 f1 f3 f4 f5⟩
  self := fun A i s Q E st h => let ⟨_, _, e⟩ := st; PySem.W.kcp_self e h
end
/-- the dict is locked -/
def iKeysN (P : Program) (w : World) (td : TE) : TI := fun σ H R => td σ H fun x H1 => ∃ d o L, x = .ref d ∧ H1 d = some (.frz o (DN P w d L)) ∧ R (Itn P w d o L) H1
def iItemsN (P : Program) (w : World) (td : TE) : TI := fun σ H R => td σ H fun x H1 => ∃ d o L, x = .ref d ∧ H1 d = some (.frz o (DN P w d L)) ∧ R (Itni P w d o L) H1
section
variable {X : Cx} {tg e : Expr} {td : TE} {apos cpos : Pos}
theorem pi_keysN (hx : XI X P w K) (he : PE X e td) : PI X tg e (iKeysN P w td) := by
  obtain ⟨rfl, rfl, rfl⟩ := hx
  refine ⟨fun pins s σ H R I h => ?_⟩
  refine thn (he.run pins s σ H _ I h) fun u s1 ⟨x, H1, I1, rx, d, o, L, ex, hd, q⟩ => ?_
  subst ex
  obtain rfl : u = Value.ref d := rx
  obtain ⟨hs, hgd, hx, es, ep, hdt, hsz, ent⟩ := Gx.Inv.frzN I1 hd
  refine iter_keys hs hgd hx hdt (pi_one (tk := s1.toks) I1 _ (turn_keysN _ hdt) ⟨_, Heap.get?_push_size _ rfl, rfl, ?_⟩ q)
  rw [hsz] <;> rfl
theorem pi_itemsN {elts : List Expr} {kk : Nat} {tpos : Pos} (hx : XI X P w K) (he : PE X e td) (hbase : attributeBase e "items" X.env (eval e X.env) = eval e X.env := by rfl) (hline : (apos.endLine == cpos.line) = true := by rfl) :
    PI X (.Tuple elts kk tpos) (.Call (.Attribute e "items" apos) [] [] cpos) (iItemsN P w td) := by
  obtain ⟨rfl, rfl, rfl⟩ := hx
  refine ⟨fun pins s σ H R I h => ?_⟩
  refine wpAny_Call_method (T := "dict") (id := "dict.items") hbase rfl hline F.plainAttrs_dict F.slot_dict_items F.type_dict_items (thn (he.run pins s σ H _ I h) fun u s1 ⟨x, H1, I1, rx, d, o, L, ex, hd, q⟩ => ?_)
  subst ex
  obtain rfl : u = Value.ref d := rx
  obtain ⟨hs, hgd, hx, es, ep, hdt, hsz, ent⟩ := Gx.Inv.frzN I1 hd
  obtain ⟨t1, t2⟩ := n_type I1 (.inr ⟨o, hd⟩)
  refine ⟨t1, t2, ?_⟩
  have I2 : Inv X pins σ H1 { s1 with heap := s1.heap.push { cls := .type "dict_items", data := .fields #[.ref d] } } := I1.kept (t' := s1.toks) fun b ob q => Heap.get?_push_of_some _ q
  have fin : wpAny (model X.prog X.w) X.A (pyIter (.ref s1.heap.objs.size)) (PIE X pins σ (.Tuple elts kk tpos) R) X.xe { s1 with heap := s1.heap.push { cls := .type "dict_items", data := .fields #[.ref d] } } := by
    refine DT.iterI (d := d) ⟨_, Heap.get?_push_size _ rfl, rfl, rfl⟩ (DT.Raw.push ⟨o, hgd, hx, hdt⟩ _) (pi_one (tk := s1.toks) I2 _ (turn_itemsN _ hdt) ⟨.none, .none, ?_⟩ q)
    rw [← hsz]
    exact Heap.get?_push_size _ rfl
  show wpAny _ _ (callWith cpos (.builtin "dict.items") [.ref d] [] []) _ X.xe s1
  exact method_meetsIn F.slot_dict_items F.entry_dict_items rfl (PySem.evalArgs_none ⟨rfl, t1, F.args_dict_items_1 _, _, DT.meetsItems (es := es) (ep := ep) hs, ⟨o, hgd, hx, hdt⟩, fin⟩)
end
theorem walk_keysN {d : Addr} {o : Obj} {L : NL} : Walk (Itn P w d o L) L.length (fun H => H d = some (.frz o (DN P w d L))) (fun i H x H' => H' = H ∧ ∃ e, L[i]? = some e ∧ x = .ref e.2.1) :=
  ⟨fun _ _ hi q => ⟨q, hi⟩, fun _ q => ⟨q, Nat.le_refl _⟩, fun _ _ _ _ _ _ y => y⟩
theorem walk_itemsN {d : Addr} {o : Obj} {L : NL} : Walk (Itni P w d o L) L.length (fun H => H d = some (.frz o (DN P w d L))) (YPair (fun i => L[i]?.map fun e => V.ref e.2.1) (fun i => L[i]?.map fun e => e.2.2)) := by
  refine ⟨fun _ _ hi q => ⟨q, hi⟩, fun _ q => ⟨q, Nat.le_refl _⟩, fun i H x H' _ _ y => ?_⟩
  obtain ⟨T, e, h1, h2, h3, h4⟩ := y
  exact ⟨T, .ref e.2.1, e.2.2, h2, h3, h4, by simp [h1], by simp [h1]⟩
end
end Gx

set_option maxRecDepth 100000
set_option maxHeartbeats 4000000
namespace Gx
open PySem PySem.Spec PyProof.Rows L2
/-! ### dict comprehensions, whatever the new dict's keys: new, its empty form; put, the reading of one store -/
abbrev PutG := Addr → V → V → Hp → (Hp → Prop) → Prop
def tDcG (new : Addr → HO) (put : PutG) (wi : TI) (g : TG) (tt : TT) (tk tv : TE) (vs : List Nat) : TE := fun σ H Q => wi σ H fun J H1 => ∀ D, H1 D = none → ∃ W : Nat → Nat → Hp → Prop, (∃ m, W 0 m (upd H1 D (new D))) ∧ ∀ i m H, W i m H →
  (J.stop i H ∧ Q (.ref D) H) ∨ (J.go i H ∧ ∃ Nx : Hp → Prop, (∀ H', Nx H' → ∃ m', m' < m ∧ W (i + 1) m' H') ∧ ∀ x H', J.yld i H x H' → g x (wipe σ vs) H' fun σ2 H2 => wipe σ2 vs = wipe σ vs ∧ tt σ2 H2 fun b H3 =>
    if b = true then tk σ2 H3 fun y H4 => tv σ2 H4 fun z H5 => put D y z H5 Nx else Nx H3)
/-- a store that the model's dictSet does -/
def PutOk (X : Cx) (put : PutG) : Prop := ∀ (A : Around) (hA : A = X.A) (pins : List (Addr × Obj)) (σ : L2.St) (H : Hp) (s : Shared) (E : Value → Shared → Prop) (D : Addr) (y z : V) (u r : Value) (N : Hp → Prop), Inv X pins σ H s → RelV y u → RelV z r → put D y z H N →
  wpAny (model X.prog X.w) A (dictSet D u r) (fun _ s' => ∃ H', Inv X pins σ H' s' ∧ N H') E s
/-- the new dict's object, just laid -/
def NewOk (P : Program) (w : World) (new : Addr → HO) : Prop := ∀ (H : Hp) (h : Heap), sysModules < h.objs.size → ObjOk P w H (h.push { cls := .type "dict", data := .dict #[] }) h.objs.size (new h.objs.size)
section
variable {X : Cx} {new : Addr → HO} {put : PutG}
theorem dcG_core {pins : List (Addr × Obj)} {s : Shared} {σ : L2.St} {H : Hp} {Q : VK} {kx vx tg iter : Expr} {ifs : List Expr} {scope : Scope} {own : List (Str × Nat)} {pos pos' : Pos} {wi : TI} {g : TG} {tt : TT} {tk tv : TE} {use : Option (Value → Sem Unit)} {Qf : Value → Shared → Prop}
    (hnew : NewOk X.prog X.w new) (hput : ∀ (s : Shared) (H : Hp) (C : Addr) (cl : List (Str × Addr)) (fp : List Addr), PutOk (X.blk s H scope (compEnvC scope cl C X.env) fp) put)
    (hc : X.calm = true) (hN : X.N.Nodup) (I : Inv X pins σ H s) (hi : PI X tg iter wi) (ok : BlkOk X.N X.env.scope scope own)
    (hg : ∀ (s : Shared) (H : Hp) (C : Addr) (cl : List (Str × Addr)) (fp : List Addr), PG (X.blk s H scope (compEnvC scope cl C X.env) fp) tg g) (ht : ∀ (s : Shared) (H : Hp) (C : Addr) (cl : List (Str × Addr)) (fp : List Addr), PTs (X.blk s H scope (compEnvC scope cl C X.env) fp) ifs tt)
    (hk : ∀ (s : Shared) (H : Hp) (C : Addr) (cl : List (Str × Addr)) (fp : List Addr), PE (X.blk s H scope (compEnvC scope cl C X.env) fp) kx tk)
    (he : ∀ (s : Shared) (H : Hp) (C : Addr) (cl : List (Str × Addr)) (fp : List Addr), PE (X.blk s H scope (compEnvC scope cl C X.env) fp) vx tv) (hs : ∀ x, foldedSetIterable iter X.env x = pure x)
    (h : tDcG new put wi g tt tk tv (own.map (·.2)) σ H Q)
    (hRR : ∀ D C s' m H', Inv X pins σ H' s' → Q (.ref D) H' → s'.heap.Ns C m → FpOk X pins H' C → compPost (model X.prog X.w) X.A X.xe use Qf (.ref D) C (.ok .next) s') :
    wpAny (model X.prog X.w) X.A (comprehension (.DictComp kx vx [⟨tg, iter, ifs, 0⟩] scope pos) scope X.env pos' newDict false (eval iter X.env) use) Qf X.xe s := by
  have hfree : ∀ y ∈ scope.names, y.2 = .free → ∃ c, X.env.cells.lookup y.1 = some c := fun y hy e => by
    rcases ok.free y hy e with k | k
    · exact I.ok.has _ (.inl k)
    · exact I.ok.has _ (.inr k)
  refine wpAny_comprehension_free (use := use) rfl hs (closure_ok hfree) ok.kind (fun y hy e => by rw [ok.uniq y hy, e]) (thn (hi.run pins s σ H _ I h) fun xv s1 hx => thn hx fun itv s2 h2 => ?_)
  obtain ⟨it, fp, tn, J, H2, rfl, I2, T, st2, f2, q⟩ := h2
  refine wpAny_newObj_type (newEnv_comp ?_)
  generalize hD : s2.heap.objs.size = D
  have hDn : H2 D = none := I2.hok.fresh (Nat.le_of_eq hD)
  obtain ⟨W, ⟨m0, w0⟩, turn⟩ := q D hDn
  generalize hs3 : ({ s2 with heap := s2.heap.push { cls := .type "dict", data := .dict #[] } } : Shared) = s3
  have h3 : s3.heap = s2.heap.push { cls := .type "dict", data := .dict #[] } := by rw [← hs3]
  generalize hH3 : upd H2 D (new D) = H3 at w0
  have I3 : Inv X pins σ H3 s3 := by
    rw [← hs3, ← hH3]
    refine I2.laid (t' := s2.toks) (fun b o e => Heap.get?_push_of_some _ e) (Nat.le_of_eq hD) ?_
    rw [← hD]
    exact hnew _ s2.heap I2.big
  have f3 : ∀ b ∈ fp, FpOk X pins H3 b ∧ b < s3.heap.objs.size := fun b hb => by
    obtain ⟨o, e, _⟩ := T.obj _ _ st2 b hb
    have hlt := Heap.lt_size e
    refine ⟨⟨?_, (f2 b hb).2⟩, by rw [h3, Heap.size_push]; exact Nat.lt_succ_of_lt hlt⟩
    rw [← hH3, upd_ne (by rw [← hD]; exact Nat.ne_of_lt hlt)]
    exact (f2 b hb).1
  have st3 : tn 0 s3.heap := T.keep _ _ _ st2 fun b _ o e => by rw [h3]; exact Heap.get?_push_of_some _ e
  have I4 := block_start I3 ok hN f3
  show codeAny _ _ (.compStart (.DictComp kx vx [⟨tg, iter, ifs, 0⟩] scope pos) 0 (.ref it) (.ref D) (compEnvC scope (cellsFrom (s3.heap.objs.size + 1) scope.names (cloFrom X.env.cells scope.names [])) s3.heap.objs.size X.env)) (compPost (model X.prog X.w) X.A X.xe use Qf (.ref D) s3.heap.objs.size) { s3 with heap := pushCells (s3.heap.push { cls := .type "dict", data := .dict #[] }) scope.names }
  generalize hcl : cellsFrom (s3.heap.objs.size + 1) scope.names (cloFrom X.env.cells scope.names []) = cl at I4 ⊢
  have pg := hg s3 H3 s3.heap.objs.size cl fp
  have pt := ht s3 H3 s3.heap.objs.size cl fp
  have pk := hk s3 H3 s3.heap.objs.size cl fp
  have pe := he s3 H3 s3.heap.objs.size cl fp
  have pp := hput s3 H3 s3.heap.objs.size cl fp
  generalize hce : compEnvC scope cl s3.heap.objs.size X.env = ce at I4 pg pt pk pe pp ⊢
  have cL : ce.locals = s3.heap.objs.size := by subst hce; rfl
  generalize hs4 : ({ s3 with heap := pushCells (s3.heap.push { cls := .type "dict", data := .dict #[] }) scope.names } : Shared) = s4 at I4 ⊢
  have st4 : tn 0 s4.heap := T.keep _ _ _ st3 fun b _ o e => by rw [← hs4]; exact pushCells_keeps _ _ _ _ (Heap.get?_push_of_some _ e)
  generalize hB : X.blk s3 H3 scope ce fp = B at I4 pg pt pk pe pp
  have calmB : B.calm = true := by rw [← hB]; exact hc
  have stat : ∀ {σ' : L2.St} {H' : Hp} {s' : Shared}, Inv B [] σ' H' s' → (∀ b ∈ fp, H' b = none) → ∀ b ∈ fp, FpOk B [] H' b := fun {σ' H' s'} I' hn b hb => by
    subst hB
    exact ⟨hn b hb, (I'.ok.exf b hb).1, I'.ok.exfs b hb, .inl hb, fun x c e => (I'.ok.exf b hb).2 x c e, fun p hp => absurd (show p ∈ ([] : List (Addr × Obj)) ++ [] from hp) (by simp)⟩
  have loop : codeAny (model X.prog X.w) X.A (.compLoop (.DictComp kx vx [⟨tg, iter, ifs, 0⟩] scope pos) 0 (.ref it) (.ref D) ce) (compPost (model X.prog X.w) X.A X.xe use Qf (.ref D) s3.heap.objs.size) s4 := by
    refine compLoop_anyD (fun n s' => ∃ i H', Inv B [] (wipe σ (own.map (·.2))) H' s' ∧ tn i s'.heap ∧ (∀ b ∈ fp, H' b = none) ∧ W i n H') ?_ m0 ⟨0, H3, I4, st4, fun b hb => (f3 b hb).1.1, w0⟩
    rintro n s5 ⟨i, H5, I5, st5, n5, w5⟩
    rcases turn i n H5 w5 with ⟨stop, qq⟩ | ⟨go, Nx, hNx, step⟩
    · subst hB
      have td := T.done (X.blk s3 H3 scope ce fp) rfl rfl rfl hc i [] s5 _ H5 (fun _ _ => False) I5 (stat I5 n5) st5 stop
      refine thnF td fun r s6 ⟨hr, I6⟩ => ?_
      subst hr
      have I7 : Inv X pins σ H5 s6 := I3.call' (ch := fp) I6.os I6.base I6.hok I6.bare fun b hb => ⟨(f3 b hb).1.2.2.2.1, (f3 b hb).1.2.1, (f3 b hb).1.2.2.2.2.1, (f3 b hb).1.2.2.2.2.2⟩
      have nC : H5 s3.heap.objs.size = none := by
        have z : H5 ce.locals = none := I6.free
        rw [cL] at z
        exact z
      obtain ⟨m, hn, _⟩ := I6.loc
      have hn : s6.heap.Ns ce.locals m := hn
      rw [cL] at hn
      exact hRR D s3.heap.objs.size s6 m H5 I7 qq hn (I3.fpOk (Nat.le_refl _) nC)
    · subst hB
      have ti := T.item (X.blk s3 H3 scope ce fp) rfl rfl rfl hc i [] s5 _ H5 (fun _ _ => False) I5 (stat I5 n5) st5 go
      refine thnF ti fun r s6 ⟨u, hr, h6⟩ => ?_
      subst hr
      refine thnF h6 fun _ s7 ⟨x, H7, I7, r7, y7, st7, n7⟩ => ?_
      have I7' := I7.pinned (stat I7 n7) (T.obj _ _ st7)
      refine thnF (pg.run _ s7 _ H7 x u _ I7' r7 (step x H7 y7)) fun _ s8 ⟨σ8, H8, I8, hw8, q8⟩ => ?_
      refine thnF (pt.run _ s8 σ8 H8 _ I8 q8) fun b s9 ⟨H9, I9, q9⟩ => ?_
      have fin : ∀ {s' : Shared} {H' : Hp}, Inv (X.blk s3 H3 scope ce fp) ([] ++ pinsAt fp s7.heap) σ8 H' s' → Nx H' → ∃ m, m < n ∧ ∃ i H', Inv (X.blk s3 H3 scope ce fp) [] (wipe σ (own.map (·.2))) H' s' ∧ tn i s'.heap ∧ (∀ b ∈ fp, H' b = none) ∧ W i m H' := fun {s' H'} I' nx => by
        obtain ⟨m', hm, w'⟩ := hNx H' nx
        have pin' : ∀ b ∈ fp, ∀ o, s7.heap.get? b = some o → s'.heap.get? b = some o ∧ H' b = none := fun b hb o e =>
          let z := I'.pin (b, o) (List.mem_append_right _ (List.mem_append_right _ (mem_pinsAt hb e)))
          ⟨z.1, z.2.1⟩
        have hl : (wipe σ (own.map (·.2))).length = σ8.length := by rw [← hw8, wipe_length]
        refine ⟨m', hm, i + 1, H', (I'.unpinned (pins := [])).weak hl (fun j v e => ?_), T.keep _ _ _ st7 fun b hb o e => (pin' b hb o e).1, fun b hb => ?_, w'⟩
        · rw [← hw8] at e
          exact (wipe_some e).1
        · obtain ⟨o, e, _⟩ := T.obj _ _ st7 b hb
          exact (pin' b hb o e).2
      cases b with
      | false =>
        simp only [Bool.false_eq_true, if_false] at q9 ⊢
        exact fin I9 q9
      | true =>
        simp only [if_true] at q9 ⊢
        refine thnF (pk.run _ s9 σ8 H9 _ I9 q9) fun z s10 ⟨yk, H10, I10, r10, q10⟩ => ?_
        refine thnF (pe.run _ s10 σ8 H10 _ I10 q10) fun z2 s11 ⟨yv, H11, I11, r11, q11⟩ => ?_
        refine thnF (pp X.A rfl _ σ8 H11 s11 _ D yk yv z z2 Nx I11 r10 r11 q11) fun _ s12 ⟨H12, I12, nx⟩ => fin I12 nx
  exact codeAny_compStart_dict loop (T.self X.A 0 _ _ _ st4 loop)
theorem pe_dcG {kx vx tg iter : Expr} {ifs : List Expr} {scope : Scope} {own : List (Str × Nat)} {pos : Pos} {wi : TI} {g : TG} {tt : TT} {tk tv : TE} (hnew : NewOk X.prog X.w new) (hput : ∀ (s : Shared) (H : Hp) (C : Addr) (cl : List (Str × Addr)) (fp : List Addr), PutOk (X.blk s H scope (compEnvC scope cl C X.env) fp) put)
    (hc : X.calm = true) (hN : X.N.Nodup) (hi : PI X tg iter wi) (ok : BlkOk X.N X.env.scope scope own)
    (hg : ∀ (s : Shared) (H : Hp) (C : Addr) (cl : List (Str × Addr)) (fp : List Addr), PG (X.blk s H scope (compEnvC scope cl C X.env) fp) tg g) (ht : ∀ (s : Shared) (H : Hp) (C : Addr) (cl : List (Str × Addr)) (fp : List Addr), PTs (X.blk s H scope (compEnvC scope cl C X.env) fp) ifs tt)
    (hk : ∀ (s : Shared) (H : Hp) (C : Addr) (cl : List (Str × Addr)) (fp : List Addr), PE (X.blk s H scope (compEnvC scope cl C X.env) fp) kx tk)
    (he : ∀ (s : Shared) (H : Hp) (C : Addr) (cl : List (Str × Addr)) (fp : List Addr), PE (X.blk s H scope (compEnvC scope cl C X.env) fp) vx tv) (hs : ∀ x, foldedSetIterable iter X.env x = pure x := by intro _; rfl) :
    PE X (.DictComp kx vx [⟨tg, iter, ifs, 0⟩] scope pos) (tDcG new put wi g tt tk tv (own.map (·.2))) := by
  refine ⟨fun pins s σ H Q I h => ?_⟩
  rw [arm_eval_DictComp]
  refine dcG_core hnew hput hc hN I hi ok hg ht hk he hs h fun D C s' m H' I' q hn f => ⟨m, hn, fun h'' sb => ?_⟩
  obtain ⟨f0, f1, f2, f3, f4, f5⟩ := f
  exact ⟨.ref D, H', I'.turned (t' := s'.toks) (fun b o hb e => (sb.2 b hb).trans e) f0 f1 f3 f4 f5, rfl, q⟩
end
/-! ### for keys (text, tuple of texts) -/
def putG (P : Program) (w : World) (K : PySem.W.Frag) : PutG := fun D y z H N => ∃ (L : NL) (k : NestedKey) (b : Addr), y = .ref b ∧ KeyA K H b k ∧ H D = some (DN P w D L) ∧ (∀ e ∈ L, KeyA K H e.2.1 e.1) ∧ L.length < sizeLine ∧ N (upd H D (DN P w D (putN L k b z)))
theorem newN {P : Program} {w : World} : NewOk P w fun D => DN P w D [] := fun _ h hb => dn_empty h hb
theorem putN_ok {X : Cx} {P : Program} {w : World} {K : PySem.W.Frag} (hx : XI X P w K) (hu : X.A.units + 64 < cLine) : PutOk X (putG P w K) := by
  obtain ⟨rfl, rfl, rfl⟩ := hx
  intro A hA pins σ H s E D y z u r N I ry rz h
  obtain ⟨L, k, b, rfl, hb, hD, hk, hz, n⟩ := h
  obtain rfl : u = Value.ref b := ry
  subst hA
  exact n_dictSet hu I hD hk hb hz rz fun s' I' => ⟨_, I', n⟩
/-- a dict comprehension by its walk: Pv by the turn and the heap (the new dict at D within) -/
theorem dcG_it {new : Addr → HO} {put : PutG} {J : It} {n : Nat} {G : Hp → Prop} {Y : Nat → Hp → V → Hp → Prop} (w : Walk J n G Y) {g : TG} {tt : TT} {tk tv : TE} {vs : List Nat} {σ : L2.St} {H1 : Hp} {D : Addr} {Qd : Hp → Prop} (Pv : Nat → Hp → Prop) (h0 : Pv 0 (upd H1 D (new D))) (hG : ∀ i H, i ≤ n → Pv i H → G H)
    (hs : ∀ i x H H', i < n → Pv i H → Y i H x H' → g x (wipe σ vs) H' fun σ2 H2 => wipe σ2 vs = wipe σ vs ∧ tt σ2 H2 fun b H3 =>
      if b = true then tk σ2 H3 fun y H4 => tv σ2 H4 fun z H5 => put D y z H5 (Pv (i + 1)) else Pv (i + 1) H3) (hd : ∀ H, Pv n H → Qd H) :
    ∃ W : Nat → Nat → Hp → Prop, (∃ m, W 0 m (upd H1 D (new D))) ∧ ∀ i m H, W i m H →
      (J.stop i H ∧ Qd H) ∨ (J.go i H ∧ ∃ Nx : Hp → Prop, (∀ H', Nx H' → ∃ m', m' < m ∧ W (i + 1) m' H') ∧ ∀ x H', J.yld i H x H' → g x (wipe σ vs) H' fun σ2 H2 => wipe σ2 vs = wipe σ vs ∧ tt σ2 H2 fun b H3 =>
        if b = true then tk σ2 H3 fun y H4 => tv σ2 H4 fun z H5 => put D y z H5 Nx else Nx H3) := by
  refine ⟨fun i m H => m = n - i ∧ i ≤ n ∧ Pv i H, ⟨n, by simp, Nat.zero_le _, h0⟩, ?_⟩
  rintro i m H ⟨rfl, hi, p⟩
  have q := hG i H hi p
  by_cases hlt : i < n
  · exact .inr ⟨w.goes i H hlt q, Pv (i + 1), fun H' p' => ⟨n - (i + 1), by omega, rfl, hlt, p'⟩, fun x H' y => hs i x H H' hlt p (w.yields i H x H' hlt q y)⟩
  · have e : i = n := by omega
    subst e
    exact .inl ⟨w.stops H q, hd H p⟩
end Gx

set_option maxRecDepth 100000
set_option maxHeartbeats 4000000
namespace Kl
open PySem PySem.Spec PyProof.Rows L2 Gx Mx
/-! ### tuples of texts: their order, < and sorted -/
def ltT : List Str → List Str → Bool
  | [], [] => false
  | [], _ :: _ => true
  | _ :: _, [] => false
  | x :: xs, y :: ys => if x = y then ltT xs ys else ltCps x.cps.toList y.cps.toList
theorem alike_texts : ∀ xs ys : List Str, PySem.W.alikeAll (tD xs) (tD ys) = true
  | [], _ => by simp [tD, PySem.W.alikeAll]
  | _ :: _, [] => by simp [tD, PySem.W.alikeAll]
  | x :: xs, y :: ys => by
    have ih := alike_texts xs ys
    unfold tD at ih ⊢
    rw [List.map_cons, List.map_cons, PySem.W.alikeAll, ih]
    simp [PySem.W.alike]
theorem lt_texts : ∀ xs ys : List Str, PySem.W.dataLt (.tuple (tD xs)) (.tuple (tD ys)) = ltT xs ys
  | [], [] => by
    rw [PySem.W.dataLt_tuple]
    exact lex_irrefl _
  | [], y :: ys => by
    rw [PySem.W.dataLt_tuple]
    unfold tD
    rw [List.map_nil, List.map_cons, PySem.W.keyToksAll, PySem.W.keyToksAll, PyProof.Rows.lex_diff (by decide)]
    rfl
  | x :: xs, [] => by
    rw [PySem.W.dataLt_tuple]
    unfold tD
    rw [List.map_nil, List.map_cons, PySem.W.keyToksAll, PySem.W.keyToksAll, PyProof.Rows.lex_diff (by decide)]
    rfl
  | x :: xs, y :: ys => by
    have ih := lt_texts xs ys
    rw [PySem.W.dataLt_tuple] at ih ⊢
    have al : PySem.W.alike (.str x) (.str y) = true := rfl
    unfold ltT
    by_cases e : x = y
    · subst e
      rw [if_pos rfl, ← ih]
      exact PySem.W.dataLt_all_yes al (by simp [PyData.eqv])
    · rw [if_neg e]
      have h := PySem.W.dataLt_all_no (xs := tD xs) (ys := tD ys) al (show PyData.eqv (.str x) (.str y) = false by simp [PyData.eqv, e])
      exact h.trans (by rw [PySem.W.dataLt_str, ltCps_eq])
theorem ltT_irrefl : ∀ xs : List Str, ltT xs xs = false
  | [] => rfl
  | x :: xs => by
    unfold ltT
    rw [if_pos rfl, ltT_irrefl xs]
theorem cps_total {x y : Str} (n : x ≠ y) (h : ltCps x.cps.toList y.cps.toList = false) : ltCps y.cps.toList x.cps.toList = true := by
  cases e : ltCps y.cps.toList x.cps.toList with
  | true => rfl
  | false => exact absurd (leS_anti ((leS_iff x y).mpr e) ((leS_iff y x).mpr h)) n
theorem cps_trans {x y z : Str} (h1 : ltCps x.cps.toList y.cps.toList = true) (h2 : ltCps y.cps.toList z.cps.toList = true) : ltCps x.cps.toList z.cps.toList = true := by
  rw [ltCps_eq, decide_eq_true_iff] at h1 h2 ⊢
  exact List.lt_trans h1 h2
theorem cps_irrefl (x : Str) : ltCps x.cps.toList x.cps.toList = false := (leS_iff x x).mp (leS_refl x)
theorem ltT_total : ∀ xs ys : List Str, ltT xs ys = true ∨ xs = ys ∨ ltT ys xs = true
  | [], [] => .inr (.inl rfl)
  | [], _ :: _ => .inl rfl
  | _ :: _, [] => .inr (.inr rfl)
  | x :: xs, y :: ys => by
    unfold ltT
    by_cases e : x = y
    · subst e
      rw [if_pos rfl, if_pos rfl]
      rcases ltT_total xs ys with h | h | h
      · exact .inl h
      · exact .inr (.inl (by rw [h]))
      · exact .inr (.inr h)
    · rw [if_neg e, if_neg fun q => e q.symm]
      cases c : ltCps x.cps.toList y.cps.toList with
      | true => exact .inl rfl
      | false => exact .inr (.inr (cps_total e c))
theorem ltT_trans : ∀ xs ys zs : List Str, ltT xs ys = true → ltT ys zs = true → ltT xs zs = true
  | [], [], _, h, _ => nomatch h
  | [], _ :: _, [], _, h => nomatch h
  | [], _ :: _, _ :: _, _, _ => rfl
  | _ :: _, [], _, h, _ => nomatch h
  | _ :: _, _ :: _, [], _, h => nomatch h
  | x :: xs, y :: ys, z :: zs, h1, h2 => by
    unfold ltT at h1 h2 ⊢
    by_cases e : x = y
    · subst e
      rw [if_pos rfl] at h1
      by_cases e2 : x = z
      · subst e2
        rw [if_pos rfl] at h2 ⊢
        exact ltT_trans xs ys zs h1 h2
      · rw [if_neg e2] at h2 ⊢
        exact h2
    · rw [if_neg e] at h1
      by_cases e2 : y = z
      · subst e2
        rw [if_neg e]
        exact h1
      · rw [if_neg e2] at h2
        have h3 := cps_trans h1 h2
        by_cases e3 : x = z
        · subst e3
          rw [cps_irrefl] at h3
          cases h3
        · rw [if_neg e3]
          exact h3
theorem ltT_asym {xs ys : List Str} (h : ltT xs ys = true) : ltT ys xs = false := by
  cases e : ltT ys xs with
  | false => rfl
  | true =>
    have := ltT_trans _ _ _ h e
    rw [ltT_irrefl] at this
    cases this
theorem leT_trans {xs ys zs : List Str} (h1 : ltT ys xs = false) (h2 : ltT zs ys = false) : ltT zs xs = false := by
  cases e : ltT zs xs with
  | false => rfl
  | true =>
    rcases ltT_total ys xs with h | h | h
    · rw [h] at h1; cases h1
    · rw [← h, h2] at e
      cases e
    · rw [ltT_trans _ _ _ e h] at h2
      cases h2
section
variable {X : Cx}
def rLtTT (K : PySem.W.Frag) : R2 := fun x y H Q => ∃ a b xs ys, x = .ref a ∧ y = .ref b ∧ SqT K H a (xs.map V.str) ∧ SqT K H b (ys.map V.str) ∧ Q (.bl (ltT xs ys)) H
theorem op_ltTT (hu : X.A.units + 64 < cLine) : OpR X (compareOp .Lt) (rLtTT X.K) := by
  intro pins s σ H x y v u Q I rx ry h
  obtain ⟨a, b, xs, ys, rfl, rfl, ha, hb, q⟩ := h
  obtain ⟨as, r1⟩ := Dp.reads I (.tuple (tD xs)) _ _ (.tup ha (dp_texts xs)) rx
  obtain ⟨bs, r2⟩ := Dp.reads I (.tuple (tD ys)) _ _ (.tup hb (dp_texts ys)) ry
  have h1 := PySem.W.rcLt_alike (.tuple (tD xs)) (.tuple (tD ys)) X.A s v u as bs r1 r2 (by simp only [PySem.W.alike]; exact alike_texts xs ys) nofun (by
    have := depth_texts xs
    simp only [PyData.depth]
    omega)
  rw [lt_texts] at h1
  exact h1 _ _ _ _ ⟨.bl (ltT xs ys), H, I, rfl, q⟩
def rSortTT (K : PySem.W.Frag) : List V → Hp → VK → Prop := fun vs H Q => ∃ (a : Addr) (L : List (Addr × List Str)), vs = [V.ref a] ∧ SqL K H a (L.map fun p => V.ref p.1) ∧ L.length ≤ 100000 ∧ (∀ p ∈ L, SqT K H p.1 (p.2.map V.str) ∧ p.2 ≠ []) ∧
  ∀ (L' : List (Addr × List Str)) (p : Addr), L'.Perm L → L'.Pairwise (fun a b => ltT b.2 a.2 = false) → H p = none → Q (.ref p) (upd H p (.lst (L'.map fun p => V.ref p.1)))
theorem each_of {K : PySem.W.Frag} : ∀ {L : List (Addr × List Str)} {us : List Value}, Vals (L.map fun p => V.ref p.1) us → PySem.W.EachIs (fun v b => v = Value.ref b.1) us L
  | [], _, .nil => .nil
  | p :: L, _, .cons h t => .cons h (each_of (K := K) t)
theorem vals_of : ∀ {L : List (Addr × List Str)} {us : List Value}, PySem.W.EachIs (fun v b => v = Value.ref b.1) us L → Vals (L.map fun p => V.ref p.1) us
  | [], _, .nil => .nil
  | p :: L, _, .cons h t => .cons h (vals_of t)
theorem cr_sortedTT (hu : X.A.units + 64 < cLine) : CallR X (.builtin "sorted") (rSortTT X.K) := by
  intro pins s σ H vs us Q I r h
  obtain ⟨a, L, rfl, hs, hL, hp, q⟩ := h
  obtain ⟨its, rv, hl, _⟩ := I.list hs
  rw [Vals.ref1 r]
  have big : 100000 ≤ sizeLine := by decide
  have e := each_of (K := X.K) rv
  refine PySem.W.sorted_data (R := fun v b => v = Value.ref b.1) (bs := L) (enc := fun b => .tuple (tD b.2)) hl.isList e ?_ ?_ ?_ (Nat.le_trans hL big) (fun b hb => ?_) fun out h1 h2 => ?_
  · have er : ∀ {vs : List Value} {bs : List (Addr × List Str)}, PySem.W.EachIs (fun v b => v = Value.ref b.1) vs bs → (∀ p ∈ bs, SqT X.K H p.1 (p.2.map V.str)) → PySem.W.EachIs (fun v b => ∃ as, Reads s.heap v (.tuple (tD b.2)) as) vs bs := by
      intro vs bs e
      induction e with
      | nil => exact fun _ => .nil
      | @cons v b vs bs h _ ih =>
        intro hq
        refine .cons ?_ (ih fun p hp => hq p (List.mem_cons_of_mem _ hp))
        exact Dp.reads I (.tuple (tD b.2)) (.ref b.1) v (.tup (hq b List.mem_cons_self) (dp_texts b.2)) h
    exact er e fun p h => (hp p h).1
  · exact PySem.W.AllAlike.of fun b b' => by
      simp only [PySem.W.alike]
      exact alike_texts b.2 b'.2
  · refine .inl fun d hd => ?_
    obtain ⟨b, hb, rfl⟩ := List.mem_map.mp hd
    cases e2 : b.2 with
    | nil => exact absurd e2 (hp b hb).2
    | cons x r => exact ⟨.str x, tD r, by unfold tD; rfl⟩
  · have := depth_texts b.2
    simp only [PyData.depth]
    omega
  · have hperm : (L.mergeSort (PySem.W.dataLe false fun b => .tuple (tD b.2))).Perm L := List.mergeSort_perm _ _
    have ele : ∀ a b : Addr × List Str, PySem.W.dataLe false (fun b : Addr × List Str => PyData.tuple (tD b.2)) a b = !ltT b.2 a.2 := fun a b => by
      rw [PySem.W.dataLe_eq]
      show (!PySem.W.dataLt (.tuple (tD b.2)) (.tuple (tD a.2))) = _
      rw [lt_texts]
    have hsrt := List.pairwise_mergeSort (le := PySem.W.dataLe false fun b : Addr × List Str => PyData.tuple (tD b.2)) (fun a b c h1 h2 => by
      rw [ele, Bool.not_eq_true'] at h1 h2 ⊢
      exact leT_trans h1 h2) (fun a b => by
      rw [ele, ele]
      cases e : ltT b.2 a.2 with
      | false => rfl
      | true => rw [ltT_asym e]; rfl) L
    generalize L.mergeSort (PySem.W.dataLe false fun b => .tuple (tD b.2)) = L' at h2 hperm hsrt
    obtain ⟨ep, he'⟩ := PyProof.Rows.sortedAll_at s.heap its out.toArray
    have hlen : (L'.map fun p => V.ref p.1).length ≤ sizeLine := by rw [List.length_map, hperm.length_eq]; omega
    exact ⟨.ref _, upd H (s.heap.objs.size + 1) (.lst (L'.map fun p => V.ref p.1)), I.laid (t' := s.toks) (fun _ _ => PyProof.Rows.sortedAll_old) (Nat.le_succ _) ⟨hlen, out, ep, vals_of h2, by simpa using he'⟩, rfl, q L' _ hperm (hsrt.imp fun {a b} h => by rw [ele] at h; simpa using h) (I.hok.fresh (Nat.le_succ _))⟩
end
end Kl

set_option maxRecDepth 100000
set_option maxHeartbeats 4000000
namespace Gx
open PySem PySem.W PySem.Calls PyProof.Rows PyProof.V PySem.Spec
/-! ### sorted(d), up to the sort of the keys -/
section
variable {prog : Program} {w : World} {A : Around} {E : Value → Shared → Prop} {s : Shared} {T : String} {r d : Addr} {n : Nat} {P : Nat → Value → Prop} {OK : Heap → Prop}
theorem collectK {R : List Value → Shared → Prop} (K : KdlSrc prog w T r d n P OK) (hh : A.handled = none) (hok : OK s.heap) (hn : n ≤ sizeLine)
    (h : ∀ (h' : Heap) (tk : Nat) (acc : Array Value), (∀ b o, s.heap.get? b = some o → h'.get? b = some o) → s.heap.objs.size < h'.objs.size → ItemsOf P acc n → R acc.toList { s with heap := h', toks := tk }) :
    wpAny (model prog w) A (collect (.ref r)) R E s := by
  obtain ⟨hr, hd⟩ := K.there _ hok
  unfold collect
  refine wpAny_bind (wpAny_runValue (codeAny_builtin entry_proto_collect' ?_))
  rw [Around.under_plainId PySem.F.plain_proto_collect _]
  show wpAny _ A.in1 (newList [] >>= fun l => again (.builtin "list.__iadd__" ⟨[l, .ref r], []⟩)) _ _ s
  refine wpAny_bind (wpAny_newObj_type ?_)
  refine wpAny_pure ⟨plainId_quiet PySem.F.plain_list_iadd _, codeAny_builtin entry_list_iadd' ?_⟩
  rw [Around.under_plainId PySem.F.plain_list_iadd _]
  have hS₁ : (s.heap.push { cls := .type "list", data := .seq ([] : List Value).toArray }).get? s.heap.objs.size = some { cls := .type "list", data := .seq #[] } := Heap.get?_push_size _ rfl
  show wpAny _ A.in1 (Builtin.List.listExtendWith (.ref s.heap.objs.size) (.ref r) (.ref s.heap.objs.size)) _ _ _
  have key := kdl_extend (prog := prog) (w := w) (A := A) (s := { s with heap := s.heap.push { cls := .type "list", data := .seq ([] : List Value).toArray } })
    (R := fun (q : Result) (s' : Shared) => ∃ (h' : Heap) (tk : Nat) (acc' : Array Value) (c' : Nat), q = .ok (.ret (.ref s.heap.objs.size)) ∧ s' = { s with heap := h', toks := tk } ∧
      (∀ b o, s.heap.get? b = some o → h'.get? b = some o) ∧ h'.get? s.heap.objs.size = some { cls := .type "list", dict := none, data := .seq acc' c', slots := #[] } ∧ ItemsOf P acc' n)
    K hh (K.keep _ _ hok fun b _ o e => Heap.get?_push_of_some _ e) s.heap.objs.size (Nat.ne_of_gt hr) (Nat.ne_of_gt hd) (.ref s.heap.objs.size) 0 hS₁
    (fun h' tk acc' c' hk hS' hacc => ⟨h', tk, acc', c', rfl, rfl, fun b o e => hk b o (Nat.ne_of_lt (Heap.lt_size e)) (Heap.get?_push_of_some _ e), hS', hacc⟩) hn
  refine wpAny_mono key (fun fin s' x => ?_) fun e s' x => ?_
  · cases fin with
    | done f =>
      obtain ⟨h', tk, acc', c', e, rfl, hk, hS', hacc⟩ := x
      cases e
      show wpAny _ A (load s.heap.objs.size >>= _) _ _ _
      refine wpAny_bind (wpAny_load hS' ?_)
      refine wpAny_pure ?_
      show R acc'.toList _
      exact h h' tk acc' hk (Heap.lt_size hS') hacc
    | again c₁ =>
      refine ⟨x.1, codeAny_mono x.2 fun q s₂ y => ?_⟩
      obtain ⟨h', tk, acc', c', rfl, rfl, hk, hS', hacc⟩ := y
      show wpAny _ A (load s.heap.objs.size >>= _) _ _ _
      refine wpAny_bind (wpAny_load hS' ?_)
      refine wpAny_pure ?_
      show R acc'.toList _
      exact h h' tk acc' hk (Heap.lt_size hS') hacc
  · obtain ⟨_, _, _, _, e', _⟩ := x
    cases e'
/-- sorted(r), r collected by K, its items data that can be told apart by < -/
theorem sortedK {β : Type} {Q : Value → Shared → Prop} (K : KdlSrc prog w T r d n P OK) (hh : A.handled = none) (hok : OK s.heap) (hn : n ≤ sizeLine) (R : Value → β → Prop) (enc : β → PyData) (bs : List β)
    (hP : ∀ acc : Array Value, ItemsOf P acc n → EachIs R acc.toList bs) (hR : ∀ v b, b ∈ bs → R v b → ∃ as, Reads s.heap v (enc b) as) (hal : AllAlike (bs.map enc)) (hk : Sortable (bs.map enc)) (hu : ∀ b, b ∈ bs → A.units + 2 + (enc b).depth < cLine)
    (h : ∀ (h' : Heap) (tk p : Nat) (out : List Value) (c : Nat), (∀ b o, s.heap.get? b = some o → h'.get? b = some o) → s.heap.objs.size ≤ p → h'.get? p = some (seqObj "list" out.toArray c) → EachIs R out (bs.mergeSort (dataLe false enc)) → Q (.ref p) { s with heap := h', toks := tk }) :
    wpAny (model prog w) A (call (.builtin "sorted") [.ref r]) Q E s := by
  refine call_function_entry kind_sorted plain_sorted entry_sorted (args_sorted1 _) ?_
  unfold Builtin.«sorted»
  refine wpAny_bind (m := checkCount "sorted" 1 1 _) (wpAny_pure ?_)
  refine wpAny_bind (collectK (A := A.in1) K hh hok hn fun h' tk acc hk' hlt hacc => ?_)
  have e := hP acc hacc
  have hlen : acc.toList.length ≤ sizeLine := by rw [Array.length_toList, hacc.1]; exact hn
  refine wpAny_bind (wpAny_newList ?_ hlen)
  generalize acc.toList = vs at e hlen ⊢
  have hoL : (h'.push (seqObj "list" vs.toArray 0)).get? h'.objs.size = some (seqObj "list" vs.toArray 0) := Heap.get?_push_size _ rfl
  have old : ∀ b o, s.heap.get? b = some o → (sortingHeap (h'.push (seqObj "list" vs.toArray 0)) h'.objs.size vs).get? b = some o := fun b o q => by
    have q1 := hk' b o q
    have lt := Heap.lt_size q1
    exact sortingHeap_old (Nat.ne_of_lt lt) (Heap.get?_push_of_some _ q1)
  have er' : EachIs (fun v b => ∃ as, Reads (sortingHeap (h'.push (seqObj "list" vs.toArray 0)) h'.objs.size vs) v (enc b) as) vs bs := by
    refine (each_mem e).mono fun v b x => ?_
    obtain ⟨as, q⟩ := hR v b x.2 x.1
    exact ⟨as, PyProof.Rows.Reads.keeps old q⟩
  refine wpAny_bind (wpAny_holding (wpAny_call_entry slot_list_sort ⟨_, hoL, rfl⟩ entry_list_sort
    (list_sort_vals (κ := dataKind (sortingHeap (h'.push (seqObj "list" vs.toArray 0)) h'.objs.size vs) (bs.map enc)) (s := { s with heap := h'.push (seqObj "list" vs.toArray 0), toks := tk }) hoL
      (SortsAt.data (s := { s with heap := sortingHeap (h'.push (seqObj "list" vs.toArray 0)) h'.objs.size vs, toks := tk }) (each_map (R := fun v d => ∃ as, Reads (sortingHeap (h'.push (seqObj "list" vs.toArray 0)) h'.objs.size vs) v d as) enc er') hal hk (bound_map hu)) hlen ⟨.none, rfl, ?_⟩) (args_list_sort _)))
  have out := sortVals_data false e er' hal
  obtain ⟨c, hc⟩ := sortedHeap_at (vs := vs) (out := (sortVals (dataKind (sortingHeap (h'.push (seqObj "list" vs.toArray 0)) h'.objs.size vs) (bs.map enc)) false vs vs).toArray) hoL
  refine wpAny_pure ⟨_, rfl, h _ tk h'.objs.size _ c (fun b o q => ?_) (Nat.le_of_lt hlt) hc out⟩
  have q1 := hk' b o q
  have lt := Heap.lt_size q1
  exact (sortedHeap_old (Nat.ne_of_lt lt) (by rw [Heap.size_push]; exact Nat.lt_succ_of_lt lt)).trans (Heap.get?_push_of_some _ q1)
end
end Gx

set_option maxRecDepth 100000
set_option maxHeartbeats 4000000
namespace Kl
open PySem PySem.Spec PyProof.Rows L2 Gx Mx
/-! ### keys (text, tuple of texts) -/
abbrev KW := Str × List Str
def keyK (p : KW) : NestedKey := .tup [.text p.1, .tup (p.2.map .text)]
theorem texts_injK : ∀ {a b : List Str}, a.map NestedKey.text = b.map NestedKey.text → a = b
  | [], [], _ => rfl
  | [], _ :: _, e => by simp at e
  | _ :: _, [], e => by simp at e
  | x :: xs, y :: ys, e => by
    rw [List.map_cons, List.map_cons] at e
    injection e with e1 e2
    injection e1 with e1
    rw [e1, texts_injK e2]
theorem keyK_inj {p q : KW} (e : keyK p = keyK q) : p = q := by
  obtain ⟨a, b⟩ := p
  obtain ⟨c, d⟩ := q
  unfold keyK at e
  injection e with e
  injection e with e1 e2
  injection e1 with e1
  injection e2 with e2 _
  injection e2 with e2
  rw [show a = c from e1, show b = d from texts_injK e2]
theorem depth_keyT : ∀ l : List Str, NestedKey.depthAll (l.map .text) = 0
  | [] => by simp [NestedKey.depthAll]
  | x :: xs => by rw [List.map_cons, NestedKey.depthAll, depth_keyT xs]; simp [NestedKey.depth]
theorem depthK (p : KW) : (keyK p).depth = 2 := by
  unfold keyK
  rw [NestedKey.depth, NestedKey.depthAll, NestedKey.depthAll, NestedKey.depthAll, NestedKey.depth, NestedKey.depth, depth_keyT]
  rfl
theorem keyT_all {K : PySem.W.Frag} {H : Hp} : ∀ l : List Str, KeyAll K H (l.map .text) (l.map V.str)
  | [] => .nil
  | x :: xs => .cons (.text x) (keyT_all xs)
theorem keyT_inv {K : PySem.W.Frag} {H : Hp} : ∀ {l : List Str} {vs : List V}, KeyAll K H (l.map .text) vs → vs = l.map V.str
  | [], _, h => by cases h; rfl
  | x :: xs, _, h => by
    rw [List.map_cons] at h
    cases h with
    | cons h1 h2 =>
      cases h1
      rw [keyT_inv h2]
      rfl
theorem keyK_at {K : PySem.W.Frag} {H : Hp} {a : Addr} {p : KW} : KeyA K H a (keyK p) ↔ ∃ g, SqT K H a [.str p.1, .ref g] ∧ SqT K H g (p.2.map V.str) := by
  constructor
  · rintro ⟨h, _⟩
    unfold keyK at h
    cases h with
    | tup h1 h2 =>
      cases h2 with
      | cons q1 q2 =>
        cases q1
        cases q2 with
        | cons q3 q4 =>
          cases q4
          cases q3 with
          | tup q5 q6 =>
            rw [keyT_inv q6] at q5
            exact ⟨_, h1, q5⟩
  · rintro ⟨g, h1, h2⟩
    refine ⟨?_, by rw [depthK]; omega⟩
    unfold keyK
    exact .tup h1 (.cons (.text _) (.cons (.tup h2 (keyT_all p.2)) .nil))
/-- entries with such keys -/
abbrev ML := List (KW × Addr × V)
def toN (M : ML) : NL := M.map fun x => (keyK x.1, x.2)
def prM (M : ML) : List (KW × V) := M.map fun x => (x.1, x.2.2)
theorem valV_keyK (p : KW) : ∀ M : ML, valV (M.map fun x => (keyK x.1, x.2.2)) (keyK p) = valV (M.map fun x => (x.1, x.2.2)) p
  | [] => rfl
  | x :: M => by
    have ih := valV_keyK p M
    rw [List.map_cons, List.map_cons]
    by_cases e : x.1 = p
    · rw [valV_pos (p := (keyK x.1, x.2.2)) (show keyK x.1 = keyK p by rw [e]), valV_pos (p := (x.1, x.2.2)) e]
    · rw [valV_neg (p := (keyK x.1, x.2.2)) (fun z : keyK x.1 = keyK p => e (keyK_inj z)), valV_neg (p := (x.1, x.2.2)) e]
      exact ih
theorem getN_to (M : ML) (p : KW) : getN (toN M) (keyK p) = valV (prM M) p := by
  unfold getN toN prN prM
  rw [List.map_map]
  exact valV_keyK p M
def putM (M : ML) (k : KW) (a : Addr) (v : V) : ML := if (valV (prM M) k).isSome = true then M.map (fun x => if x.1 = k then (x.1, x.2.1, v) else x) else M ++ [(k, a, v)]
theorem putN_to (M : ML) (k : KW) (a : Addr) (v : V) : putN (toN M) (keyK k) a v = toN (putM M k a v) := by
  unfold putN putM
  rw [getN_to]
  split
  · unfold toN
    rw [List.map_map, List.map_map]
    refine List.map_congr_left fun x _ => ?_
    by_cases e : x.1 = k
    · simp [e]
    · have : ¬ keyK x.1 = keyK k := fun z => e (keyK_inj z)
      simp [e, this]
  · simp [toN]
theorem prM_put (M : ML) (k : KW) (a : Addr) (v : V) : prM (putM M k a v) = putK (prM M) k v := by
  unfold putM putK
  rw [valV_any]
  split
  · unfold prM
    rw [List.map_map, List.map_map]
    refine List.map_congr_left fun x _ => ?_
    by_cases h : x.1 = k <;> simp [h]
  · simp [prM]
/-! ### their order, sorted(d) -/
def ltK (p q : KW) : Bool := if p.1 = q.1 then ltT p.2 q.2 else ltCps p.1.cps.toList q.1.cps.toList
def encK (p : KW) : PyData := .tuple [.str p.1, .tuple (tD p.2)]
theorem ltK_irrefl (p : KW) : ltK p p = false := by
  unfold ltK
  rw [if_pos rfl, ltT_irrefl]
theorem ltK_total (p q : KW) : ltK p q = true ∨ p = q ∨ ltK q p = true := by
  obtain ⟨a, b⟩ := p
  obtain ⟨c, d⟩ := q
  unfold ltK
  by_cases e : a = c
  · subst e
    rw [if_pos rfl, if_pos rfl]
    rcases ltT_total b d with h | h | h
    · exact .inl h
    · exact .inr (.inl (by rw [show b = d from h]))
    · exact .inr (.inr h)
  · rw [if_neg e, if_neg fun z => e z.symm]
    cases q : ltCps a.cps.toList c.cps.toList with
    | true => exact .inl rfl
    | false => exact .inr (.inr (cps_total e q))
theorem ltK_trans {p q r : KW} (h1 : ltK p q = true) (h2 : ltK q r = true) : ltK p r = true := by
  obtain ⟨a, b⟩ := p
  obtain ⟨c, d⟩ := q
  obtain ⟨x, y⟩ := r
  unfold ltK at h1 h2 ⊢
  dsimp only at h1 h2 ⊢
  by_cases e : a = c
  · subst e
    rw [if_pos rfl] at h1
    by_cases e2 : a = x
    · rw [if_pos e2] at h2 ⊢
      exact ltT_trans _ _ _ h1 h2
    · rw [if_neg e2] at h2 ⊢
      exact h2
  · rw [if_neg e] at h1
    by_cases e2 : c = x
    · subst e2
      rw [if_neg e]
      exact h1
    · rw [if_neg e2] at h2
      have h3 := cps_trans h1 h2
      by_cases e3 : a = x
      · subst e3
        rw [cps_irrefl] at h3
        cases h3
      · rw [if_neg e3]
        exact h3
theorem ltK_asym {p q : KW} (h : ltK p q = true) : ltK q p = false := by
  cases e : ltK q p with
  | false => rfl
  | true =>
    have := ltK_trans h e
    rw [ltK_irrefl] at this
    cases this
theorem leK_trans {p q r : KW} (h1 : ltK q p = false) (h2 : ltK r q = false) : ltK r p = false := by
  cases e : ltK r p with
  | false => rfl
  | true =>
    rcases ltK_total q p with h | h | h
    · rw [h] at h1; cases h1
    · rw [← h, h2] at e
      cases e
    · rw [ltK_trans e h] at h2
      cases h2
theorem alike_keys (p q : KW) : PySem.W.alike (encK p) (encK q) = true := by
  unfold encK
  simp only [PySem.W.alike, PySem.W.alikeAll, alike_texts, Bool.and_self]
theorem lt_keys (p q : KW) : PySem.W.dataLt (encK p) (encK q) = ltK p q := by
  unfold encK ltK
  rw [PySem.W.dataLt_pair (by rfl) (by simp only [PySem.W.alike]; exact alike_texts _ _)]
  by_cases e : p.1 = q.1
  · rw [if_pos e, if_pos (by simp [PyData.eqv, e])]
    by_cases e2 : p.2 = q.2
    · rw [if_pos (by rw [e2, PyData.eqv, eqv_texts]; simp), e2, ltT_irrefl]
    · rw [if_neg (by rw [PyData.eqv, eqv_texts]; simp [e2]), lt_texts]
  · rw [if_neg e, if_neg (by simp [PyData.eqv, e]), PySem.W.dataLt_str, ltCps_eq]
section
variable {X : Cx} {P : Program} {w : World} {K : PySem.W.Frag}
theorem key_dp {H : Hp} {a : Addr} {p : KW} (h : KeyA K H a (keyK p)) : Dp K H (.ref a) (encK p) := by
  obtain ⟨g, h1, h2⟩ := keyK_at.mp h
  exact .tup h1 (.cons (.str _) (.cons (.tup h2 (dp_texts p.2)) .nil))
def rSortN (P : Program) (w : World) (K : PySem.W.Frag) : List V → Hp → VK → Prop := fun vs H Q => ∃ (a : Addr) (L : ML), vs = [V.ref a] ∧ NDict P w K H a (toN L) ∧ L.length ≤ 100000 ∧
  ∀ (L' : ML) (p : Addr), L'.Perm L → L'.Pairwise (fun a b => ltK b.1 a.1 = false) → H p = none → Q (.ref p) (upd H p (.lst (L'.map fun x => V.ref x.2.1)))
theorem eachN : ∀ {L : ML} {us : List Value}, (∀ (i : Nat) (x : KW × Addr × V), L[i]? = some x → us[i]? = some (Value.ref x.2.1)) → us.length = L.length → PySem.W.EachIs (fun v (b : KW × Addr × V) => v = Value.ref b.2.1) us L
  | [], [], _, _ => .nil
  | [], _ :: _, _, h => by simp at h
  | _ :: _, [], _, h => by simp at h
  | x :: L, u :: us, h, hl => .cons (Option.some.inj (h 0 x rfl)) (eachN (fun i y hy => by simpa using h (i + 1) y (by simpa using hy)) (by simpa using hl))
theorem valsN : ∀ {L : ML} {us : List Value}, PySem.W.EachIs (fun v (b : KW × Addr × V) => v = Value.ref b.2.1) us L → Vals (L.map fun x => V.ref x.2.1) us
  | [], _, .nil => .nil
  | _ :: _, _, .cons h t => .cons h (valsN t)
theorem cr_sortedN (hx : XI X P w K) (hc : X.calm = true) (hu : X.A.units + 64 < cLine) : CallR X (.builtin "sorted") (rSortN P w K) := by
  obtain ⟨rfl, rfl, rfl⟩ := hx
  intro pins s σ H vs us Q I r h
  obtain ⟨a, L, rfl, ha, hL, q⟩ := h
  rw [Vals.ref1 r]
  obtain ⟨z, hd, es, ep, raw, hs, hi0⟩ := n_raw I ha.1
  have hi : ∀ (i : Nat) (x : KW × Addr × V), L[i]? = some x → ∃ en, es[i]? = some en ∧ en.key = .ref x.2.1 ∧ RelV x.2.2 en.val := fun i x e => hi0 i (keyK x.1, x.2) (by unfold toN; rw [List.getElem?_map, e]; rfl)
  have hl : (toN L).length = L.length := by unfold toN; rw [List.length_map]
  rw [hl] at z hs
  refine sortedK (KdlSrc.rawDict hd) (I.ok.hd hc) raw (by rw [hs]; exact z) (fun v b => v = Value.ref b.2.1) (fun b : KW × Addr × V => encK b.1) L (fun acc hacc => ?_) (fun v b hb e => ?_) ?_ ?_ (fun b hb => ?_) fun h' tk p out c hk hp hg ho => ?_
  · refine eachN (fun i x hx => ?_) (by rw [Array.length_toList, hacc.1, hs])
    obtain ⟨en, e1, e2, _⟩ := hi i x hx
    have hj : i < acc.size := by
      have : i < L.length := (List.getElem?_eq_some_iff.mp hx).1
      rw [hacc.1, hs]; exact this
    obtain ⟨hlt, e3⟩ := hacc.2 i _ (Array.getElem?_eq_getElem hj)
    rw [Array.getElem?_toList, Array.getElem?_eq_getElem hj, e3]
    rw [Array.getElem?_eq_getElem hlt] at e1
    rw [Option.some.inj e1, e2]
  · exact Dp.reads I (encK b.1) (.ref b.2.1) v (key_dp (ha.2 _ (List.mem_map.mpr ⟨b, hb, rfl⟩))) e
  · exact PySem.W.AllAlike.of fun b b' => alike_keys b.1 b'.1
  · exact .inl fun d hd => by
      obtain ⟨b, hb, rfl⟩ := List.mem_map.mp hd
      exact ⟨_, _, rfl⟩
  · have := depth_texts b.1.2
    unfold encK
    simp only [PyData.depth, PyData.depthAll]
    omega
  · have hperm : (L.mergeSort (PySem.W.dataLe false fun b : KW × Addr × V => encK b.1)).Perm L := List.mergeSort_perm _ _
    have ele : ∀ a b : KW × Addr × V, PySem.W.dataLe false (fun b : KW × Addr × V => encK b.1) a b = !ltK b.1 a.1 := fun a b => by
      rw [PySem.W.dataLe_eq]
      show (!PySem.W.dataLt (encK b.1) (encK a.1)) = _
      rw [lt_keys]
    have hsrt := List.pairwise_mergeSort (le := PySem.W.dataLe false fun b : KW × Addr × V => encK b.1) (fun a b c h1 h2 => by
      rw [ele, Bool.not_eq_true'] at h1 h2 ⊢
      exact leK_trans h1 h2) (fun a b => by
      rw [ele, ele]
      cases e : ltK b.1 a.1 with
      | false => rfl
      | true => rw [ltK_asym e]; rfl) L
    generalize L.mergeSort (PySem.W.dataLe false fun b : KW × Addr × V => encK b.1) = L' at ho hperm hsrt
    have hlen : (L'.map fun x => V.ref x.2.1).length ≤ sizeLine := by rw [List.length_map, hperm.length_eq]; exact z
    exact ⟨.ref p, upd H p (.lst (L'.map fun x => V.ref x.2.1)), I.laid (t' := tk) hk hp ⟨hlen, out, c, valsN ho, hg⟩, rfl, q L' p hperm (hsrt.imp fun {a b} h => by rw [ele] at h; simpa using h) (I.hok.fresh hp)⟩
end
end Kl

set_option maxRecDepth 100000
set_option maxHeartbeats 4000000
namespace Gx
open PySem PySem.W PySem.Calls PyProof.Rows PyProof.V PySem.Spec
/-! ### d == e, d != e, the keys tuples -/
section
variable {prog : Program} {w : World} {K : Type} [DecidableEq K] {knd : HeapKind prog w K} {A : Around} {E : Value → Shared → Prop} {s : Shared}
inductive HitsH (prog : Program) (w : World) (A : Around) (s : Shared) (xb : List (K × Addr × Value)) : List (K × Addr × Value) → Bool → Prop
  | nil : HitsH prog w A s xb [] true
  | miss {k : K} {q : Addr × Value} {r : List (K × Addr × Value)} : atKey xb k = none → HitsH prog w A s xb ((k, q) :: r) false
  | hit {k : K} {q p : Addr × Value} {r : List (K × Addr × Value)} {e b : Bool} : atKey xb k = some p → SeqAt.EqP prog w A s q.2 p.2 e → HitsH prog w A s xb r b → HitsH prog w A s xb ((k, q) :: r) (e && b)
theorem HitsH.inv {xb : List (K × Addr × Value)} {k : K} {q : Addr × Value} {r : List (K × Addr × Value)} {b : Bool} (h : HitsH prog w A s xb ((k, q) :: r) b) :
    (atKey xb k = none ∧ b = false) ∨ ∃ p e b', atKey xb k = some p ∧ SeqAt.EqP prog w A s q.2 p.2 e ∧ HitsH prog w A s xb r b' ∧ b = (e && b') := by
  cases h with
  | miss hn => exact .inl ⟨hn, rfl⟩
  | hit hy he hr => exact .inr ⟨_, _, _, hy, he, hr, rfl⟩
theorem samePairsH {nm : String} {a b : Addr} {xa xb : List (K × Addr × Value)} {r : Bool} {Q : Bool → Shared → Prop} (hr : knd.room A) (ha : (a == sysModules) = false) (hb : (b == sysModules) = false)
    (da : s.heap.DictOfH knd a xa) (db : s.heap.DictOfH knd b xb) (hits : xa.length = xb.length → HitsH prog w A s xb xa r) (h : Q (xa.length == xb.length && r) s) :
    wpAny (model prog w) A (Builtin.Dict.samePairs nm a b) Q E s := by
  obtain ⟨oa, es, ep, hoa, _, hda, hea, hia, hna⟩ := da
  obtain ⟨ob, es', ep', hob, _, hdb, heb, hib, hnb⟩ := db
  have hla : es.size = xa.length := size_of_entries hea
  have hlb : es'.size = xb.length := size_of_entries heb
  rw [← hla, ← hlb] at h
  unfold Builtin.Dict.samePairs Builtin.Dict.showsAll
  rw [if_neg (show ¬ (a == sysModules) = true by rw [ha]; exact Bool.false_ne_true), if_neg (show ¬ (b == sysModules) = true by rw [hb]; exact Bool.false_ne_true)]
  refine wpAny_bind (wpAny_pure (wpAny_bind (wpAny_pure ?_)))
  refine wpAny_bind (wpAny_dictEntries hoa hda ?_)
  dsimp only
  refine wpAny_bind (wpAny_dictEntries hob hdb ?_)
  by_cases hsz : es.size = es'.size
  case neg =>
    rw [if_pos (by simpa using hsz)]
    have hbf : (es.size == es'.size) = false := by simpa using hsz
    rw [hbf, Bool.false_and] at h
    exact wpAny_bind (wpAny_rule (wpAny_pure h))
  case pos =>
    have h' : Q r s := by simpa [hsz] using h
    have hits' := hits (by rw [← hla, ← hlb]; exact hsz)
    rw [if_neg (by rw [hsz]; simp)]
    refine wpAny_bind (wpAny_dictEpoch hoa hda ?_)
    refine wpAny_bind ?_
    rw [Std.Legacy.Range.forIn_eq_forIn_range']
    simp only [Std.Legacy.Range.size, Nat.sub_zero, Nat.add_sub_cancel, Nat.div_one]
    refine wpAny_forIn_list _
      (fun rest q s' => s' = s ∧ q = (none, ()) ∧ ∃ i, rest = List.range' i (es.size - i) ∧ i ≤ es.size ∧ HitsH prog w A s xb (xa.drop i) r)
      _ ?_ ?_ _ _ ⟨rfl, rfl, 0, by simp, Nat.zero_le _, hits'⟩
    · rintro x rest q s' ⟨rfl, rfl, i, hr', hi, hpre⟩
      have hlt : i < es.size := by
        rcases Nat.lt_or_ge i es.size with h | h
        · exact h
        · rw [Nat.sub_eq_zero_of_le h] at hr'; simp at hr'
      obtain ⟨rfl, hrest⟩ : x = i ∧ rest = List.range' (i + 1) (es.size - (i + 1)) := by
        have e : es.size - i = (es.size - (i + 1)) + 1 := by omega
        rw [e, List.range'_succ] at hr'
        injection hr' with h1 h2
        exact ⟨h1, h2⟩
      refine wpAny_bind (wpAny_dictEntries hoa hda ?_)
      rw [Array.getElem?_eq_getElem hlt]
      have hlt' : x < xa.length := by rw [← hla]; exact hlt
      obtain ⟨k, q, hkv⟩ : ∃ k q, xa[x] = (k, q) := ⟨_, _, rfl⟩
      have hdrop : xa.drop x = (k, q) :: xa.drop (x + 1) := by rw [← hkv]; exact List.drop_eq_getElem_cons hlt'
      have hent : es[x] = entryOfKey knd (k, q) := by
        have e := entry_at hea x
        rw [Array.getElem?_eq_getElem hlt, List.getElem?_eq_getElem hlt', hkv] at e
        exact Option.some.inj e
      have hkey : knd.is s'.heap k q.1 := by
        have := hia xa[x] (List.getElem_mem hlt')
        rw [hkv] at this
        exact this
      rw [hdrop] at hpre
      rw [hent]
      show wpAny _ _ (holding [Value.ref q.1, q.2] _ >>= _) _ _ _
      show wpAny _ _ (holding [Value.ref q.1, q.2] (dictFind b (Value.ref q.1) (knd.hash k) >>= _) >>= _) _ _ _
      refine wpAny_bind (wpAny_holding (wpAny_bind (wpAny_dictFind_heap hr hkey hob hdb heb hib hnb (fun hno => ?_) fun j p hj => ?_)))
      · have hn : atKey xb k = none := atKey_none_of_get hno
        rcases hpre.inv with ⟨_, er⟩ | ⟨p, _, _, hy, _⟩
        · rw [er] at h'
          refine wpAny_pure ?_
          show wpAny _ _ (if (!false) = true then _ else _) _ _ _
          rw [if_pos (by decide)]
          exact wpAny_pure (wpAny_pure h')
        · rw [hn] at hy; exact nomatch hy
      · have hv' : atKey xb k = some p := atKey_of_get hnb hj
        have hent' : es'[j]? = some (entryOfKey knd (k, p)) := by rw [entry_at heb j, hj]; rfl
        refine wpAny_bind (wpAny_dictEntries hob hdb ?_)
        rw [hent']
        rcases hpre.inv with ⟨hn, _⟩ | ⟨p', e, b', hy, he, hrr, er⟩
        · rw [hv'] at hn; exact nomatch hn
        · have ey : p = p' := Option.some.inj (hv'.symm.trans hy)
          rw [← ey] at he
          refine wpAny_holding (he _ _ ?_)
          cases e with
          | false =>
            rw [er, Bool.false_and] at h'
            show wpAny _ _ (if (!false) = true then _ else _) _ _ _
            rw [if_pos (by decide)]
            exact wpAny_pure (wpAny_pure h')
          | true =>
            rw [Bool.true_and] at er
            rw [← er] at hrr
            show wpAny _ _ (if (!true) = true then _ else _) _ _ _
            rw [if_neg (by decide)]
            refine wpAny_bind (wpAny_dictEpoch hoa hda ?_)
            rw [if_neg (by simp)]
            exact wpAny_pure ⟨rfl, rfl, x + 1, hrest, hlt, hrr⟩
    · rintro q s' ⟨rfl, rfl, i, hr', hi, hpre⟩
      have hin : i = es.size := by
        rcases Nat.lt_or_ge i es.size with h | h
        · have e : es.size - i = (es.size - (i + 1)) + 1 := by omega
          rw [e, List.range'_succ] at hr'; exact nomatch hr'
        · exact Nat.le_antisymm hi h
      refine wpAny_pure ?_
      rw [hin, hla, List.drop_length] at hpre
      cases hpre
      exact h'
theorem rcH_dicts {a b : Addr} {xa xb : List (K × Addr × Value)} {r : Bool} (hr : knd.room A.in1) (ha : (a == sysModules) = false) (hb : (b == sysModules) = false)
    (da : s.heap.DictOfH knd a xa) (db : s.heap.DictOfH knd b xb) (hu : A.units < cLine) (hits : xa.length = xb.length → HitsH prog w A.in1 s xb xa r) (E Q : Value → Shared → Prop) (h : Q (.bool (xa.length == xb.length && r)) s) : wpAny (model prog w) A (richCompare .Eq (.ref a) (.ref b)) Q E s := by
  refine wpAny_richCompare_same_room (op := .Eq) da.typeIs db.typeIs PySem.F.slot_dict_eq (wpAny_call_entry PySem.F.slot_dict_eq da.typeIs PySem.F.entry_dict_eq ?_ (PySem.F.args_dict_eq_2 _ _)) hu
  show wpAny _ _ (Builtin.Dict.dictSlotArgs "__eq__" ⟨[.ref a, .ref b], []⟩ >>= _) _ _ s
  refine wpAny_bind ?_
  unfold Builtin.Dict.dictSlotArgs
  refine wpAny_bind (wpAny_notOrdered_dict da.typeIs ?_)
  show wpAny _ _ (pure (Value.ref a, Value.ref b)) _ _ s
  refine wpAny_pure ?_
  refine wpAny_bind (wpAny_isInstance (T := "dict") db.typeIs PySem.F.sub_dict_dict ?_)
  simp only [Bool.not_true, Bool.false_eq_true, if_false]
  refine wpAny_bind (wpAny_pure (wpAny_bind (wpAny_pure ?_)))
  refine wpAny_bind (samePairsH hr ha hb da db hits ?_)
  refine wpAny_pure ⟨_, rfl, ?_, ?_⟩
  · exact fun x => nomatch x
  · simpa using h
theorem neH_dicts {a b : Addr} {xa xb : List (K × Addr × Value)} {r : Bool} (hr : knd.room A.in1) (ha : (a == sysModules) = false) (hb : (b == sysModules) = false)
    (da : s.heap.DictOfH knd a xa) (db : s.heap.DictOfH knd b xb) (hu : A.units < cLine) (hits : xa.length = xb.length → HitsH prog w A.in1 s xb xa r) (E Q : Value → Shared → Prop) (h : Q (.bool (!(xa.length == xb.length && r))) s) : wpAny (model prog w) A (compareOp .NotEq (.ref a) (.ref b)) Q E s := by
  refine wpAny_richCompare_same_room (op := .NotEq) da.typeIs db.typeIs PySem.F.slot_dict_ne (wpAny_call_entry PySem.F.slot_dict_ne da.typeIs PySem.F.entry_dict_ne ?_ (PySem.F.args_dict_ne_2 _ _)) hu
  show wpAny _ _ (Builtin.Dict.dictSlotArgs "__ne__" ⟨[.ref a, .ref b], []⟩ >>= _) _ _ s
  refine wpAny_bind ?_
  unfold Builtin.Dict.dictSlotArgs
  refine wpAny_bind (wpAny_notOrdered_dict da.typeIs ?_)
  show wpAny _ _ (pure (Value.ref a, Value.ref b)) _ _ s
  refine wpAny_pure ?_
  refine wpAny_bind (wpAny_isInstance (T := "dict") db.typeIs PySem.F.sub_dict_dict ?_)
  simp only [Bool.not_true, Bool.false_eq_true, if_false]
  refine wpAny_bind (wpAny_pure (wpAny_bind (wpAny_pure ?_)))
  refine wpAny_bind (samePairsH hr ha hb da db hits ?_)
  refine wpAny_pure ⟨_, rfl, ?_, ?_⟩
  · exact fun x => nomatch x
  · simpa using h
end
end Gx
namespace Gx
open PySem PySem.Spec PyProof.Rows L2
/-- the same keys with the same values -/
def eqN (L M : NL) : Bool := decide (L.length = M.length) && (prN L).all fun p => decide (valV (prN M) p.1 = some p.2)
def Texts (L : NL) : Prop := ∀ x ∈ L, ∃ z, x.2.2 = V.str z
section
variable {P : Program} {w : World} {A : Around} {s : Shared}
theorem hitsN {M : NL} {xb : List (NestedKey × Addr × Value)} (rb : NR M xb) (hM : Texts M) : ∀ {L : NL} {xa : List (NestedKey × Addr × Value)}, NR L xa → Texts L →
    HitsH P w A s xb xa ((prN L).all fun p => decide (valV (prN M) p.1 = some p.2))
  | [], _, .nil, _ => .nil
  | x :: L, q :: xa, .cons h t, hL => by
    obtain ⟨h1, h2, h3⟩ := h
    have ih := hitsN rb hM t fun y hy => hL y (List.mem_cons_of_mem _ hy)
    obtain ⟨z, hz⟩ := hL x List.mem_cons_self
    rw [hz] at h3
    obtain ⟨t1, h3⟩ := h3
    have v := rb.val x.1
    obtain ⟨k, q1, q2⟩ := q
    obtain rfl : k = x.1 := h1
    obtain rfl : q2 = Value.str z t1 := h3
    show HitsH P w A s xb _ (decide (valV (prN M) x.1 = some x.2.2) && (prN L).all fun p => decide (valV (prN M) p.1 = some p.2))
    rw [hz]
    cases g : atKey xb x.1 with
    | none =>
      rw [g] at v
      have e : valV (prN M) x.1 = none := by
        cases c : valV (prN M) x.1 with
        | none => rfl
        | some _ =>
          unfold getN at v
          rw [c] at v
          exact (show False from v).elim
      rw [e, decide_eq_false (by simp), Bool.false_and]
      exact .miss g
    | some p =>
      rw [g] at v
      obtain ⟨y, hy⟩ : ∃ y, valV (prN M) x.1 = some y := by
        cases c : valV (prN M) x.1 with
        | none =>
          unfold getN at v
          rw [c] at v
          exact (show False from v).elim
        | some y => exact ⟨y, rfl⟩
      have ym : ∃ e ∈ M, e.2.2 = y := by
        unfold valV at hy
        obtain ⟨kv, hkv, e⟩ := Option.map_eq_some_iff.mp hy
        have := List.mem_of_find?_eq_some hkv
        unfold prN at this
        obtain ⟨e0, he0, e1⟩ := List.mem_map.mp this
        exact ⟨e0, he0, by rw [← e, ← e1]⟩
      obtain ⟨e0, he0, ee⟩ := ym
      obtain ⟨z2, hz2⟩ := hM e0 he0
      have ey : y = V.str z2 := by rw [← ee, hz2]
      rw [hy, ey]
      have rv : RelV (V.str z2) p.2 := by
        unfold getN at v
        rw [hy, ey] at v
        exact v
      obtain ⟨t2, ht2⟩ := rv
      refine .hit g ?_ ih
      show SeqAt.EqP P w A s (Value.str z t1) p.2 _
      rw [ht2]
      intro E Q hq
      refine wpAny_eqBool_str ?_
      have e : decide (some (V.str z2) = some (V.str z)) = decide (z = z2) := by
        by_cases c : z = z2
        · subst c; simp
        · rw [decide_eq_false c, decide_eq_false]
          intro q
          injection q with q
          injection q with q
          exact c q.symm
      rw [e] at hq
      first
        | exact hq
        | simpa using hq
end
section
variable {X : Cx} {P : Program} {w : World} {K : PySem.W.Frag}
/-- d == e, d != e, the values texts -/
def rEqN (P : Program) (w : World) (K : PySem.W.Frag) (g : Bool → Bool) : R2 := fun x y H Q => ∃ a b L M, x = .ref a ∧ y = .ref b ∧ NDict P w K H a L ∧ NDict P w K H b M ∧ Texts L ∧ Texts M ∧ Q (.bl (g (eqN L M))) H
theorem op_eqN (hx : XI X P w K) (hu : X.A.units + 64 < cLine) : OpR X (compareOp .Eq) (rEqN P w K id) := by
  obtain ⟨rfl, rfl, rfl⟩ := hx
  intro pins s σ H x y v u Q I rx ry h
  obtain ⟨a, b, L, M, rfl, rfl, ha, hb, tL, tM, q⟩ := h
  obtain rfl : v = Value.ref a := rx
  obtain rfl : u = Value.ref b := ry
  obtain ⟨_, ya, va, ra, da⟩ := dn_rd I ha
  obtain ⟨_, yb, vb, rb, db⟩ := dn_rd I hb
  refine rcH_dicts (roomN (X := X) hu) ya yb da db (by omega) (fun _ => hitsN rb tM ra tL) _ _ ⟨.bl (eqN L M), H, I, ?_, q⟩
  show _ = Value.bool (eqN L M)
  unfold eqN
  rw [ra.length, rb.length]
  rfl
theorem op_neN (hx : XI X P w K) (hu : X.A.units + 64 < cLine) : OpR X (compareOp .NotEq) (rEqN P w K not) := by
  obtain ⟨rfl, rfl, rfl⟩ := hx
  intro pins s σ H x y v u Q I rx ry h
  obtain ⟨a, b, L, M, rfl, rfl, ha, hb, tL, tM, q⟩ := h
  obtain rfl : v = Value.ref a := rx
  obtain rfl : u = Value.ref b := ry
  obtain ⟨_, ya, va, ra, da⟩ := dn_rd I ha
  obtain ⟨_, yb, vb, rb, db⟩ := dn_rd I hb
  refine neH_dicts (roomN (X := X) hu) ya yb da db (by omega) (fun _ => hitsN rb tM ra tL) _ _ ⟨.bl (!eqN L M), H, I, ?_, q⟩
  show _ = Value.bool (!eqN L M)
  unfold eqN
  rw [ra.length, rb.length]
  rfl
end
end Gx

set_option maxRecDepth 100000
set_option maxHeartbeats 4000000
namespace Gx
open PySem PySem.Spec PyProof.Rows L2
/-! ### dict(list of pairs) -/
def foldN (acc M : NL) : NL := M.foldl (fun a e => putN a e.1 e.2.1 e.2.2) acc
theorem NR.merge : ∀ {M : NL} {ps : List (NestedKey × Addr × Value)} {acc : NL} {xs : List (NestedKey × Addr × Value)}, NR M ps → NR acc xs → NR (foldN acc M) (storedAllH xs ps)
  | [], _, _, _, .nil, r => r
  | x :: M, q :: ps, acc, xs, .cons h t, r => by
    obtain ⟨h1, h2, h3⟩ := h
    have e : NR (putN acc x.1 x.2.1 x.2.2) (storedH xs q.1 q.2.1 q.2.2) := by
      rw [h1, h2]
      exact r.put x.1 h3
    have z := NR.merge t e
    exact z
theorem foldN_len : ∀ (M acc : NL), (foldN acc M).length ≤ acc.length + M.length
  | [], acc => by show acc.length ≤ acc.length + 0; omega
  | x :: M, acc => by
    have h1 := foldN_len M (putN acc x.1 x.2.1 x.2.2)
    have h2 := putN_len acc x.1 x.2.1 x.2.2
    show (foldN (putN acc x.1 x.2.1 x.2.2) M).length ≤ _
    rw [List.length_cons]
    omega
theorem foldN_mem {G : NestedKey → Addr → Prop} : ∀ {M acc : NL}, (∀ x ∈ acc, G x.1 x.2.1) → (∀ x ∈ M, G x.1 x.2.1) → ∀ x ∈ foldN acc M, G x.1 x.2.1
  | [], _, h, _ => h
  | y :: M, acc, h, hM => foldN_mem (acc := putN acc y.1 y.2.1 y.2.2) (fun x hx => by
      rcases putN_mem hx with ⟨z, hz, e1, e2⟩ | ⟨e1, e2⟩
      · rw [e1, e2]
        exact h z hz
      · rw [e1, e2]
        exact hM y List.mem_cons_self) fun x hx => hM x (List.mem_cons_of_mem _ hx)
theorem putN_new {L : NL} {k : NestedKey} {a : Addr} {v : V} (h : k ∉ L.map (·.1)) : putN L k a v = L ++ [(k, a, v)] := by
  unfold putN
  rw [if_neg]
  intro q
  unfold getN at q
  rw [← valV_any] at q
  obtain ⟨x, hx, e⟩ := List.any_eq_true.mp q
  unfold prN at hx
  obtain ⟨y, hy, rfl⟩ := List.mem_map.mp hx
  exact h (List.mem_map.mpr ⟨y, hy, by simpa using e⟩)
theorem foldN_nodup : ∀ (M acc : NL), ((acc ++ M).map (·.1)).Nodup → foldN acc M = acc ++ M
  | [], acc, _ => by rw [List.append_nil]; rfl
  | x :: M, acc, h => by
    have e : acc ++ x :: M = (acc ++ [x]) ++ M := by rw [List.append_assoc]; rfl
    have hn : x.1 ∉ acc.map (·.1) := by
      rw [List.map_append, List.map_cons] at h
      have := (List.nodup_append.mp h).2.2
      exact fun z => this _ z _ List.mem_cons_self rfl
    show foldN (putN acc x.1 x.2.1 x.2.2) M = _
    rw [putN_new hn, e, ← foldN_nodup M (acc ++ [x]) (by rw [← e]; exact h)]
section
variable {X : Cx} {P : Program} {w : World} {K : PySem.W.Frag}
theorem pairsN {pins : List (Addr × Obj)} {σ : L2.St} {H : Hp} {s : Shared} (I : Inv X pins σ H s) : ∀ {ps : List Addr} {M : NL}, Paired (fun p e => SqT X.K H p [V.ref e.2.1, e.2.2]) ps M →
    ∃ prs : List (NestedKey × Addr × Value), NR M prs ∧ prs.length = ps.length ∧ ∀ (j : Nat) (q : NestedKey × Addr × Value), prs[j]? = some q → ∃ b : Addr, ps[j]? = some b ∧ IsTup s.heap b #[Value.ref q.2.1, q.2.2]
  | _, _, .nil => ⟨[], .nil, rfl, fun j q e => by simp at e⟩
  | _, _, .cons (a := p) (b := x) h t => by
    obtain ⟨prs, r, hl, hp⟩ := pairsN I t
    obtain ⟨its, rv, ht, _⟩ := I.tuple h
    obtain ⟨u, y, ei, ru, ry⟩ := vals2 rv
    subst ei
    obtain rfl : u = Value.ref x.2.1 := ru
    refine ⟨(x.1, x.2.1, y) :: prs, .cons ⟨rfl, rfl, ry⟩ r, by rw [List.length_cons, List.length_cons, hl], fun j q e => ?_⟩
    cases j with
    | zero =>
      have e' : (x.1, x.2.1, y) = q := Option.some.inj e
      subst e'
      exact ⟨p, rfl, ht⟩
    | succ j =>
      obtain ⟨b, e1, e2⟩ := hp j q (by simpa using e)
      exact ⟨b, by simpa using e1, e2⟩
def rDictN (P : Program) (w : World) (K : PySem.W.Frag) : List V → Hp → VK → Prop := fun vs H Q => ∃ (a : Addr) (ps : List Addr) (M : NL), vs = [V.ref a] ∧ SqL K H a (ps.map V.ref) ∧ Paired (fun p e => SqT K H p [V.ref e.2.1, e.2.2]) ps M ∧
  (∀ e ∈ M, KeyA K H e.2.1 e.1) ∧ ∀ p, H p = none → Q (.ref p) (upd H p (DN P w p (foldN [] M)))
theorem call_dictN (hx : XI X P w K) (hc : X.calm = true) (hu : X.A.units + 64 < cLine) : CallR X (.type "dict") (rDictN P w K) := by
  obtain ⟨rfl, rfl, rfl⟩ := hx
  intro pins s σ H vs us Q I r h
  obtain ⟨a, ps, M, rfl, ha, hp, hk, q⟩ := h
  rw [Vals.ref1 r]
  obtain ⟨its, rv, ⟨o, n, ho, hcl, hdi, hdat⟩, hz⟩ := I.list ha
  have ei := refs_at rv
  subst ei
  rw [List.length_map] at hz
  obtain ⟨prs, rel, hl, hpr⟩ := pairsN I hp
  have hM : M.length = prs.length := rel.length
  let pv : List (Value × Value) := prs.map fun x => (Value.ref x.2.1, x.2.2)
  have hpv : pv.length = prs.length := by simp [pv]
  have pat : ∀ (j : Nat) (k v : Value), pv[j]? = some (k, v) → ∃ x : NestedKey × Addr × Value, prs[j]? = some x ∧ k = Value.ref x.2.1 ∧ v = x.2.2 := fun j k v e => by
    simp only [pv, List.getElem?_map] at e
    cases hx : prs[j]? with
    | none => rw [hx] at e; cases e
    | some x =>
      rw [hx] at e
      cases e
      exact ⟨x, rfl, rfl, rfl⟩
  refine call_dict_pairsH (knd := nestedKind X.prog X.w) (ps := prs) (PairArg.list a (ps.map Value.ref).toArray (fun j => ps.getD j 0) pv) (I.ok.hd hc) (show X.A.units + 1 + 1 + 8 < cLine by omega)
    ⟨⟨o, n, ho, hcl, hdi, hdat⟩, by rw [hpv, List.size_toArray, List.length_map, hl], fun j k v e => ?_⟩ ⟨hpv.symm, fun j k v e => ?_⟩ ?_ (by rw [hpv, hl]; exact hz) fun h' tk hd' hk' => ?_
  · obtain ⟨x, hx, rfl, rfl⟩ := pat j k v e
    obtain ⟨b, hb, ht⟩ := hpr j x hx
    refine ⟨?_, .inl ?_⟩
    · simp [hb]
    · have eb : ps.getD j 0 = b := by simp [hb]
      show s.heap.IsTuple (ps.getD j 0) _
      rw [eb]
      exact ht
  · obtain ⟨x, hx, rfl, rfl⟩ := pat j k v e
    exact ⟨x.1, x.2.1, hx, rfl⟩
  · intro h' hk' x hx
    have hd0 : ∀ b o, s.heap.get? b = some o → b ≠ s.heap.objs.size := fun b o e => Nat.ne_of_lt (Heap.lt_size e)
    obtain ⟨i, hi⟩ := List.mem_iff_getElem?.mp hx
    have all : ∀ {l : NL} {m : List (NestedKey × Addr × Value)}, NR l m → (∀ x ∈ l, KeyA X.K H x.2.1 x.1) → ∀ x ∈ m, (nestedKind X.prog X.w).is s.heap x.1 x.2.1 := by
      intro l m q
      induction q with
      | nil => intro _ x hx; exact nomatch hx
      | @cons p q ps qs hq t ih =>
        intro hl x hx
        rcases List.mem_cons.mp hx with e | hx
        · subst e
          rw [hq.1, hq.2.1]
          exact nkey_of I (hl p List.mem_cons_self)
        · exact ih (fun y hy => hl y (List.mem_cons_of_mem _ hy)) x hx
    exact nestedKind_stays.stays (fun b ob _ _ e _ => hk' b ob (hd0 b ob e) (fun z => nomatch z) e) (all rel hk x hx)
  · have hm : (s.heap.objs.size == sysModules) = false := beq_eq_false_iff_ne.mpr (Nat.ne_of_gt I.big)
    have hlen : (foldN [] M).length ≤ sizeLine := by
      refine Nat.le_trans (foldN_len M []) ?_
      rw [List.length_nil, Nat.zero_add, hM, hl]
      exact hz
    obtain ⟨o', es, ep, h1, h2, h3, h4, _, h5⟩ := hd'
    exact ⟨.ref s.heap.objs.size, upd H s.heap.objs.size (DN X.prog X.w s.heap.objs.size (foldN [] M)), I.laid (t' := tk) (fun b ob e => hk' b ob (fun z => nomatch z) e) (Nat.le_refl _)
      (dn_ok ⟨hlen, hm, _, NR.merge rel .nil, o', es, ep, h1, h2, h3, h4, h5⟩), rfl, q _ (I.hok.fresh (Nat.le_refl _))⟩
end
end Gx

set_option maxRecDepth 100000
set_option maxHeartbeats 4000000
namespace Kl
open PySem PySem.Spec PyProof.Rows L2 Gx
def topS (i : Nat) : Stmt := PySem.Challenge.pw_linkbooks_k17_readers_told.main.body.getD i (.Pass ⟨0, 0, 0, 0⟩)
abbrev s_wall : Stmt := topS 0
theorem sc_wall : FnScope ["k"] ["k"] (defScope s_wall) := ⟨rfl, rfl, rfl, by decide +kernel, rfl, by decide +kernel, by decide +kernel⟩
abbrev s_is_integer : Stmt := topS 10
theorem sc_is_integer : FnScope ["value"] ["value"] (defScope s_is_integer) := ⟨rfl, rfl, rfl, by decide +kernel, rfl, by decide +kernel, by decide +kernel⟩
abbrev s_is_count : Stmt := topS 11
theorem sc_is_count : FnScope ["value"] ["value"] (defScope s_is_count) := ⟨rfl, rfl, rfl, by decide +kernel, rfl, by decide +kernel, by decide +kernel⟩
abbrev s_is_name : Stmt := topS 12
theorem sc_is_name : FnScope ["value"] ["value"] (defScope s_is_name) := ⟨rfl, rfl, rfl, by decide +kernel, rfl, by decide +kernel, by decide +kernel⟩
abbrev s_is_sorted : Stmt := topS 13
theorem sc_is_sorted : FnScope ["value", "most", "name"] ["value", "most"] (defScope s_is_sorted) := ⟨rfl, rfl, rfl, by decide +kernel, rfl, by decide +kernel, by decide +kernel⟩
abbrev s_text_of : Stmt := topS 15
theorem sc_text_of : FnScope ["names"] ["names"] (defScope s_text_of) := ⟨rfl, rfl, rfl, by decide +kernel, rfl, by decide +kernel, by decide +kernel⟩
abbrev s_are_digits : Stmt := topS 20
theorem sc_are_digits : FnScope ["value", "digit"] ["value"] (defScope s_are_digits) := ⟨rfl, rfl, rfl, by decide +kernel, rfl, by decide +kernel, by decide +kernel⟩
abbrev s_are_loose_digits : Stmt := topS 21
theorem sc_are_loose_digits : FnScope ["value"] ["value"] (defScope s_are_loose_digits) := ⟨rfl, rfl, rfl, by decide +kernel, rfl, by decide +kernel, by decide +kernel⟩
abbrev s_is_digit : Stmt := topS 22
theorem sc_is_digit : FnScope ["value"] ["value"] (defScope s_is_digit) := ⟨rfl, rfl, rfl, by decide +kernel, rfl, by decide +kernel, by decide +kernel⟩
abbrev s_is_ascending : Stmt := topS 26
theorem sc_is_ascending : FnScope ["value"] ["value"] (defScope s_is_ascending) := ⟨rfl, rfl, rfl, by decide +kernel, rfl, by decide +kernel, by decide +kernel⟩
abbrev s_is_place : Stmt := topS 27
theorem sc_is_place : FnScope ["value"] ["value"] (defScope s_is_place) := ⟨rfl, rfl, rfl, by decide +kernel, rfl, by decide +kernel, by decide +kernel⟩
abbrev s_are_reads : Stmt := topS 28
theorem sc_are_reads : FnScope ["value", "place"] ["value"] (defScope s_are_reads) := ⟨rfl, rfl, rfl, by decide +kernel, rfl, by decide +kernel, by decide +kernel⟩
abbrev s_all_states : Stmt := topS 29
theorem sc_all_states : FnScope ["first", "ends", "reads", "befores", "afters", "state", "_", "place"] ["first", "ends", "reads"] (defScope s_all_states) := ⟨rfl, rfl, rfl, by decide +kernel, rfl, by decide +kernel, by decide +kernel⟩
abbrev s_is_reader : Stmt := topS 30
theorem sc_is_reader : FnScope ["first", "ends", "reads", "_", "digit", "after"] ["first", "ends", "reads"] (defScope s_is_reader) := ⟨rfl, rfl, rfl, by decide +kernel, rfl, by decide +kernel, by decide +kernel⟩
abbrev s_reached : Stmt := topS 31
theorem sc_reached : FnScope ["starts", "pairs", "found", "at", "before", "after"] ["starts", "pairs"] (defScope s_reached) := ⟨rfl, rfl, rfl, by decide +kernel, rfl, by decide +kernel, by decide +kernel⟩
abbrev s_spare : Stmt := topS 32
theorem sc_spare : FnScope ["first", "ends", "reads", "pairs", "begun", "live", "place", "after", "before"] ["first", "ends", "reads"] (defScope s_spare) := ⟨rfl, rfl, rfl, by decide +kernel, rfl, by decide +kernel, by decide +kernel⟩
abbrev s_representatives : Stmt := topS 33
theorem sc_representatives : FnScope ["marks", "state", "same"] ["marks"] (defScope s_representatives) := ⟨rfl, rfl, rfl, by decide +kernel, rfl, by decide +kernel, by decide +kernel⟩
abbrev s_lines_from : Stmt := topS 34
theorem sc_lines_from : FnScope ["state", "reads", "names", "after", "before", "digit"] ["state", "reads", "names"] (defScope s_lines_from) := ⟨rfl, rfl, rfl, by decide +kernel, rfl, by decide +kernel, by decide +kernel⟩
abbrev s_merged_states : Stmt := topS 35
theorem sc_merged_states : FnScope ["first", "ends", "reads", "states", "names", "finer", "state"] ["first", "ends", "reads"] (defScope s_merged_states) := ⟨rfl, rfl, rfl, by decide +kernel, rfl, by decide +kernel, by decide +kernel⟩
abbrev s_law_dice : Stmt := topS 38
theorem sc_law_dice : FnScope ["_law_script", "_law_spot", "_law_cell", "_law_left"] ["_law_script", "_law_spot"] (defScope s_law_dice) := ⟨rfl, rfl, rfl, by decide +kernel, rfl, by decide +kernel, by decide +kernel⟩
abbrev s_law_roll : Stmt := topS 39
theorem sc_law_roll : FnScope ["_law_dice_here", "_law_total", "_law_found", "_law_one", "_law_two"] ["_law_dice_here", "_law_total"] (defScope s_law_roll) := ⟨rfl, rfl, rfl, by decide +kernel, rfl, by decide +kernel, by decide +kernel⟩
abbrev s_law_pick : Stmt := topS 40
theorem sc_law_pick : FnScope ["_law_dice_here", "_law_items"] ["_law_dice_here", "_law_items"] (defScope s_law_pick) := ⟨rfl, rfl, rfl, by decide +kernel, rfl, by decide +kernel, by decide +kernel⟩
abbrev s_law_mixed : Stmt := topS 41
theorem sc_law_mixed : FnScope ["_law_dice_here", "_law_items", "_law_left", "_law_found", "_law_turn"] ["_law_dice_here", "_law_items"] (defScope s_law_mixed) := ⟨rfl, rfl, rfl, by decide +kernel, rfl, by decide +kernel, by decide +kernel⟩
abbrev s_law_digit_text : Stmt := topS 42
theorem sc_law_digit_text : FnScope ["_law_digit"] ["_law_digit"] (defScope s_law_digit_text) := ⟨rfl, rfl, rfl, by decide +kernel, rfl, by decide +kernel, by decide +kernel⟩
abbrev s_law_made_reader : Stmt := topS 43
theorem sc_law_made_reader : FnScope ["_law_plain"] ["_law_plain"] (defScope s_law_made_reader) := ⟨rfl, rfl, rfl, by decide +kernel, rfl, by decide +kernel, by decide +kernel⟩
abbrev s_law_state_names : Stmt := topS 44
theorem sc_law_state_names : FnScope ["_law_dice_here", "_law_many"] ["_law_dice_here", "_law_many"] (defScope s_law_state_names) := ⟨rfl, rfl, rfl, by decide +kernel, rfl, by decide +kernel, by decide +kernel⟩
abbrev s_law_all_digits : Stmt := topS 45
theorem sc_law_all_digits : FnScope ["_law_names", "_law_found", "_law_at", "_law_one", "_law_second", "_law_more"] ["_law_names"] (defScope s_law_all_digits) := ⟨rfl, rfl, rfl, by decide +kernel, rfl, by decide +kernel, by decide +kernel⟩
abbrev s_law_some_digits : Stmt := topS 46
theorem sc_law_some_digits : FnScope ["_law_dice_here", "_law_most", "_law_names", "_law_others"] ["_law_dice_here", "_law_most"] (defScope s_law_some_digits) := ⟨rfl, rfl, rfl, by decide +kernel, rfl, by decide +kernel, by decide +kernel⟩
abbrev s_law_plain_reader : Stmt := topS 47
theorem sc_law_plain_reader : FnScope ["_law_dice_here", "_law_states", "_law_digits", "_law_names", "_law_some", "_law_reads", "_law_ends", "_law_calm", "_law_state", "_law_digit", "_law_pool"] ["_law_dice_here", "_law_states", "_law_digits"] (defScope s_law_plain_reader) := ⟨rfl, rfl, rfl, by decide +kernel, rfl, by decide +kernel, by decide +kernel⟩
abbrev s_law_reader_states : Stmt := topS 48
theorem sc_law_reader_states : FnScope ["_law_plain", "_law_found", "_law_state", "_law_digit"] ["_law_plain"] (defScope s_law_reader_states) := ⟨rfl, rfl, rfl, by decide +kernel, rfl, by decide +kernel, by decide +kernel⟩
abbrev s_law_reader_digits : Stmt := topS 49
theorem sc_law_reader_digits : FnScope ["_law_plain", "_law_state", "_law_digit"] ["_law_plain"] (defScope s_law_reader_digits) := ⟨rfl, rfl, rfl, by decide +kernel, rfl, by decide +kernel, by decide +kernel⟩
abbrev s_law_reader_lines : Stmt := topS 50
theorem sc_law_reader_lines : FnScope ["_law_plain", "_law_found", "_law_state", "_law_digit"] ["_law_plain"] (defScope s_law_reader_lines) := ⟨rfl, rfl, rfl, by decide +kernel, rfl, by decide +kernel, by decide +kernel⟩
abbrev s_law_told_right : Stmt := topS 51
theorem sc_law_told_right : FnScope ["_law_dice_here", "_law_plain", "_law_reads", "_law_reader", "_law_told", "_law_states", "_law_digits", "_law_lines", "_law_line", "_law_due", "_law_read"] ["_law_dice_here", "_law_plain"] (defScope s_law_told_right) := ⟨rfl, rfl, rfl, by decide +kernel, rfl, by decide +kernel, by decide +kernel⟩
abbrev s_law_near : Stmt := topS 52
theorem sc_law_near : FnScope ["_law_dice_here", "_law_plain", "_law_reads", "_law_found", "_law_way", "_law_states", "_law_some", "_law_read", "_law_state"] ["_law_dice_here", "_law_plain"] (defScope s_law_near) := ⟨rfl, rfl, rfl, by decide +kernel, rfl, by decide +kernel, by decide +kernel⟩
abbrev s_law_equal_right : Stmt := topS 53
theorem sc_law_equal_right : FnScope ["_law_dice_here", "_law_plain", "_law_one", "_law_near_here", "_law_other", "_law_is_same", "_law_odd"] ["_law_dice_here", "_law_plain"] (defScope s_law_equal_right) := ⟨rfl, rfl, rfl, by decide +kernel, rfl, by decide +kernel, by decide +kernel⟩
abbrev s_law : Stmt := topS 54
theorem sc_law : FnScope ["_law_script", "_law_spot", "_law_dice_here", "_law_turn", "_law_plain", "_law_bare", "_law_told"] ["_law_script"] (defScope s_law) := ⟨rfl, rfl, rfl, by decide +kernel, rfl, by decide +kernel, by decide +kernel⟩
abbrev s_Reader_init : Stmt := inClass (topS 36) 0
theorem sc_Reader_init : FnScope ["self", "first", "ends", "reads", "place"] ["self", "first", "ends", "reads"] (defScope s_Reader_init) := ⟨rfl, rfl, rfl, by decide +kernel, rfl, by decide +kernel, by decide +kernel⟩
abbrev s_Reader_first : Stmt := inClass (topS 36) 2
theorem sc_Reader_first : FnScope ["self"] ["self"] (defScope s_Reader_first) := ⟨rfl, rfl, rfl, by decide +kernel, rfl, by decide +kernel, by decide +kernel⟩
abbrev s_Reader_ends : Stmt := inClass (topS 36) 3
theorem sc_Reader_ends : FnScope ["self"] ["self"] (defScope s_Reader_ends) := ⟨rfl, rfl, rfl, by decide +kernel, rfl, by decide +kernel, by decide +kernel⟩
abbrev s_Reader_reads : Stmt := inClass (topS 36) 4
theorem sc_Reader_reads : FnScope ["self", "place"] ["self"] (defScope s_Reader_reads) := ⟨rfl, rfl, rfl, by decide +kernel, rfl, by decide +kernel, by decide +kernel⟩
abbrev s_Reader_states : Stmt := inClass (topS 36) 5
theorem sc_Reader_states : FnScope ["self"] ["self"] (defScope s_Reader_states) := ⟨rfl, rfl, rfl, by decide +kernel, rfl, by decide +kernel, by decide +kernel⟩
abbrev s_Reader_digits : Stmt := inClass (topS 36) 6
theorem sc_Reader_digits : FnScope ["self", "_", "digit"] ["self"] (defScope s_Reader_digits) := ⟨rfl, rfl, rfl, by decide +kernel, rfl, by decide +kernel, by decide +kernel⟩
abbrev s_Reader_lines : Stmt := inClass (topS 36) 7
theorem sc_Reader_lines : FnScope ["self", "reads", "ends", "place"] ["self"] (defScope s_Reader_lines) := ⟨rfl, rfl, rfl, by decide +kernel, rfl, by decide +kernel, by decide +kernel⟩
abbrev s_Reader_behind : Stmt := inClass (topS 36) 9
theorem sc_Reader_behind : FnScope ["self", "digits", "state", "digit"] ["self", "digits"] (defScope s_Reader_behind) := ⟨rfl, rfl, rfl, by decide +kernel, rfl, by decide +kernel, by decide +kernel⟩
abbrev s_Reader_takes : Stmt := inClass (topS 36) 10
theorem sc_Reader_takes : FnScope ["self", "digits", "state"] ["self", "digits"] (defScope s_Reader_takes) := ⟨rfl, rfl, rfl, by decide +kernel, rfl, by decide +kernel, by decide +kernel⟩
abbrev s_Reader_least : Stmt := inClass (topS 36) 11
theorem sc_Reader_least : FnScope ["self", "reads", "reached", "ends", "names", "fewer", "place", "state", "after", "digit"] ["self"] (defScope s_Reader_least) := ⟨rfl, rfl, rfl, by decide +kernel, rfl, by decide +kernel, by decide +kernel⟩
abbrev s_Reader_len : Stmt := inClass (topS 36) 12
theorem sc_Reader_len : FnScope ["self"] ["self"] (defScope s_Reader_len) := ⟨rfl, rfl, rfl, by decide +kernel, rfl, by decide +kernel, by decide +kernel⟩
abbrev s_Reader_eq : Stmt := inClass (topS 36) 13
theorem sc_Reader_eq : FnScope ["self", "other"] ["self", "other"] (defScope s_Reader_eq) := ⟨rfl, rfl, rfl, by decide +kernel, rfl, by decide +kernel, by decide +kernel⟩
abbrev s_Reader_str : Stmt := inClass (topS 36) 14
theorem sc_Reader_str : FnScope ["self"] ["self"] (defScope s_Reader_str) := ⟨rfl, rfl, rfl, by decide +kernel, rfl, by decide +kernel, by decide +kernel⟩
/-- the class Reader as the top has made it -/
structure Cl_Reader (K : PySem.W.Frag) (mg : Str → Option Value) (C : Addr) : Prop where
  gC : mg "Reader" = some (.ref C)
  cl : Cls K C
  n_first : NoAttr K C "_first"
  n_ends : NoAttr K C "_ends"
  n_reads : NoAttr K C "_reads"
  n_states : NoAttr K C "_states"
  n_spare : NoAttr K C "_spare"
  made : ∃ f fd, Mk K C f ∧ Fun K "__init__" "Reader.__init__" s_Reader_init f fd ∧ Binds K fd ["self", "first", "ends", "reads"] []
  p_first : PropD K C "first" "Reader.first" s_Reader_first
  p_ends : PropD K C "ends" "Reader.ends" s_Reader_ends
  p_reads : PropD K C "reads" "Reader.reads" s_Reader_reads
  p_states : PropD K C "states" "Reader.states" s_Reader_states
  p_digits : PropD K C "digits" "Reader.digits" s_Reader_digits
  p_lines : PropD K C "lines" "Reader.lines" s_Reader_lines
  m_behind : DefM K C "behind" "Reader.behind" s_Reader_behind ["self", "digits"]
  m_takes : DefM K C "takes" "Reader.takes" s_Reader_takes ["self", "digits"]
  m_least : DefM K C "least" "Reader.least" s_Reader_least ["self"]
  m_len : DefM K C "__len__" "Reader.__len__" s_Reader_len ["self"]
  m_eq : DefM K C "__eq__" "Reader.__eq__" s_Reader_eq ["self", "other"]
  m_str : DefM K C "__str__" "Reader.__str__" s_Reader_str ["self"]
  ne : PySem.W.findIn K (.ref C) "__ne__" = some (some (.builtin "object.__ne__"))
  ob : PySem.W.mroIn K C (.type "object") = some true
  kit : PySem.W.kitOne K (.ref C) (.ref C) = some true
  kitT : PySem.W.kitOne K (.type "tuple") (.ref C) = some false
  kitD : PySem.W.kitOne K (.type "dict") (.ref C) = some false
  kitR : PySem.W.kitOne K (.ref C) (.type "tuple") = some false
  kitS : PySem.W.kitOne K (.ref C) (.type "str") = some false
  kit_NoneType : PySem.W.kitOne K (.type "NoneType") (.ref C) = some false
  kit_int : PySem.W.kitOne K (.type "int") (.ref C) = some false
  kit_bool : PySem.W.kitOne K (.type "bool") (.ref C) = some false
  kit_str : PySem.W.kitOne K (.type "str") (.ref C) = some false
  kit_list : PySem.W.kitOne K (.type "list") (.ref C) = some false
  ca : PySem.W.findIn K (.ref C) "__class__" = some (some (.builtin "object.__class__"))
  cg : PySem.W.specialIn K (.builtin "object.__class__") "__get__" = some (some (.builtin "getset_descriptor.__get__"))
  ct : PySem.W.takesIn K (.builtin "object.__class__") = some true
/-- what the walk asks of the top -/
structure Top (K : PySem.W.Frag) (mg : Str → Option Value) : Prop where
  b_IndexError : mg "IndexError" = none
  b_ValueError : mg "ValueError" = none
  b_abs : mg "abs" = none
  b_all : mg "all" = none
  b_bool : mg "bool" = none
  b_classmethod : mg "classmethod" = none
  b_dict : mg "dict" = none
  b_enumerate : mg "enumerate" = none
  b_int : mg "int" = none
  b_isinstance : mg "isinstance" = none
  b_len : mg "len" = none
  b_list : mg "list" = none
  b_max : mg "max" = none
  b_min : mg "min" = none
  b_property : mg "property" = none
  b_range : mg "range" = none
  b_repr : mg "repr" = none
  b_set : mg "set" = none
  b_sorted : mg "sorted" = none
  b_str : mg "str" = none
  b_tuple : mg "tuple" = none
  g_MAX_LETTERS : ∃ t, mg "MAX_LETTERS" = some (.int 8 t)
  g__TOO_LONG : ∃ t, mg "_TOO_LONG" = some (.int 1000000000000000000000000000000000000000000000000000000000000 t)
  g_MAX_DIGIT : ∃ t, mg "MAX_DIGIT" = some (.int 3 t)
  g_LOOSE_DIGIT : ∃ t, mg "LOOSE_DIGIT" = some (.int 20 t)
  g__LOOSE_RANKS : ∃ t, mg "_LOOSE_RANKS" = some (.int 402 t)
  g_MAX_STATES : ∃ t, mg "MAX_STATES" = some (.int 6 t)
  g_MAX_READS : ∃ t, mg "MAX_READS" = some (.int 40 t)
  d_wall : Def K mg "_wall" "_wall" s_wall ["k"]
  d_is_integer : Def K mg "is_integer" "is_integer" s_is_integer ["value"]
  d_is_count : Def K mg "is_count" "is_count" s_is_count ["value"]
  d_is_name : Def K mg "is_name" "is_name" s_is_name ["value"]
  d_is_sorted : DefK K mg "is_sorted" "is_sorted" s_is_sorted ["value", "most"] 1 ["most"]
  d_text_of : Def K mg "text_of" "text_of" s_text_of ["names"]
  d_are_digits : Def K mg "are_digits" "are_digits" s_are_digits ["value"]
  d_are_loose_digits : Def K mg "are_loose_digits" "are_loose_digits" s_are_loose_digits ["value"]
  d_is_digit : Def K mg "is_digit" "is_digit" s_is_digit ["value"]
  d_is_ascending : Def K mg "_is_ascending" "_is_ascending" s_is_ascending ["value"]
  d_is_place : Def K mg "_is_place" "_is_place" s_is_place ["value"]
  d_are_reads : Def K mg "_are_reads" "_are_reads" s_are_reads ["value"]
  d_all_states : Def K mg "_all_states" "_all_states" s_all_states ["first", "ends", "reads"]
  d_is_reader : Def K mg "_is_reader" "_is_reader" s_is_reader ["first", "ends", "reads"]
  d_reached : Def K mg "_reached" "_reached" s_reached ["starts", "pairs"]
  d_spare : Def K mg "_spare" "_spare" s_spare ["first", "ends", "reads"]
  d_representatives : Def K mg "_representatives" "_representatives" s_representatives ["marks"]
  d_lines_from : Def K mg "_lines_from" "_lines_from" s_lines_from ["state", "reads", "names"]
  d_merged_states : Def K mg "_merged_states" "_merged_states" s_merged_states ["first", "ends", "reads"]
  d_law_dice : Def K mg "_law_dice" "_law_dice" s_law_dice ["_law_script", "_law_spot"]
  d_law_roll : Def K mg "_law_roll" "_law_roll" s_law_roll ["_law_dice_here", "_law_total"]
  d_law_pick : Def K mg "_law_pick" "_law_pick" s_law_pick ["_law_dice_here", "_law_items"]
  d_law_mixed : Def K mg "_law_mixed" "_law_mixed" s_law_mixed ["_law_dice_here", "_law_items"]
  d_law_digit_text : Def K mg "_law_digit_text" "_law_digit_text" s_law_digit_text ["_law_digit"]
  d_law_made_reader : Def K mg "_law_made_reader" "_law_made_reader" s_law_made_reader ["_law_plain"]
  d_law_state_names : Def K mg "_law_state_names" "_law_state_names" s_law_state_names ["_law_dice_here", "_law_many"]
  d_law_all_digits : Def K mg "_law_all_digits" "_law_all_digits" s_law_all_digits ["_law_names"]
  d_law_some_digits : Def K mg "_law_some_digits" "_law_some_digits" s_law_some_digits ["_law_dice_here", "_law_most"]
  d_law_plain_reader : Def K mg "_law_plain_reader" "_law_plain_reader" s_law_plain_reader ["_law_dice_here", "_law_states", "_law_digits"]
  d_law_reader_states : Def K mg "_law_reader_states" "_law_reader_states" s_law_reader_states ["_law_plain"]
  d_law_reader_digits : Def K mg "_law_reader_digits" "_law_reader_digits" s_law_reader_digits ["_law_plain"]
  d_law_reader_lines : Def K mg "_law_reader_lines" "_law_reader_lines" s_law_reader_lines ["_law_plain"]
  d_law_told_right : Def K mg "_law_told_right" "_law_told_right" s_law_told_right ["_law_dice_here", "_law_plain"]
  d_law_near : Def K mg "_law_near" "_law_near" s_law_near ["_law_dice_here", "_law_plain"]
  d_law_equal_right : Def K mg "_law_equal_right" "_law_equal_right" s_law_equal_right ["_law_dice_here", "_law_plain"]
  c_Reader : ∃ C, Cl_Reader K mg C
  p_InvalidReader : ∃ C, XPln K mg "InvalidReader" "ValueError.__new__" "ValueError.__init__" [.type "ValueError", .type "Exception", .type "BaseException", .type "object"] C ∧ XCls K C ∧ PySem.W.exmOne K (.ref C) (.ref C) = some true
end Kl

set_option maxRecDepth 100000
set_option maxHeartbeats 4000000
namespace Kl
open PySem PySem.Spec PyProof.Rows L2 Gx Mx
section
variable {P : Program} {w : World} {K : PySem.W.Frag} {mg : Str → Option Value} {base : Heap}
/-! ### kinds of values -/
theorem tyx_same {H H' : Hp} (sm : Same H H') {v : V} {t : Value} (h : TyX K H v t) : TyX K H' v t := by
  cases h with
  | base b =>
    cases b with
    | non => exact .base .non
    | bl x => exact .base (.bl x)
    | int i => exact .base (.int i)
    | str x => exact .base (.str x)
    | flt x => exact .base (.flt x)
    | lst e => exact .base (.lst (sm _ _ e))
    | frz e => exact .base (.frz (sm _ _ e))
    | tup e => exact .base (.tup (sm _ _ e))
    | dK e => exact .base (.dK (sm _ _ e))
    | dT e => exact .base (.dT (sm _ _ e))
    | ins e cl ha hn htk hm => exact .base (.ins (sm _ _ e) cl ha hn htk hm)
  | byt b => exact .byt b
  | set e => exact .set (sm _ _ e)
  | kList e c => exact .kList e c
  | kTuple e c => exact .kTuple e c
  | kDict e c => exact .kDict e c
  | fTuple e => exact .fTuple (sm _ _ e)
  | fDict e => exact .fDict (sm _ _ e)
/-- the value is no instance of this built-in class -/
def Not (K : PySem.W.Frag) (H : Hp) (v : V) (T : String) : Prop := ∃ t, TyX K H v t ∧ PySem.W.kitOne K t (.type T) = some false
theorem Not.same {H H' : Hp} (sm : Same H H') {v : V} {T : String} (h : Not K H v T) : Not K H' v T := by
  obtain ⟨t, a, b⟩ := h
  exact ⟨t, tyx_same sm a, b⟩
/-- text, or not -/
def NameArg (K : PySem.W.Frag) (H : Hp) (v : V) : Prop := (∃ z : Str, v = .str z ∧ z.length ≤ sizeLine) ∨ ((∀ z, v ≠ .str z) ∧ Not K H v "str")
theorem NameArg.same {H H' : Hp} (sm : Same H H') {v : V} (h : NameArg K H v) : NameArg K H' v := by
  rcases h with h | ⟨a, b⟩
  · exact .inl h
  · exact .inr ⟨a, b.same sm⟩
/-- int, truth, or neither -/
def IntArg (K : PySem.W.Frag) (H : Hp) (v : V) : Prop := (∃ i, v = .int i) ∨ (∃ b, v = .bl b) ∨ ((∀ i, v ≠ .int i) ∧ Not K H v "int")
theorem IntArg.same {H H' : Hp} (sm : Same H H') {v : V} (h : IntArg K H v) : IntArg K H' v := by
  rcases h with h | h | ⟨a, b⟩
  · exact .inl h
  · exact .inr (.inl h)
  · exact .inr (.inr ⟨a, b.same sm⟩)
/-! ### is_integer, is_count -/
def TEN60 : Int := 1000000000000000000000000000000000000000000000000000000000000
def intV : V → Bool
  | .int i => decide (-TEN60 < i) && decide (i < TEN60)
  | _ => false
def cntV : V → Bool
  | .int i => (decide (-TEN60 < i) && decide (i < TEN60)) && decide (0 ≤ i)
  | _ => false
def spInt (K : PySem.W.Frag) : Sp := fun vs H Q _ => ∃ v : V, vs = [v] ∧ IntArg K H v ∧ Q (.bl (intV v)) H
theorem ok_int {f : Addr} {fd : FuncData} (F : Fun K "is_integer" "is_integer" s_is_integer f fd) (T : Top K mg) : FnOk P w K mg base CX0 1 f fd ["value"] (spInt K) := by
  obtain ⟨tm, gm⟩ := T.g__TOO_LONG
  refine F.ok sc_is_integer (fun vs H Q E h => ?_) (fun cdv A outer s H vs Q E hr h => ?_)
  · obtain ⟨v, rfl, _⟩ := h
    rfl
  · obtain ⟨v, rfl, hv, q⟩ := h
    refine ⟨_, pss_cons (ps_if (PW.pt (pw_or (pt_not (pt_val (pe_callB call_isi (by rfl) T.b_isinstance (by decide +kernel) (pa_cons (pv 0) (pa_cons (pe_bltn (v := .ty "int") (by rfl) T.b_int (by decide +kernel) rfl) pa_nil)))))
          (pw_or1 (pt_val (pe_callB call_isi (by rfl) T.b_isinstance (by decide +kernel) (pa_cons (pv 0) (pa_cons (pe_bltn (v := .ty "bool") (by rfl) T.b_bool (by decide +kernel) rfl) pa_nil)))))))
        (pss_one (ps_ret pe_bl)) pss_nil)
      (pss_one (ps_ret (pe_chain op_lt op_lt (pe_un un_neg (pe_glob (v := .int TEN60) (by rfl) gm ⟨_, rfl⟩)) (pv 0) (pe_glob (v := .int TEN60) (by rfl) gm ⟨_, rfl⟩)))), ?_⟩
    rcases hv with ⟨i, rfl⟩ | ⟨b, rfl⟩ | ⟨hn, t, ht, hk⟩
    · refine ⟨_, rfl, _, .ty "int", .type "int", .type "int", true, rfl, .ty _, .base (.int i), kit_ty (by decide +kernel), true, rfl, ?_⟩
      refine ⟨_, rfl, _, .ty "bool", .type "int", .type "bool", false, rfl, .ty _, .base (.int i), kit_ty (by decide +kernel), false, rfl, ?_⟩
      refine ⟨_, rfl, _, rfl, _, _, rfl, rfl, _, rfl, ?_⟩
      have q' : Q (.bl (decide (-TEN60 < i) && decide (i < TEN60))) H := q
      cases e : decide (-TEN60 < i) with
      | false =>
        rw [e] at q'
        exact q'
      | true =>
        rw [e] at q'
        exact ⟨_, _, rfl, rfl, q'⟩
    · refine ⟨_, rfl, _, .ty "int", .type "bool", .type "int", true, rfl, .ty _, .base (.bl b), kit_ty (by decide +kernel), true, rfl, ?_⟩
      exact ⟨_, rfl, _, .ty "bool", .type "bool", .type "bool", true, rfl, .ty _, .base (.bl b), kit_ty (by decide +kernel), true, rfl, q⟩
    · refine ⟨_, rfl, _, .ty "int", t, .type "int", false, rfl, .ty _, ht, hk, false, rfl, ?_⟩
      have e : intV v = false := by
        cases v with
        | int i => exact absurd rfl (hn i)
        | _ => rfl
      rw [e] at q
      exact q
def spCnt (K : PySem.W.Frag) : Sp := fun vs H Q _ => ∃ v : V, vs = [v] ∧ IntArg K H v ∧ Q (.bl (cntV v)) H
theorem ok_cnt {f : Addr} {fd : FuncData} (F : Fun K "is_count" "is_count" s_is_count f fd) (T : Top K mg) : FnOk P w K mg base CX0 2 f fd ["value"] (spCnt K) := by
  have ci : Cal P w K mg base 1 "is_integer" ["value"] (spInt K) := T.d_is_integer.cal fun f fd F => ok_int F T
  refine F.ok sc_is_count (fun vs H Q E h => ?_) (fun cdv A outer s H vs Q E hr h => ?_)
  · obtain ⟨v, rfl, _⟩ := h
    rfl
  · obtain ⟨v, rfl, hv, q⟩ := h
    refine ⟨_, pss_one (ps_ret (pe_and (pe_cal ci hr (by rfl) (pa_cons (pv 0) pa_nil)) (pe_one (pe_cmpR op_ge (pv 0) pe_int (nomark _))))), ?_⟩
    refine ⟨_, rfl, v, rfl, hv, _, rfl, ?_⟩
    cases v with
    | int i =>
      have q' : Q (.bl (intV (.int i) && decide (0 ≤ i))) H := q
      cases e : intV (.int i) with
      | false =>
        rw [e] at q'
        exact q'
      | true =>
        rw [e] at q'
        exact ⟨_, rfl, _, _, rfl, rfl, q'⟩
    | _ => exact q
/-! ### is_name -/
def nameV : V → Bool
  | .str z => nameB z
  | _ => false
def spName (K : PySem.W.Frag) : Sp := fun vs H Q _ => ∃ v : V, vs = [v] ∧ NameArg K H v ∧ Q (.bl (nameV v)) H
theorem nameV_no {v : V} (h : ∀ z, v ≠ .str z) : nameV v = false := by
  cases v with
  | str z => exact absurd rfl (h z)
  | _ => rfl
theorem ok_name {f : Addr} {fd : FuncData} (F : Fun K "is_name" "is_name" s_is_name f fd) (T : Top K mg) : FnOk P w K mg base CX0 1 f fd ["value"] (spName K) := by
  obtain ⟨tm, gm⟩ := T.g_MAX_LETTERS
  refine F.ok sc_is_name (fun vs H Q E h => ?_) (fun cdv A outer s H vs Q E hr h => ?_)
  · obtain ⟨v, rfl, _⟩ := h
    rfl
  · obtain ⟨v, rfl, hv, q⟩ := h
    refine ⟨_, pss_cons (ps_if (PW.pt (pw_or (pt_not (pt_val (pe_callB call_isi (by rfl) T.b_isinstance (by decide +kernel) (pa_cons (pv 0) (pa_cons (pe_bltn (v := .ty "str") (by rfl) T.b_str (by decide +kernel) rfl) pa_nil)))))
          (pw_or1 (pt_not (pt_chain op_le op_le pe_int (pe_callB call_len_str (by rfl) T.b_len PySem.boot_len (pa_cons (pv 0) pa_nil)) (pe_glob (v := .int 8) (by rfl) gm ⟨_, rfl⟩))))))
        (pss_one (ps_ret pe_bl)) pss_nil)
      (pss_one (ps_ret (pe_and (pe_m0 PySem.F.slot_str_isascii PySem.F.type_str_isascii mt_isascii (pv 0))
        (pe_and (pe_m0 PySem.F.slot_str_isalpha PySem.F.type_str_isalpha mt_isalpha (pv 0)) (pe_one (pe_m0 PySem.F.slot_str_islower PySem.F.type_str_islower mt_islower (pv 0))))))), ?_⟩
    rcases hv with ⟨z, rfl, hz⟩ | ⟨hn, t, ht, hk⟩
    · have q' : Q (.bl (nameB z)) H := q
      refine ⟨_, rfl, _, .ty "str", .type "str", .type "str", true, rfl, .ty _, .base (.str z), kit_ty (by decide +kernel), true, rfl, ?_⟩
      refine ⟨_, rfl, _, rfl, hz, _, _, rfl, rfl, _, rfl, ite2 (fun e1 => ?_) (fun e1 => ?_)⟩
      · have h1 : 1 ≤ z.cps.size := by
          have e2 : (1 : Int) ≤ (z.length : Int) := of_decide_eq_true e1
          have e3 : z.length = z.cps.size := rfl
          omega
        refine ⟨_, _, rfl, rfl, _, rfl, ?_⟩
        have e3 : decide ((z.length : Int) ≤ 8) = decide (z.cps.size ≤ 8) := decide_eq_decide.mpr (by
          have e3 : z.length = z.cps.size := rfl
          omega)
        by_cases h8 : z.cps.size ≤ 8
        · have e4 : decide ((z.length : Int) ≤ 8) = true := e3.trans (decide_eq_true h8)
          rw [e4]
          have e5 : nameB z = (Txt.isascii z && (Txt.isalpha z && Txt.islower z)) := by
            rw [name_by z h1]
            unfold nameB
            rw [decide_eq_true h1, decide_eq_true h8, Bool.true_and, Bool.true_and]
          rw [e5] at q'
          refine ⟨_, rfl, ⟨_, rfl⟩, z, rfl, rfl, trivial, _, rfl, ?_⟩
          cases a1 : Txt.isascii z with
          | false =>
            rw [a1] at q'
            exact q'
          | true =>
            rw [a1] at q'
            refine ⟨_, rfl, ⟨_, rfl⟩, z, rfl, rfl, trivial, _, rfl, ?_⟩
            cases a2 : Txt.isalpha z with
            | false =>
              rw [a2] at q'
              exact q'
            | true =>
              rw [a2] at q'
              exact ⟨_, rfl, ⟨_, rfl⟩, z, rfl, rfl, trivial, q'⟩
        · have e4 : decide ((z.length : Int) ≤ 8) = false := e3.trans (decide_eq_false h8)
          rw [e4]
          show Q (.bl false) H
          have e5 : nameB z = false := by
            unfold nameB
            rw [decide_eq_false h8, Bool.and_false, Bool.false_and]
          rw [← e5]
          exact q'
      · have h1 : ¬ 1 ≤ z.cps.size := fun h => e1 (decide_eq_true (by
          have e3 : z.length = z.cps.size := rfl
          omega))
        refine ⟨_, rfl, ?_⟩
        show Q (.bl false) H
        have e5 : nameB z = false := by
          unfold nameB
          rw [decide_eq_false h1, Bool.false_and, Bool.false_and]
        rw [← e5]
        exact q'
    · refine ⟨_, rfl, _, .ty "str", t, .type "str", false, rfl, .ty _, ht, hk, false, rfl, ?_⟩
      rw [nameV_no hn] at q
      exact q
end
end Kl

set_option maxRecDepth 100000
set_option maxHeartbeats 4000000
namespace Kl
open PySem PySem.Spec PyProof.Rows L2 Gx Mx
/-! ### kinds and their makings: the mathematics -/
abbrev Mak := List (Str × List Str)
/-- the names that are drawn -/
def POOL : List Str := ["a", "b", "ab", "c", "leaf", "zzzzzzzz", "d", "e", "f"]
theorem pool_names : POOL.all nameB = true := by decide +kernel
theorem pool_short : POOL.all (fun z => decide (z.length ≤ 8)) = true := by decide +kernel
theorem pool_nd : POOL.Nodup := by decide +kernel
theorem pool_name {z : Str} (h : z ∈ POOL) : nameB z = true := List.all_eq_true.mp pool_names z h
theorem pool_len {z : Str} (h : z ∈ POOL) : z.length ≤ 8 := of_decide_eq_true (List.all_eq_true.mp pool_short z h)
def keysOf (M : Mak) : List Str := M.map (·.1)
/-- these are kinds of drawn names -/
structure Vld (leaf : Str) (M : Mak) : Prop where
  lf : leaf ∈ POOL
  keys : ∀ z ∈ keysOf M, z ∈ POOL
  nd : (keysOf M).Nodup
  parts : ∀ m ∈ M, sortedS m.2 = true ∧ 2 ≤ m.2.length ∧ m.2.length ≤ 3 ∧ ∀ p ∈ m.2, p = leaf ∨ p ∈ keysOf M
  few : ∀ ns : List Str, ns.Nodup → (∀ z ∈ ns, z = leaf ∨ z ∈ keysOf M) → ns.length ≤ 6
theorem Vld.part {leaf : Str} {M : Mak} (v : Vld leaf M) {m : Str × List Str} (hm : m ∈ M) {p : Str} (hp : p ∈ m.2) : p ∈ POOL := by
  rcases (v.parts m hm).2.2.2 p hp with rfl | h
  · exact v.lf
  · exact v.keys p h
theorem Vld.len {leaf : Str} {M : Mak} (v : Vld leaf M) : M.length ≤ 6 := by
  have h := v.few (keysOf M) v.nd fun z hz => .inr hz
  unfold keysOf at h
  rw [List.length_map] at h
  exact h
/-- the ascending names of kinds -/
structure IsNames (leaf : Str) (ks ns : List Str) : Prop where
  srt : sortedS ns = true
  nd : ns.Nodup
  mem : ∀ z, z ∈ ns ↔ z = leaf ∨ z ∈ ks
theorem sorted_same {l m : List Str} (hl : sortedS l = true) (hm : sortedS m = true) (dl : l.Nodup) (dm : m.Nodup) (e : ∀ z, z ∈ l ↔ z ∈ m) : l = m :=
  sortedS_unique ((List.perm_ext_iff_of_nodup dl dm).mpr e) hl hm
theorem IsNames.unique {leaf : Str} {ks ks' ns ms : List Str} (h : IsNames leaf ks ns) (h' : IsNames leaf ks' ms) (e : ∀ z, z ∈ ks ↔ z ∈ ks') : ns = ms :=
  sorted_same h.srt h'.srt h.nd h'.nd fun z => by rw [h.mem, h'.mem, e]
theorem sortedS_sub {l m : List Str} (h : sortedS m = true) (s : l.Sublist m) : sortedS l = true := (sortedS_iff l).mpr (((sortedS_iff m).mp h).sublist s)
/-! ### makings looked up -/
def lookM (M : Mak) (z : Str) : Option (List Str) := (M.find? fun m => decide (m.1 = z)).map (·.2)
theorem lookM_cons (m : Str × List Str) (M : Mak) (z : Str) : lookM (m :: M) z = if m.1 = z then some m.2 else lookM M z := by
  unfold lookM
  rw [List.find?_cons]
  by_cases h : m.1 = z
  · rw [if_pos h, decide_eq_true h]
    rfl
  · rw [if_neg h, decide_eq_false h]
theorem lookM_mem {M : Mak} (nd : (keysOf M).Nodup) {m : Str × List Str} (h : m ∈ M) : lookM M m.1 = some m.2 := by
  induction M with
  | nil => cases h
  | cons x M ih =>
    have nd' : (x.1 :: keysOf M).Nodup := nd
    rw [List.nodup_cons] at nd'
    rw [lookM_cons]
    rcases List.mem_cons.mp h with rfl | h
    · rw [if_pos rfl]
    · rw [if_neg fun e => nd'.1 (by rw [e]; exact List.mem_map.mpr ⟨m, h, rfl⟩)]
      exact ih nd'.2 h
theorem lookM_some {M : Mak} {z : Str} {ps : List Str} (h : lookM M z = some ps) : (z, ps) ∈ M := by
  induction M with
  | nil => cases h
  | cons x M ih =>
    rw [lookM_cons] at h
    by_cases e : x.1 = z
    · rw [if_pos e] at h
      cases h
      rw [← e]
      exact List.mem_cons_self
    · rw [if_neg e] at h
      exact List.mem_cons_of_mem _ (ih h)
theorem lookM_none {M : Mak} {z : Str} : lookM M z = none ↔ z ∉ keysOf M := by
  induction M with
  | nil => exact ⟨(fun _ h => nomatch h), fun _ => rfl⟩
  | cons x M ih =>
    rw [lookM_cons]
    show _ ↔ z ∉ x.1 :: keysOf M
    rw [List.mem_cons, not_or]
    by_cases e : x.1 = z
    · rw [if_pos e]
      exact ⟨(fun h => nomatch h), fun h => absurd e.symm h.1⟩
    · rw [if_neg e, ih]
      exact ⟨fun h => ⟨fun q => e q.symm, h⟩, fun h => h.2⟩
theorem lookM_in {M : Mak} {z : Str} (h : z ∈ keysOf M) : ∃ ps, lookM M z = some ps := by
  cases e : lookM M z with
  | none => exact absurd h (lookM_none.mp e)
  | some ps => exact ⟨ps, rfl⟩
/-- M' is M, ascending by its keys -/
structure OrdOf (M M' : Mak) : Prop where
  srt : sortedS (keysOf M') = true
  nd : (keysOf M').Nodup
  look : ∀ z, lookM M' z = lookM M z
theorem OrdOf.keys {M M' : Mak} (h : OrdOf M M') (z : Str) : z ∈ keysOf M' ↔ z ∈ keysOf M := by
  have e := h.look z
  constructor
  · intro q
    obtain ⟨ps, hp⟩ := lookM_in q
    rw [hp] at e
    cases c : decide (z ∈ keysOf M) with
    | true => exact of_decide_eq_true c
    | false =>
      rw [lookM_none.mpr (of_decide_eq_false c)] at e
      cases e
  · intro q
    obtain ⟨ps, hp⟩ := lookM_in q
    rw [hp] at e
    cases c : decide (z ∈ keysOf M') with
    | true => exact of_decide_eq_true c
    | false =>
      rw [lookM_none.mpr (of_decide_eq_false c)] at e
      cases e
theorem mak_of_keys {M : Mak} (nd : (keysOf M).Nodup) : M = (keysOf M).map fun z => (z, (lookM M z).getD []) := by
  unfold keysOf
  rw [List.map_map]
  refine (List.map_id M).symm.trans (List.map_congr_left fun m hm => ?_)
  show m = (m.1, (lookM M m.1).getD [])
  rw [lookM_mem nd hm]
  rfl
theorem OrdOf.eq {M M' : Mak} (h : OrdOf M M') {ys : List Str} (hs : sortedS ys = true) (hp : ys.Perm (keysOf M)) (nd : (keysOf M).Nodup) : M' = ys.map fun z => (z, (lookM M z).getD []) := by
  have e : keysOf M' = ys := sorted_same h.srt hs h.nd (hp.nodup_iff.mpr nd) fun z => by rw [h.keys, hp.mem_iff]
  rw [mak_of_keys h.nd, e]
  exact List.map_congr_left fun z _ => by rw [h.look]
theorem OrdOf.mk' {M : Mak} {ys : List Str} (hs : sortedS ys = true) (hp : ys.Perm (keysOf M)) (nd : (keysOf M).Nodup) : OrdOf M (ys.map fun z => (z, (lookM M z).getD [])) := by
  have ek : keysOf (ys.map fun z => (z, (lookM M z).getD [])) = ys := by
    unfold keysOf
    rw [List.map_map]
    exact List.map_id ys
  have dy : ys.Nodup := hp.nodup_iff.mpr nd
  refine ⟨by rw [ek]; exact hs, by rw [ek]; exact dy, fun z => ?_⟩
  by_cases h : z ∈ ys
  · have h1 := lookM_mem (M := ys.map fun z => (z, (lookM M z).getD [])) (by rw [ek]; exact dy) (List.mem_map.mpr ⟨z, h, rfl⟩)
    obtain ⟨ps, q⟩ := lookM_in (hp.mem_iff.mp h)
    rw [h1, q]
    rfl
  · rw [lookM_none.mpr (by rw [ek]; exact h), lookM_none.mpr fun q => h (hp.mem_iff.mpr q)]
theorem OrdOf.vld {leaf : Str} {M M' : Mak} (h : OrdOf M M') (v : Vld leaf M) : Vld leaf M' := by
  refine ⟨v.lf, fun z hz => v.keys z ((h.keys z).mp hz), h.nd, fun m hm => ?_, fun ns hn hs => v.few ns hn fun z hz => (hs z hz).imp id (h.keys z).mp⟩
  have e := h.look m.1
  rw [lookM_mem h.nd hm] at e
  obtain ⟨h1, h2, h3, h4⟩ := v.parts (m.1, m.2) (lookM_some e.symm)
  exact ⟨h1, h2, h3, fun p hp => (h4 p hp).imp id (h.keys p).mpr⟩
/-! ### what is told of kinds -/
def lineK (n : Str) (ps : List Str) : Str := (("kind " : Str) ++ n ++ " ") ++ Txt.join "+" ps
def linesK (leaf : Str) (M : Mak) : List Str := (("leaf " : Str) ++ leaf) :: M.map fun m => lineK m.1 m.2
def usersK (M : Mak) (z : Str) : List Str := (M.filter fun m => decide (z ∈ m.2)).map (·.1)
def partedK (ps : List Str) (z : Str) : List Str := ps.take (ps.idxOf z) ++ ps.drop (ps.idxOf z + 1)
/-- the users by the names and the makings in any order -/
theorem users_by {leaf : Str} {M M' : Mak} {ns : List Str} (h : OrdOf M M') (hn : IsNames leaf (keysOf M) ns) (z : Str) : ns.filter (fun u => decide (z ∈ (lookM M u).getD [])) = usersK M' z := by
  have e : usersK M' z = (keysOf M').filter fun u => decide (z ∈ (lookM M u).getD []) := by
    unfold usersK keysOf
    rw [List.filter_map]
    refine congrArg _ (List.filter_congr fun m hm => ?_)
    show decide (z ∈ m.2) = decide (z ∈ (lookM M m.1).getD [])
    rw [← h.look, lookM_mem h.nd hm]
    rfl
  rw [e]
  refine sorted_same (sortedS_sub hn.srt List.filter_sublist) (sortedS_sub h.srt List.filter_sublist) (hn.nd.sublist List.filter_sublist) (h.nd.sublist List.filter_sublist) fun u => ?_
  rw [List.mem_filter, List.mem_filter, hn.mem, h.keys]
  constructor
  · rintro ⟨h1, h2⟩
    refine ⟨?_, h2⟩
    cases c : decide (u ∈ keysOf M) with
    | true => exact of_decide_eq_true c
    | false =>
      rw [lookM_none.mpr (of_decide_eq_false c)] at h2
      exact absurd (of_decide_eq_true h2) (by simp)
  · rintro ⟨h1, h2⟩
    exact ⟨.inr h1, h2⟩
/-! ### makings in the heap -/
/-- a tuple in the heap whose object has no dict of its own -/
def TupZ (H : Hp) (a : Addr) (xs : List V) : Prop := ∃ ob : Obj, ob.dict = none ∧ H a = some (.frz ob (.tup xs))
theorem TupZ.sq {K : PySem.W.Frag} {H : Hp} {a : Addr} {xs : List V} (h : TupZ H a xs) : SqT K H a xs := by
  obtain ⟨ob, _, e⟩ := h
  exact .inl (.inr ⟨ob, e⟩)
theorem TupZ.ty {K : PySem.W.Frag} {H : Hp} {a : Addr} {xs : List V} (h : TupZ H a xs) : TyX K H (.ref a) (.type "tuple") := by
  obtain ⟨ob, _, e⟩ := h
  exact .fTuple e
theorem TupZ.at {H H' : Hp} {a : Addr} {xs : List V} (h : TupZ H a xs) (s : ∀ o, H a = some o → H' a = some o) : TupZ H' a xs := by
  obtain ⟨ob, d, e⟩ := h
  exact ⟨ob, d, s _ e⟩
theorem TupZ.mono {H H' : Hp} {a : Addr} {xs : List V} (h : TupZ H a xs) (s : Same H H') : TupZ H' a xs := h.at fun o e => s _ _ e
theorem TupZ.ne {H : Hp} {a b : Addr} {xs : List V} (h : TupZ H a xs) {o : HO} (e : H b = some o) (n : ∀ ob, o ≠ .frz ob (.tup xs)) : a ≠ b := fun z => by
  obtain ⟨ob, _, q⟩ := h
  rw [z, e] at q
  exact n ob (Option.some.inj q)
def MakAt (H : Hp) (kvs : List (Key × V)) (M : Mak) : Prop := Paired (fun (kv : Key × V) (m : Str × List Str) => kv.1 = Sum.inr m.1 ∧ ∃ a, kv.2 = .ref a ∧ TupZ H a (m.2.map V.str)) kvs M
theorem MakAt.same {H H' : Hp} {kvs : List (Key × V)} {M : Mak} (h : MakAt H kvs M) (s : ∀ a xs, TupZ H a xs → TupZ H' a xs) : MakAt H' kvs M := by
  unfold MakAt at h ⊢
  induction h with
  | nil => exact .nil
  | cons h _ ih =>
    obtain ⟨h1, a, h2, h3⟩ := h
    exact .cons ⟨h1, a, h2, s a _ h3⟩ ih
theorem MakAt.len {H : Hp} {kvs : List (Key × V)} {M : Mak} (h : MakAt H kvs M) : kvs.length = M.length := Paired.length h
theorem MakAt.keys {H : Hp} {kvs : List (Key × V)} {M : Mak} (h : MakAt H kvs M) : kvs.map (·.1) = (keysOf M).map Sum.inr := by
  unfold MakAt at h
  induction h with
  | nil => rfl
  | cons h _ ih =>
    exact congr (congrArg List.cons h.1) ih
theorem MakAt.get {H : Hp} {kvs : List (Key × V)} {M : Mak} (h : MakAt H kvs M) (z : Str) : (lookM M z = none ∧ valV kvs (Sum.inr z) = none) ∨ ∃ ps a, lookM M z = some ps ∧ valV kvs (Sum.inr z) = some (.ref a) ∧ TupZ H a (ps.map V.str) := by
  unfold MakAt at h
  induction h with
  | nil => exact .inl ⟨rfl, rfl⟩
  | @cons kv m kvs M h _ ih =>
    obtain ⟨h1, a, h2, h3⟩ := h
    rw [lookM_cons]
    by_cases e : m.1 = z
    · rw [if_pos e, valV_pos (by rw [h1, e])]
      exact .inr ⟨m.2, a, rfl, by rw [h2], h3⟩
    · rw [if_neg e, valV_neg (by rw [h1]; exact fun q => e (Sum.inr.inj q))]
      exact ih
theorem MakAt.at {H : Hp} {kvs : List (Key × V)} {M : Mak} (h : MakAt H kvs M) {i : Nat} {k : Key} {v : V} (e : kvs[i]? = some (k, v)) : ∃ m a, M[i]? = some m ∧ k = Sum.inr m.1 ∧ v = .ref a ∧ TupZ H a (m.2.map V.str) := by
  unfold MakAt at h
  induction h generalizing i with
  | nil => cases e
  | @cons kv m kvs M h _ ih =>
    cases i with
    | zero =>
      cases e
      obtain ⟨h1, a, h2, h3⟩ := h
      exact ⟨m, a, rfl, h1, h2, h3⟩
    | succ i => exact ih e
theorem MakAt.key {H : Hp} {kvs : List (Key × V)} {M : Mak} (h : MakAt H kvs M) {z : Str} (hz : z ∈ keysOf M) : ∃ ps a, lookM M z = some ps ∧ valV kvs (Sum.inr z) = some (.ref a) ∧ TupZ H a (ps.map V.str) := by
  rcases h.get z with ⟨e, _⟩ | h
  · exact absurd hz (lookM_none.mp e)
  · exact h
/-- kinds with this leaf and these makings stand at x, their dict at md, their names ns -/
def KindsAt (C : Addr) (H : Hp) (x md : Addr) (leaf : Str) (M : Mak) (ns : List Str) : Prop :=
  ∃ dx nt kvs, H x = some (.ins C dx [("_leaf", .str leaf), ("_makings", .ref md), ("_names", .ref nt)]) ∧ H md = some (.dK kvs) ∧ MakAt H kvs M ∧ H nt = some (.tup (ns.map V.str))
theorem KindsAt.keep {C : Addr} {H H' : Hp} {x md e : Addr} {leaf : Str} {M : Mak} {ns : List Str} (h : KindsAt C H x md leaf M ns) (s : ∀ b o, b ≠ e → H b = some o → H' b = some o) (n1 : x ≠ e) (n2 : md ≠ e) (n3 : ∀ xs, H e ≠ some (.tup xs)) (n4 : ∀ xs, ¬ TupZ H e xs) : KindsAt C H' x md leaf M ns := by
  obtain ⟨dx, nt, kvs, h1, h2, h3, h4⟩ := h
  have t : ∀ a xs, H a = some (.tup xs) → H' a = some (.tup xs) := fun a xs q => s a _ (fun z => n3 xs (z ▸ q)) q
  exact ⟨dx, nt, kvs, s _ _ n1 h1, s _ _ n2 h2, h3.same fun a xs q => q.at fun o e' => s _ _ (fun z => n4 xs (z ▸ q)) e', t _ _ h4⟩
theorem KindsAt.same {C : Addr} {H H' : Hp} {x md : Addr} {leaf : Str} {M : Mak} {ns : List Str} (h : KindsAt C H x md leaf M ns) (s : Same H H') : KindsAt C H' x md leaf M ns := by
  obtain ⟨dx, nt, kvs, h1, h2, h3, h4⟩ := h
  exact ⟨dx, nt, kvs, s _ _ h1, s _ _ h2, h3.same fun a xs q => q.mono s, s _ _ h4⟩
end Kl

set_option maxRecDepth 100000
set_option maxHeartbeats 4000000
namespace Gx
open PySem PySem.Spec PyProof.Rows L2
/-- the name x is a def called with n values by position and keywords ks, that keeps sp and raises nothing -/
def CalO (P : Program) (w : World) (K : PySem.W.Frag) (mg : Str → Option Value) (base : Heap) (k : Nat) (x : Str) (ps : List Str) (n : Nat) (ks : List Str) (gV : List V → List V → List V) (sp : Sp) : Prop :=
  ∃ (f : Addr) (fd : FuncData) (g : List Value → List Value → List Value), FnOk P w K mg base CX0 k f fd ps sp ∧ PySem.W.keepIn K (.ref f) = true ∧ KBn K fd ps n ks g gV ∧ mg x = some (.ref f)
section
variable {P : Program} {w : World} {K : PySem.W.Frag} {mg : Str → Option Value} {base : Heap}
theorem DefK.calO {x qual : Str} {st : Stmt} {ps ks : List Str} {n : Nat} (d : DefK K mg x qual st ps n ks) {k : Nat} {sp : Sp} (h : ∀ f fd, Fun K x qual st f fd → FnOk P w K mg base CX0 k f fd ps sp) : CalO P w K mg base k x ps n ks (fun vs zs => vs ++ zs) sp := by
  obtain ⟨f, fd, F, b, g⟩ := d
  exact ⟨f, fd, _, h f fd F, F.kp, b, g⟩
theorem CalO.mono {x : Str} {ps ks : List Str} {n j k : Nat} {gV : List V → List V → List V} {sp : Sp} (c : CalO P w K mg base j x ps n ks gV sp) (h : j ≤ k) : CalO P w K mg base k x ps n ks gV sp := by
  obtain ⟨f, fd, g, F, more⟩ := c
  exact ⟨f, fd, g, F.mono h, more⟩
end
section
variable {X : Cx}
def tClO (n m : Nat) (sp : Sp) (gV : List V → List V → List V) (t tk : TA) : TE := fun σ H Q => t σ H fun vs H1 => tk σ H1 fun zs H2 => vs.length = n ∧ zs.length = m ∧ sp (gV vs zs) H2 Q E0
theorem pe_calO {x : Str} {ps ks : List Str} {n : Nat} {gV : List V → List V → List V} {sp : Sp} {k : Nat} {e : Expr} {es : List Expr} {kws : List Keyword} {t tk : TA} {p pos : Pos} (c : CalO X.prog X.w X.K X.mg X.base k x ps n ks gV sp) (room : Room k X.A) (hg : Gl X x)
    (h : PA X (e :: es) t) (hk : PK X kws tk) (hall : (backToKw pos (keywordEach kws X.env)).all (·.1.isSome) = true := by rfl) (hks : (backToKw pos (keywordEach kws X.env)).filterMap (·.1) = ks := by rfl)
    (hdb : (x == ("__debug__" : Str)) = false := by decide) (hst : starEach (e :: es) X.env = (false, eval e X.env) :: starEach es X.env := by rfl)
    (hpl : ((backTo pos (starEach (e :: es) X.env)).any (·.1) || (backToKw pos (keywordEach kws X.env)).any (·.1.isNone)) = false := by rfl) :
    PE X (.Call (.Name x p) (e :: es) kws pos) (tClO n ks.length sp gV t tk) := by
  obtain ⟨f, fd, gg, F, kp, b, hm⟩ := c
  refine ⟨fun pins s σ H Q I want => wpAny_Call_Name_kw (ld_glob I hg hm ?_ hdb)⟩
  refine PySem.W.callWith_KW (h₀ := X.base) I.ok.mod.kin kp hall (thn (h.run pos pins s σ H _ I want) ?_) hpl hst
  rintro us s1 ⟨vs, H1, I1, r, q⟩
  refine thn (hk.run pos pins s1 σ H1 _ I1 q) ?_
  rintro ws s2 ⟨zs, H2, I2, rz, l1, l2, q2⟩
  refine ⟨I2.kIn, ?_⟩
  rw [hks]
  have rel := b.rel r rz
  have bt := b.to s2 us ws I2.kIn (r.length.symm.trans l1) (rz.length.symm.trans l2)
  refine wpAny_call (codeAny_mono (F.run X.A X.stack s2 H2 ⟨us, ks.zip ws⟩ _ _ Q E0 room I2.env0 bt rel q2) fun res s' hres => ?_)
  match res, hres with
  | .error e, hres => exact hres.elim
  | .ok (.ret u), hres => exact I2.after hres
end
/-! ### rules within comprehensions, the written part named -/
section
variable {X : Cx} {K : PySem.W.Frag}
theorem pi_tupK {tg l : Expr} {tl : TE} (hk : X.K = K) (hl : PE X l tl) : PI X tg l (iTup K tl) := by
  subst hk
  exact pi_tup hl
theorem pi_listK {tg l : Expr} {tl : TE} (hk : X.K = K) (hl : PE X l tl) : PI X tg l (iList K tl) := by
  subst hk
  exact pi_list hl
theorem op_inSeqK (hk : X.K = K) : OpR X (compareOp .In) (rIn K false) := by
  subst hk
  exact op_in_seq
end
/-- a walk's bookkeeping, whatever its turn does -/
theorem walk_in {J : It} {n : Nat} {G : Hp → Prop} {Y : Nat → Hp → V → Hp → Prop} (w : Walk J n G Y) {H0 : Hp} {Qd : Hp → Prop} {body : V → Hp → (Hp → Prop) → Prop} (Pv : Nat → Hp → Prop) (h0 : Pv 0 H0) (hG : ∀ i H, i ≤ n → Pv i H → G H)
    (hs : ∀ i x H H', i < n → Pv i H → Y i H x H' → body x H' (Pv (i + 1))) (hd : ∀ H, Pv n H → Qd H) :
    ∃ W : Nat → Nat → Hp → Prop, (∃ m, W 0 m H0) ∧ ∀ i m H, W i m H → (J.stop i H ∧ Qd H) ∨ (J.go i H ∧ ∃ Nx : Hp → Prop, (∀ H', Nx H' → ∃ m', m' < m ∧ W (i + 1) m' H') ∧ ∀ x H', J.yld i H x H' → body x H' Nx) := by
  refine ⟨fun i m H => m = n - i ∧ i ≤ n ∧ Pv i H, ⟨n, (Nat.sub_zero n).symm, Nat.zero_le _, h0⟩, ?_⟩
  rintro i m H ⟨rfl, hi, p⟩
  have q := hG i H hi p
  rcases Nat.lt_or_ge i n with lt | ge
  · exact .inr ⟨w.goes i H lt q, Pv (i + 1), fun H' p' => ⟨n - (i + 1), by omega, rfl, lt, p'⟩, fun x H' y => hs i x H H' lt p (w.yields i H x H' lt q y)⟩
  · obtain rfl : i = n := Nat.le_antisymm hi ge
    exact .inl ⟨w.stops H q, hd H p⟩
end Gx
namespace Kl
open PySem PySem.Spec PyProof.Rows L2 Gx Mx
section
variable {P : Program} {w : World} {K : PySem.W.Frag} {mg : Str → Option Value} {base : Heap}
/-! ### is_sorted of texts -/
def spSorted (K : PySem.W.Frag) : Sp := fun vs H Q _ => ∃ (p : Addr) (zs : List Str) (M : Int), vs = [.ref p, .int M] ∧ SqT K H p (zs.map V.str) ∧ TyX K H (.ref p) (.type "tuple") ∧ 0 ≤ M ∧ M ≤ 100 ∧ zs.length ≤ 1000 ∧ (∀ z ∈ zs, z.length ≤ 1000) ∧
  ∀ H', Same H H' → Q (.bl (decide ((zs.length : Int) ≤ M) && (zs.all nameB && sortedS zs))) H'
theorem names_low {z : Str} (h : nameB z = true) : PyData.strOk z = true := by
  unfold nameB at h
  rw [Bool.and_eq_true] at h
  show z.cps.all _ = true
  rw [Array.all_eq_true']
  intro c hc
  have := List.all_eq_true.mp h.2 c (Array.mem_toList_iff.mpr hc)
  exact decide_eq_true (Nat.lt_trans (isLow_lt this) (by decide))
theorem ok_sorted {f : Addr} {fd : FuncData} (F : Fun K "is_sorted" "is_sorted" s_is_sorted f fd) (T : Top K mg) : FnOk P w K mg base CX0 3 f fd ["value", "most"] (spSorted K) := by
  have cc : Cal P w K mg base 2 "is_count" ["value"] (spCnt K) := T.d_is_count.cal fun f fd F => ok_cnt F T
  have cn : Cal P w K mg base 2 "is_name" ["value"] (spName K) := (T.d_is_name.cal fun f fd F => ok_name F T).mono (by decide)
  refine F.ok sc_is_sorted (fun vs H Q E h => ?_) (fun cdv A outer s H vs Q E hr h => ?_)
  · obtain ⟨p, zs, M, rfl, _⟩ := h
    rfl
  · obtain ⟨p, zs, M, rfl, hp, hT, hM, hM2, hlen, hz, hq⟩ := h
    refine ⟨_, pss_cons (ps_if (pt_not (pt_val (pe_cal cc hr (by rfl) (pa_cons (pv 1) pa_nil)))) (pss_one ps_never) pss_nil)
      (pss_cons (ps_if (PW.pt (pw_or (pt_not (pt_val (pe_callB call_isi (by rfl) T.b_isinstance (by decide +kernel) (pa_cons (pv 0) (pa_cons (pe_bltn (v := .ty "tuple") (by rfl) T.b_tuple (by decide +kernel) rfl) pa_nil)))))
          (pw_or1 (pt_cmpR op_gt (pe_callB call_len_seq (by rfl) T.b_len PySem.boot_len (pa_cons (pv 0) pa_nil)) (pv 1) (nomark _))))) (pss_one (ps_ret pe_bl)) pss_nil)
      (pss_cons (ps_if (pt_not (pt_val (pe_callB (cr_all rfl) (by rfl) T.b_all (by decide +kernel) (pa_cons (pe_lc (own := [("name", 2)]) (g := gName 2) (tt := tYes) rfl sc_is_sorted.nd (pi_tup (pv 0))
            (blkOk_by (N := ["value", "most", "name"]) (sc := defScope s_is_sorted) (by decide +kernel))
            (fun _ _ _ _ _ => pg_name (i := 2) sc_is_sorted.nd rfl (.inl rfl)) (fun _ _ _ _ _ => pts_nil) (fun _ _ _ _ _ => pe_cal cn hr (by rfl) (pa_cons (pv 2) pa_nil))) pa_nil)))) (pss_one (ps_ret pe_bl)) pss_nil)
      (pss_one (ps_ret (pe_cmpR (op_eqD hr.units) (pe_callTy call_list_of (by rfl) T.b_list (by decide +kernel) (pa_cons (pv 0) pa_nil)) (pe_callB cr_sortedTS (by rfl) T.b_sorted (by decide +kernel) (pa_cons (pv 0) pa_nil)) (nomark _)))))), ?_⟩
    have hc : cntV (.int M) = true := by
      show ((decide (-TEN60 < M) && decide (M < TEN60)) && decide (0 ≤ M)) = true
      rw [decide_eq_true (show -TEN60 < M by unfold TEN60; omega), decide_eq_true (show M < TEN60 by unfold TEN60; omega), decide_eq_true hM]
      rfl
    refine ⟨_, rfl, .int M, rfl, .inl ⟨M, rfl⟩, _, rfl, ?_⟩
    rw [hc]
    refine ⟨_, rfl, _, .ty "tuple", .type "tuple", .type "tuple", true, rfl, .ty _, hT, kit_ty (by decide +kernel), true, rfl, ?_⟩
    refine ⟨_, rfl, p, _, rfl, .inr hp, _, rfl, _, _, rfl, rfl, _, rfl, ite2 (fun e => ?_) (fun e => ?_)⟩
    · have e1 : decide ((zs.length : Int) ≤ M) = false := decide_eq_false (by
        have := of_decide_eq_true e
        rw [List.length_map] at this
        omega)
      rw [e1, Bool.false_and] at hq
      exact hq H (Same.refl H)
    · have e1 : decide ((zs.length : Int) ≤ M) = true := decide_eq_true (by
        have : ¬ (M < ((zs.map V.str).length : Int)) := fun z => e (decide_eq_true z)
        rw [List.length_map] at this
        omega)
      rw [e1, Bool.true_and] at hq
      refine ⟨_, rfl, p, rfl, ⟨_, hp⟩, fun D hD => ?_⟩
      refine lc_tup (xs := zs.map V.str) (fun j H2 => H2 D = some (.lst ((zs.take j).map fun z => V.bl (nameB z))) ∧ Same H H2) ⟨upd_same, fun b u e => by rw [upd_ne (ne_of_none e hD)]; exact e⟩ (fun j H2 _ hP => ?_) (fun j x H2 hj hP => ?_) (fun H2 hP => ?_)
      · rcases hp with (h | ⟨u, h⟩) | h
        · exact .inl (.inl (hP.2 _ _ h))
        · exact .inl (.inr ⟨u, hP.2 _ _ h⟩)
        · exact .inr h
      · obtain ⟨eD, sm⟩ := hP
        obtain ⟨z, hzj, rfl⟩ : ∃ z, zs[j]? = some z ∧ V.str z = x := by
          rw [List.getElem?_map] at hj
          cases e : zs[j]? with
          | none => rw [e] at hj; cases hj
          | some z => rw [e] at hj; exact ⟨z, rfl, by cases hj; rfl⟩
        refine ⟨rfl, _, rfl, _, rfl, .inl ⟨z, rfl, Nat.le_trans (hz z (List.mem_of_getElem? hzj)) (by decide)⟩, _, eD, ?_, ?_, fun b u e => by rw [upd_ne (ne_of_none e hD)]; exact sm b u e⟩
        · rw [List.length_map, List.length_take]
          exact Nat.lt_of_le_of_lt (Nat.le_trans (Nat.min_le_right _ _) hlen) (by decide)
        · rw [upd_same, List.take_add_one, hzj, List.map_append]
          rfl
      · obtain ⟨eD, sm⟩ := hP
        rw [List.length_map, List.take_length] at eD
        refine ⟨D, zs.map nameB, rfl, .inl (.inl (by rw [eD, List.map_map]; rfl)), _, rfl, ?_⟩
        have ea : (zs.map nameB).all id = zs.all nameB := by rw [List.all_map]; rfl
        rw [ea]
        cases hall : zs.all nameB with
        | false =>
          rw [hall, Bool.false_and] at hq
          exact hq _ sm
        | true =>
          rw [hall, Bool.true_and] at hq
          have hok : ∀ z ∈ zs, PyData.strOk z = true := fun z hz => names_low (List.all_eq_true.mp hall z hz)
          have hp2 : SqT K H2 p (zs.map V.str) := by
            rcases hp with (h | ⟨u, h⟩) | h
            · exact .inl (.inl (sm _ _ h))
            · exact .inl (.inr ⟨u, sm _ _ h⟩)
            · exact .inr h
          refine ⟨_, rfl, p, _, rfl, .inr hp2, fun l nl => ?_⟩
          have sm2 : Same H (upd H2 l (.lst (zs.map V.str))) := fun b u e => by rw [upd_ne (ne_of_none (sm b u e) nl)]; exact sm b u e
          have hp3 : SqT K (upd H2 l (.lst (zs.map V.str))) p (zs.map V.str) := by
            rcases hp with (h | ⟨u, h⟩) | h
            · exact .inl (.inl (sm2 _ _ h))
            · exact .inl (.inr ⟨u, sm2 _ _ h⟩)
            · exact .inr h
          refine ⟨_, rfl, p, zs, rfl, hp3, by omega, fun ys l2 hperm hsrt nl2 => ?_⟩
          refine ⟨.list (tD zs), .list (tD ys), ?_, ?_, shaped_texts hok, shaped_texts (fun z hz => hok z (hperm.mem_iff.mp hz)), ?_⟩
          · exact .lst (.inl (.inl (by rw [upd_ne (ne_of_none upd_same nl2), upd_same]))) (dp_texts zs)
          · exact .lst (.inl (.inl upd_same)) (dp_texts ys)
          · rw [PyData.eqv, eqv_texts, eq_sorted_iff hperm hsrt]
            exact hq _ (fun b u e => by rw [upd_ne (ne_of_none (sm2 b u e) nl2)]; exact sm2 b u e)
/-! ### _is_making of a making -/
end
end Kl

set_option maxRecDepth 100000
set_option maxHeartbeats 4000000
namespace Gx
open PySem PySem.Spec PyProof.Rows L2 PpSet
/-! ### {text for x in xs}, and its length -/
section
variable {P : Program} {w : World} {A : Around} {E : Value → Shared → Prop} {s : Shared} {a : Addr} {L : List Str}
theorem SetX.typeIs (R : SetX P w s.heap a L) : s.TypeIs (.ref a) "set" := by
  obtain ⟨ob, _, _, _, here, ex, _⟩ := R
  exact ⟨ob, here, ex.1⟩
theorem text_add {z : Str} {tk : Tok} {Q : Value → Shared → Prop} (R : SetX P w s.heap a L) (room : L.length + 1 < scanBound)
    (done : ∀ h2 t2, Heap.SameBut a s.heap h2 → SetX P w h2 a (L ++ [z]) → Q .none { s with heap := h2, toks := t2 }) : wpAny (model P w) A (call (.builtin "set.add") [.ref a, .str z tk]) Q E s := by
  refine wpAny_call_entry PySem.F.slot_set_add R.typeIs PySem.F.entry_set_add ?_ (PySem.F.args_set_add_2 (.ref a) (.str z tk))
  unfold Builtin.«set.add» Builtin.Frozenset.oneOther Builtin.Frozenset.addrOf setAdd
  simp only [List.isEmpty_nil, bind_assoc]
  refine wpAny_bind (m := pure _) (wpAny_pure ?_)
  refine wpAny_bind (m := pure _) (wpAny_pure ?_)
  dsimp only
  refine wpAny_bind (wpAny_holding (wpAny_bind ((PySem.strKind P w).pyHash (strKind_is P w z tk) ?_)))
  refine setX_add (s := { s with toks := s.toks + 1 }) R room fun h2 b2 keep new => ?_
  exact wpAny_pure ⟨Value.none, rfl, done h2 _ keep new⟩
end
section
variable {X : Cx}
theorem setO_ok {P : Program} {w : World} {G : Hp} {h : Heap} {D : Addr} {L : List Str} (R : SetX P w h D L) : ObjOk P w G h D (SetO' P w D L) := by
  obtain ⟨ob, e⟩ : ∃ ob, h.get? D = some ob := by
    obtain ⟨ob, _, _, _, e, _⟩ := id R
    exact ⟨ob, e⟩
  exact ⟨R, ⟨ob, e⟩, fun _ _ p k => SetX.at p k⟩
/-- .add of a text, in the description of the heap -/
theorem add_text {pins : List (Addr × Obj)} {σ : L2.St} {G : Hp} {s : Shared} {E : Value → Shared → Prop} {D : Addr} {L : List Str} {z : Str} {tk : Tok} {Q : Value → Shared → Prop} (J : Inv X pins σ G s) (hD : G D = some (SetO' X.prog X.w D L)) (room : L.length + 1 < scanBound)
    (done : ∀ s2, Inv X pins σ (upd G D (SetO' X.prog X.w D (L ++ [z]))) s2 → Q .none s2) : wpAny (model X.prog X.w) X.A (call (.builtin "set.add") [.ref D, .str z tk]) Q E s := by
  have R : SetX X.prog X.w s.heap D L := (J.hok D _ hD).1
  refine text_add R room fun h2 t2 keep new => done _ ?_
  obtain ⟨ob, _, _, _, e, _⟩ := id new
  exact J.write (e := D) (t' := t2) (by rw [hD]; trivial) (.inl rfl) (fun b u nb eb => (keep.2 b nb).trans eb) ⟨ob, e⟩ (setO_ok new)
/-- {elt for target in iter if ..}, elt a text: D the new set, L what was put in, in this order -/
def tScX (P : Program) (w : World) (wi : TI) (g : TG) (tt : TT) (te : TE) (vs : List Nat) : TE := fun σ G Q => wi σ G fun J G1 => ∀ D, G1 D = none → ∃ V : Nat → Nat → Hp → Prop, (∃ m, V 0 m (upd G1 D (SetO' P w D []))) ∧ ∀ i m G, V i m G →
  (J.stop i G ∧ Q (.ref D) G) ∨ (J.go i G ∧ ∃ Nx : Hp → Prop, (∀ G', Nx G' → ∃ m', m' < m ∧ V (i + 1) m' G') ∧ ∀ x G', J.yld i G x G' → g x (wipe σ vs) G' fun σ2 G2 => wipe σ2 vs = wipe σ vs ∧ tt σ2 G2 fun b G3 =>
    if b = true then te σ2 G3 fun y G4 => ∃ (z : Str) (L : List Str), y = .str z ∧ G4 D = some (SetO' P w D L) ∧ L.length + 1 < scanBound ∧ Nx (upd G4 D (SetO' P w D (L ++ [z]))) else Nx G3)
theorem scX_core {pins : List (Addr × Obj)} {s : Shared} {σ : L2.St} {G : Hp} {Q : VK} {elt tg iter : Expr} {ifs : List Expr} {scope : Scope} {own : List (Str × Nat)} {pos pos' : Pos} {wi : TI} {g : TG} {tt : TT} {te : TE} {use : Option (Value → Sem Unit)} {Qf : Value → Shared → Prop}
    (hc : X.calm = true) (nd : X.N.Nodup) (inv : Inv X pins σ G s) (hi : PI X tg iter wi) (ok : BlkOk X.N X.env.scope scope own)
    (hg : ∀ (s : Shared) (G : Hp) (C : Addr) (cl : List (Str × Addr)) (fp : List Addr), PG (X.blk s G scope (compEnvC scope cl C X.env) fp) tg g) (ht : ∀ (s : Shared) (G : Hp) (C : Addr) (cl : List (Str × Addr)) (fp : List Addr), PTs (X.blk s G scope (compEnvC scope cl C X.env) fp) ifs tt)
    (he : ∀ (s : Shared) (G : Hp) (C : Addr) (cl : List (Str × Addr)) (fp : List Addr), PE (X.blk s G scope (compEnvC scope cl C X.env) fp) elt te) (hs : ∀ x, foldedSetIterable iter X.env x = pure x)
    (want : tScX X.prog X.w wi g tt te (own.map (·.2)) σ G Q)
    (after : ∀ D C s' m G', Inv X pins σ G' s' → Q (.ref D) G' → s'.heap.Ns C m → FpOk X pins G' C → compPost (model X.prog X.w) X.A X.xe use Qf (.ref D) C (.ok .next) s') :
    wpAny (model X.prog X.w) X.A (comprehension (.SetComp elt [⟨tg, iter, ifs, 0⟩] scope pos) scope X.env pos' (newSet (.type "set")) false (eval iter X.env) use) Qf X.xe s := by
  have cells : ∀ y ∈ scope.names, y.2 = .free → ∃ c, X.env.cells.lookup y.1 = some c := by
    intro y hy e
    rcases ok.free y hy e with k | k
    · exact inv.ok.has _ (.inl k)
    · exact inv.ok.has _ (.inr k)
  have uniq : ∀ y ∈ scope.names, y.2 = .local → scope.names.lookup y.1 = some .local := fun y hy e => by
    have k := ok.uniq y hy
    rw [e] at k
    exact k
  refine wpAny_comprehension_free (use := use) rfl hs (closure_ok cells) ok.kind uniq (thn (hi.run pins s σ G _ inv want) fun xv s1 hx => thn hx fun itv s2 h2 => ?_)
  obtain ⟨it, fp, tn, J, G2, rfl, inv2, turns, at2, free2, rest⟩ := h2
  refine newSet_ok (newEnv_comp ?_)
  generalize eD : s2.heap.objs.size = D
  have noD : G2 D = none := inv2.hok.fresh (Nat.le_of_eq eD)
  obtain ⟨V, ⟨m0, v0⟩, turn⟩ := rest D noD
  -- the set is laid
  generalize es3 : ({ s2 with heap := s2.heap.push { cls := .type "set", dict := none, data := .set #[] 0 (.fresh 0 0 (!X.w.params.followText "set-order")) } } : Shared) = s3
  have hp3 : s3.heap = s2.heap.push { cls := .type "set", dict := none, data := .set #[] 0 (.fresh 0 0 (!X.w.params.followText "set-order")) } := by rw [← es3]
  have inv3 : Inv X pins σ (upd G2 D (SetO' X.prog X.w D [])) s3 := by
    rw [← es3]
    refine inv2.laid (t' := s2.toks) (fun b o e => Heap.get?_push_of_some _ e) (Nat.le_of_eq eD) ?_
    rw [← eD]
    exact setO_ok setX_fresh
  have low : ∀ b ∈ fp, b < s2.heap.objs.size := by
    intro b hb
    obtain ⟨o, e, _⟩ := turns.obj _ _ at2 b hb
    exact Heap.lt_size e
  have free3 : ∀ b ∈ fp, FpOk X pins (upd G2 D (SetO' X.prog X.w D [])) b ∧ b < s3.heap.objs.size := by
    intro b hb
    have lt := low b hb
    have ne : b ≠ D := by
      rw [← eD]
      exact Nat.ne_of_lt lt
    refine ⟨⟨by rw [upd_ne ne]; exact (free2 b hb).1, (free2 b hb).2⟩, ?_⟩
    rw [hp3, Heap.size_push]
    exact Nat.lt_succ_of_lt lt
  have at3 : tn 0 s3.heap := turns.keep _ _ _ at2 fun b _ o e => by
    rw [hp3]
    exact Heap.get?_push_of_some _ e
  have inv4 := block_start inv3 ok nd free3
  have pg := hg s3 (upd G2 D (SetO' X.prog X.w D [])) s3.heap.objs.size (cellsFrom (s3.heap.objs.size + 1) scope.names (cloFrom X.env.cells scope.names [])) fp
  have pt := ht s3 (upd G2 D (SetO' X.prog X.w D [])) s3.heap.objs.size (cellsFrom (s3.heap.objs.size + 1) scope.names (cloFrom X.env.cells scope.names [])) fp
  have pe := he s3 (upd G2 D (SetO' X.prog X.w D [])) s3.heap.objs.size (cellsFrom (s3.heap.objs.size + 1) scope.names (cloFrom X.env.cells scope.names [])) fp
  have none3 : ∀ b ∈ fp, (upd G2 D (SetO' X.prog X.w D [])) b = none := fun b hb => (free3 b hb).1.1
  show codeAny _ _ (.compStart (.SetComp elt [⟨tg, iter, ifs, 0⟩] scope pos) 0 (.ref it) (.ref D) (compEnvC scope (cellsFrom (s3.heap.objs.size + 1) scope.names (cloFrom X.env.cells scope.names [])) s3.heap.objs.size X.env))
    (compPost (model X.prog X.w) X.A X.xe use Qf (.ref D) s3.heap.objs.size) { s3 with heap := pushCells (s3.heap.push { cls := .type "dict", data := .dict #[] }) scope.names }
  generalize en : compEnvC scope (cellsFrom (s3.heap.objs.size + 1) scope.names (cloFrom X.env.cells scope.names [])) s3.heap.objs.size X.env = inner at inv4 pg pt pe ⊢
  have own1 : inner.locals = s3.heap.objs.size := by
    subst en
    rfl
  generalize eG3 : upd G2 D (SetO' X.prog X.w D []) = G3 at inv3 inv4 pg pt pe v0 none3 free3
  generalize es4 : ({ s3 with heap := pushCells (s3.heap.push { cls := .type "dict", data := .dict #[] }) scope.names } : Shared) = s4 at inv4 ⊢
  have at4 : tn 0 s4.heap := turns.keep _ _ _ at3 fun b _ o e => by
    rw [← es4]
    exact pushCells_keeps _ _ _ _ (Heap.get?_push_of_some _ e)
  have quiet : ∀ {σ' : L2.St} {G' : Hp} {s' : Shared}, Inv (X.blk s3 G3 scope inner fp) [] σ' G' s' → (∀ b ∈ fp, G' b = none) → ∀ b ∈ fp, FpOk (X.blk s3 G3 scope inner fp) [] G' b := by
    intro σ' G' s' J' hn b hb
    refine ⟨hn b hb, (J'.ok.exf b hb).1, J'.ok.exfs b hb, .inl hb, fun x c e => (J'.ok.exf b hb).2 x c e, fun p hp => ?_⟩
    exact absurd (show p ∈ ([] : List (Addr × Obj)) ++ [] from hp) (by simp)
  refine (fun loop => codeAny_compStart_set loop (turns.self X.A 0 _ _ _ at4 loop)) ?_
  refine compLoopS_any (fun n s' => ∃ i G', Inv (X.blk s3 G3 scope inner fp) [] (wipe σ (own.map (·.2))) G' s' ∧ tn i s'.heap ∧ (∀ b ∈ fp, G' b = none) ∧ V i n G') ?_ m0 ⟨0, G3, inv4, at4, none3, v0⟩
  rintro n s5 ⟨i, G5, inv5, at5, none5, v5⟩
  rcases turn i n G5 v5 with ⟨stop, qq⟩ | ⟨go, Nx, small, step⟩
  · -- no item is left
    refine thnF (turns.done (X.blk s3 G3 scope inner fp) rfl rfl rfl hc i [] s5 _ G5 (fun _ _ => False) inv5 (quiet inv5 none5) at5 stop) fun r s6 ⟨hr, inv6⟩ => ?_
    subst hr
    have back : Inv X pins σ G5 s6 := inv3.call' (ch := fp) inv6.os inv6.base inv6.hok inv6.bare fun b hb => ⟨(free3 b hb).1.2.2.2.1, (free3 b hb).1.2.1, (free3 b hb).1.2.2.2.2.1, (free3 b hb).1.2.2.2.2.2⟩
    have noC : G5 s3.heap.objs.size = none := by
      have k : G5 inner.locals = none := inv6.free
      rwa [own1] at k
    obtain ⟨m, ns, _⟩ := inv6.loc
    have ns' : s6.heap.Ns inner.locals m := ns
    rw [own1] at ns'
    exact after D s3.heap.objs.size s6 m G5 back qq ns' (inv3.fpOk (Nat.le_refl _) noC)
  · -- one item more
    refine thnF (turns.item (X.blk s3 G3 scope inner fp) rfl rfl rfl hc i [] s5 _ G5 (fun _ _ => False) inv5 (quiet inv5 none5) at5 go) fun r s6 ⟨u, hr, h6⟩ => ?_
    subst hr
    refine thnF h6 fun _ s7 ⟨x, G7, inv7, rel7, y7, at7, none7⟩ => ?_
    have pinned := inv7.pinned (quiet inv7 none7) (turns.obj _ _ at7)
    refine thnF (pg.run _ s7 _ G7 x u _ pinned rel7 (step x G7 y7)) fun _ s8 ⟨σ8, G8, inv8, same8, q8⟩ => ?_
    refine thnF (pt.run _ s8 σ8 G8 _ inv8 q8) fun b s9 ⟨G9, inv9, q9⟩ => ?_
    have over : ∀ {s' : Shared} {G' : Hp}, Inv (X.blk s3 G3 scope inner fp) ([] ++ pinsAt fp s7.heap) σ8 G' s' → Nx G' → ∃ m, m < n ∧ ∃ i G', Inv (X.blk s3 G3 scope inner fp) [] (wipe σ (own.map (·.2))) G' s' ∧ tn i s'.heap ∧ (∀ b ∈ fp, G' b = none) ∧ V i m G' := by
      intro s' G' J' nx
      obtain ⟨m', lt, v'⟩ := small G' nx
      have held : ∀ b ∈ fp, ∀ o, s7.heap.get? b = some o → s'.heap.get? b = some o ∧ G' b = none := by
        intro b hb o e
        have k := J'.pin (b, o) (List.mem_append_right _ (List.mem_append_right _ (mem_pinsAt hb e)))
        exact ⟨k.1, k.2.1⟩
      have len : (wipe σ (own.map (·.2))).length = σ8.length := by
        rw [← same8]
        exact wipe_length ..
      refine ⟨m', lt, i + 1, G', (J'.unpinned (pins := [])).weak len (fun j v e => ?_), turns.keep _ _ _ at7 fun b hb o e => (held b hb o e).1, fun b hb => ?_, v'⟩
      · rw [← same8] at e
        exact (wipe_some e).1
      · obtain ⟨o, e, _⟩ := turns.obj _ _ at7 b hb
        exact (held b hb o e).2
    cases b with
    | false =>
      rw [if_neg (by decide)] at q9
      rw [if_neg (by decide)]
      exact over inv9 q9
    | true =>
      rw [if_pos rfl] at q9
      rw [if_pos rfl]
      refine thnF (pe.run _ s9 σ8 G9 _ inv9 q9) fun val s10 ⟨y, G10, inv10, rel10, z, L, ey, atD, few, nx⟩ => ?_
      subst ey
      obtain ⟨tk, rfl⟩ := rel10
      exact add_text (X := X.blk s3 G3 scope inner fp) inv10 atD few fun s11 inv11 => over inv11 nx
/-- .. as a value -/
theorem pe_scX {elt tg iter : Expr} {ifs : List Expr} {scope : Scope} {own : List (Str × Nat)} {pos : Pos} {wi : TI} {g : TG} {tt : TT} {te : TE} (hc : X.calm = true) (nd : X.N.Nodup) (hi : PI X tg iter wi) (ok : BlkOk X.N X.env.scope scope own)
    (hg : ∀ (s : Shared) (G : Hp) (C : Addr) (cl : List (Str × Addr)) (fp : List Addr), PG (X.blk s G scope (compEnvC scope cl C X.env) fp) tg g) (ht : ∀ (s : Shared) (G : Hp) (C : Addr) (cl : List (Str × Addr)) (fp : List Addr), PTs (X.blk s G scope (compEnvC scope cl C X.env) fp) ifs tt)
    (he : ∀ (s : Shared) (G : Hp) (C : Addr) (cl : List (Str × Addr)) (fp : List Addr), PE (X.blk s G scope (compEnvC scope cl C X.env) fp) elt te) (hs : ∀ x, foldedSetIterable iter X.env x = pure x := by intro _; rfl) :
    PE X (.SetComp elt [⟨tg, iter, ifs, 0⟩] scope pos) (tScX X.prog X.w wi g tt te (own.map (·.2))) := by
  refine ⟨fun pins s σ G Q inv want => ?_⟩
  rw [eval_SetComp]
  refine scX_core hc nd inv hi ok hg ht he hs want fun D C s' m G' inv' q ns f => ⟨m, ns, fun h2 sb => ?_⟩
  obtain ⟨f0, f1, _, f3, f4, f5⟩ := f
  exact ⟨.ref D, G', inv'.turned (t' := s'.toks) (fun b o hb e => (sb.2 b hb).trans e) f0 f1 f3 f4 f5, rfl, q⟩
/-- len of a set of texts that came once each -/
theorem cr_lenX : CallR X (.builtin "len") (fun xs G Q => ∃ (a : Addr) (L : List Str), xs = [.ref a] ∧ G a = some (SetO' X.prog X.w a L) ∧ L.Nodup ∧ L.length ≤ 1000 ∧ Q (.int (L.length : Nat)) G) := by
  intro pins s σ G xs us Q inv r want
  obtain ⟨a, L, rfl, ea, nd, few, q⟩ := want
  rw [Vals.ref1 r]
  obtain ⟨ob, ms, ep, tb, here, ex, dt, _, nd2, mem, _, ft, _⟩ : SetX X.prog X.w s.heap a L := (inv.hok a _ ea).1
  have size : ms.size = L.length := by
    have p := ((List.perm_ext_iff_of_nodup nd nd2).mpr mem).length_eq
    rw [List.length_map, Array.length_toList] at p
    exact p.symm
  refine call_len_set here ex dt ft (by rw [size]; omega) ⟨.int (L.length : Nat), G, inv.tok _, ⟨_, by rw [size]⟩, q⟩
/-- over any walk -/
theorem sc_it {P : Program} {w : World} {J : It} {n : Nat} {C : Hp → Prop} {Y : Nat → Hp → V → Hp → Prop} (k : Walk J n C Y) {g : TG} {tt : TT} {te : TE} {vs : List Nat} {σ : L2.St} {G1 : Hp} {D : Addr} {Qd : Hp → Prop} (Pv : Nat → Hp → Prop) (h0 : Pv 0 (upd G1 D (SetO' P w D [])))
    (hC : ∀ i G, i ≤ n → Pv i G → C G)
    (hs : ∀ i x G G', i < n → Pv i G → Y i G x G' → g x (wipe σ vs) G' fun σ2 G2 => wipe σ2 vs = wipe σ vs ∧ tt σ2 G2 fun b G3 =>
      if b = true then te σ2 G3 fun y G4 => ∃ (z : Str) (L : List Str), y = .str z ∧ G4 D = some (SetO' P w D L) ∧ L.length + 1 < scanBound ∧ Pv (i + 1) (upd G4 D (SetO' P w D (L ++ [z]))) else Pv (i + 1) G3) (hd : ∀ G, Pv n G → Qd G) :
    ∃ V : Nat → Nat → Hp → Prop, (∃ m, V 0 m (upd G1 D (SetO' P w D []))) ∧ ∀ i m G, V i m G →
      (J.stop i G ∧ Qd G) ∨ (J.go i G ∧ ∃ Nx : Hp → Prop, (∀ G', Nx G' → ∃ m', m' < m ∧ V (i + 1) m' G') ∧ ∀ x G', J.yld i G x G' → g x (wipe σ vs) G' fun σ2 G2 => wipe σ2 vs = wipe σ vs ∧ tt σ2 G2 fun b G3 =>
        if b = true then te σ2 G3 fun y G4 => ∃ (z : Str) (L : List Str), y = .str z ∧ G4 D = some (SetO' P w D L) ∧ L.length + 1 < scanBound ∧ Nx (upd G4 D (SetO' P w D (L ++ [z]))) else Nx G3) := by
  refine ⟨fun i m G => m = n - i ∧ i ≤ n ∧ Pv i G, ⟨n, rfl, Nat.zero_le n, h0⟩, ?_⟩
  rintro i m G ⟨rfl, le, p⟩
  have c := hC i G le p
  rcases Nat.lt_or_eq_of_le le with lt | rfl
  · exact .inr ⟨k.goes i G lt c, Pv (i + 1), fun G' p' => ⟨n - (i + 1), by omega, rfl, lt, p'⟩, fun x G' y => hs i x G G' lt p (k.yields i G x G' lt c y)⟩
  · exact .inl ⟨k.stops G c, hd G p⟩
end
end Gx

set_option maxRecDepth 100000
set_option maxHeartbeats 4000000
namespace Gx
open PySem PySem.Spec PyProof.Rows L2
/-! ### len of a set of texts, some of them alike -/
theorem nodup_le : ∀ {ms L : List Str}, ms.Nodup → (∀ z ∈ ms, z ∈ L) → ms.length ≤ L.length
  | [], _, _, _ => Nat.zero_le _
  | x :: ms, L, nd, h => by
    obtain ⟨n1, n2⟩ := List.nodup_cons.mp nd
    have hx := h x List.mem_cons_self
    have ih := nodup_le (L := L.erase x) n2 fun z hz => (List.mem_erase_of_ne fun e => n1 (by rw [← e]; exact hz)).mpr (h z (List.mem_cons_of_mem _ hz))
    rw [List.length_erase_of_mem hx] at ih
    have := List.length_pos_of_mem hx
    rw [List.length_cons]
    omega
theorem nodup_back : ∀ {L ms : List Str}, ms.Nodup → (∀ z, z ∈ ms ↔ z ∈ L) → ms.length = L.length → L.Nodup
  | [], _, _, _, _ => List.nodup_nil
  | x :: L, ms, nd, e, hl => by
    rw [List.length_cons] at hl
    have hx : x ∈ ms := (e x).mpr List.mem_cons_self
    by_cases c : x ∈ L
    · have := nodup_le nd fun z hz => by
        rcases List.mem_cons.mp ((e z).mp hz) with rfl | h
        · exact c
        · exact h
      omega
    · refine List.nodup_cons.mpr ⟨c, nodup_back (ms := ms.erase x) (nd.erase x) (fun z => ?_) (by rw [List.length_erase_of_mem hx]; omega)⟩
      rw [nd.mem_erase_iff, e, List.mem_cons]
      constructor
      · rintro ⟨h1, h2⟩
        exact h2.resolve_left h1
      · intro h
        exact ⟨fun q => c (by rw [← q]; exact h), .inr h⟩
theorem cr_lenX2 {X : Cx} : CallR X (.builtin "len") (fun xs G Q => ∃ (a : Addr) (L : List Str), xs = [.ref a] ∧ G a = some (SetO' X.prog X.w a L) ∧ L.length ≤ 1000 ∧ ∀ m : Nat, m ≤ L.length → (m = L.length ↔ L.Nodup) → Q (.int (m : Nat)) G) := by
  intro pins s σ G xs us Q inv r want
  obtain ⟨a, L, rfl, ea, few, q⟩ := want
  rw [Vals.ref1 r]
  obtain ⟨ob, ms, ep, tb, here, ex, dt, _, nd2, mem, _, ft, _⟩ : SetX X.prog X.w s.heap a L := (inv.hok a _ ea).1
  have sz : (ms.toList.map txE).length = ms.size := by rw [List.length_map, Array.length_toList]
  have mem2 : ∀ z, z ∈ ms.toList.map txE ↔ z ∈ L := fun z => (mem z).symm
  have le : ms.size ≤ L.length := by
    rw [← sz]
    exact nodup_le nd2 fun z hz => (mem2 z).mp hz
  refine call_len_set here ex dt ft (by omega) ⟨.int (ms.size : Nat), G, inv.tok _, ⟨_, rfl⟩, q ms.size le ⟨fun h => nodup_back nd2 mem2 (by rw [sz]; exact h), fun h => ?_⟩⟩
  have p := ((List.perm_ext_iff_of_nodup h nd2).mpr mem).length_eq
  rw [sz] at p
  exact p.symm
end Gx

set_option maxRecDepth 100000
set_option maxHeartbeats 4000000
namespace Gx
open PySem PySem.Spec PyProof.Rows L2
/-! ### isinstance(d, T), list(d.values()) -/
section
variable {X : Cx} {P : Program} {w : World} {K : PySem.W.Frag}
def rIsiN (P : Program) (w : World) (K : PySem.W.Frag) : List V → Hp → VK → Prop := fun xs H Q => ∃ (a : Addr) (L : NL) (c : V) (u : Value) (b : Bool), xs = [.ref a, c] ∧ ClsV c u ∧ Rd H a (DN P w a L) ∧ PySem.W.kitOne K (.type "dict") u = some b ∧ Q (.bl b) H
theorem call_isiN (hx : XI X P w K) : CallR X (.builtin "isinstance") (rIsiN P w K) := by
  obtain ⟨rfl, rfl, rfl⟩ := hx
  intro pins s σ H xs us Q I r h
  obtain ⟨a, L, c, u, b, rfl, k, hd, e, q⟩ := h
  obtain ⟨u1, u2, rfl, r1, r2⟩ := vals2 r
  have e2 := k.eq r2
  subst e2
  obtain rfl : u1 = Value.ref a := r1
  obtain ⟨o, h1, h2⟩ := (n_type I hd).1
  exact PySem.W.kia_one PySem.W.kitx_dict I.kIn ⟨o, h1, h2⟩ e (fun z => nomatch z) fun tk => ⟨.bl b, H, I.tok tk, rfl, q⟩
end
section
variable {X : Cx} {P : Program} {w : World} {K : PySem.W.Frag} {e : Expr} {te : TE} {p apos cpos pos : Pos}
def tListValsN (P : Program) (w : World) (te : TE) : TE := fun σ G Q => te σ G fun x G1 => ∃ (d : Addr) (L : NL), x = .ref d ∧ Rd G1 d (DN P w d L) ∧ ∀ l, G1 l = none → Q (.ref l) (upd G1 l (.lst (L.map fun x => x.2.2)))
theorem pe_listValsN (hx : XI X P w K) (hc : X.calm = true) (he : PE X e te) (hg : Gl X "list") (hm : X.mg "list" = none) (hv : bootBuiltins "list" = some (.type "list")) (hbase : attributeBase e "values" X.env (eval e X.env) = eval e X.env := by rfl) (hline : (apos.endLine == cpos.line) = true := by rfl)
    (hs : starEach [.Call (.Attribute e "values" apos) [] [] cpos] X.env = (false, eval (.Call (.Attribute e "values" apos) [] [] cpos) X.env) :: starEach [] X.env := by rfl) :
    PE X (.Call (.Name "list" p) [.Call (.Attribute e "values" apos) [] [] cpos] [] pos) (tListValsN P w te) := by
  obtain ⟨rfl, rfl, rfl⟩ := hx
  refine ⟨fun pins s σ G Q inv want => wpAny_Call_Name_kw (ld_blt inv hg hm hv (PyProof.Rows.callWith_type1 ?_ hs rfl))⟩
  rw [hs]
  refine (fun k => Calls.spliced_cons k) (wpAny_Call_method0_late hbase hline (thn (he.run pins s σ G _ inv want) fun v s1 ⟨x, G1, inv1, r1, d, L, ex, hd, q⟩ => ?_))
  subst ex
  obtain rfl : v = Value.ref d := r1
  obtain ⟨z, low, es, ep, raw, hsz, ent⟩ := n_raw inv1 hd
  obtain ⟨t1, t2⟩ := n_type inv1 hd
  refine ⟨"dict", "dict.values", PySem.F.plainAttrs_dict, PySem.F.slot_dict_values, PySem.F.type_dict_values, t1, t2, Calls.callWith_builtin rfl (PySem.evalArgs_none ?_)⟩
  refine call_meetsIn PySem.F.slot_dict_values t1 PySem.F.entry_dict_values (PySem.F.args_dict_values_1 _) (meets_dict_values_raw d low) ⟨⟨es, ep, raw⟩, ?_⟩
  have inv2 : Inv X pins σ G1 { s1 with heap := s1.heap.push { cls := .type "dict_values", data := .fields #[.ref d] } } := inv1.kept (t' := s1.toks) fun b o eb => Heap.get?_push_of_some _ eb
  refine Calls.spliced_nil ?_
  refine PySem.W.kdl_call (KdlSrc.rawValues (r := s1.heap.objs.size) (d := d) (es := es) (ep := ep)) (inv1.ok.hd hc) ⟨⟨_, Heap.get?_push_size _ rfl, rfl, rfl⟩, raw.push _⟩ (by rw [hsz]; exact z) fun h2 tk acc c keep at2 all => ?_
  have fresh := inv2.hok.fresh (Nat.le_refl _)
  refine ⟨.ref _, upd G1 _ (.lst (L.map fun x => x.2.2)), inv2.laid (t' := tk) keep (Nat.le_refl _) ?_, rfl, q _ fresh⟩
  refine ⟨by rw [List.length_map]; exact z, acc.toList, c, ?_, by rw [Array.toArray_toList]; exact at2⟩
  have hl : acc.toList.length = L.length := by rw [Array.length_toList, all.1, hsz]
  have pt : ∀ (j : Nat) (x : NestedKey × Addr × V), L[j]? = some x → ∃ u, acc.toList[j]? = some u ∧ RelV x.2.2 u := fun j x hj => by
    obtain ⟨en, e1, _, e3⟩ := ent j x hj
    have hlt : j < acc.size := by
      have : j < L.length := (List.getElem?_eq_some_iff.mp hj).1
      rw [all.1, hsz]
      exact this
    obtain ⟨hi, e4⟩ := all.2 j _ (Array.getElem?_eq_getElem hlt)
    refine ⟨acc[j], by rw [Array.getElem?_toList]; exact Array.getElem?_eq_getElem hlt, ?_⟩
    rw [e4]
    rw [Array.getElem?_eq_getElem hi] at e1
    rw [Option.some.inj e1]
    exact e3
  have build : ∀ (L : NL) (us : List Value), us.length = L.length → (∀ (j : Nat) (x : NestedKey × Addr × V), L[j]? = some x → ∃ u, us[j]? = some u ∧ RelV x.2.2 u) → Vals (L.map fun x => x.2.2) us := by
    intro L
    induction L with
    | nil => intro us h _; cases us with
      | nil => exact .nil
      | cons _ _ => simp at h
    | cons x L ih =>
      intro us h hp
      cases us with
      | nil => simp at h
      | cons u us =>
        obtain ⟨u0, e0, r0⟩ := hp 0 x rfl
        cases Option.some.inj e0
        exact .cons r0 (ih us (by simpa using h) fun j y hj => by simpa using hp (j + 1) y (by simpa using hj))
  exact build L acc.toList hl pt
end
end Gx

set_option maxRecDepth 100000
set_option maxHeartbeats 4000000
namespace Kl
open PySem PySem.Spec PyProof.Rows L2 Gx Mx
theorem ty_sq {K : PySem.W.Frag} {G : Hp} {a : Addr} {zs : List V} (hp : SqT K G a zs) : TyX K G (.ref a) (.type "tuple") := by
  rcases id hp with (h | ⟨o, h⟩) | ⟨o, its, m, h, c, _⟩
  · exact .base (.tup h)
  · exact .fTuple h
  · exact .kTuple h c
theorem same_new {H H1 : Hp} {p : Addr} {o : HO} (s : Same H H1) (n : H1 p = none) : Same H (upd H1 p o) := fun b u e => by
  rw [upd_ne (ne_of_none (s b u e) n)]
  exact s b u e
theorem sqT_same {K : PySem.W.Frag} {H H' : Hp} {a : Addr} {xs : List V} (s : Same H H') (h : SqT K H a xs) : SqT K H' a xs := by
  rcases h with (h | ⟨o, h⟩) | h
  · exact .inl (.inl (s _ _ h))
  · exact .inl (.inr ⟨o, s _ _ h⟩)
  · exact .inr h
theorem keyA_same {K : PySem.W.Frag} {H H' : Hp} {a : Addr} {k : NestedKey} (s : Same H H') (h : KeyA K H a k) : KeyA K H' a k := h.mono fun _ _ q => sqT_same s q
section
variable {P : Program} {w : World} {K : PySem.W.Frag} {mg : Str → Option Value} {base : Heap}
/-! ### is_digit, _is_ascending, _is_place -/
def digB (zs : List Str) : Bool := decide ((zs.length : Int) ≤ 3) && (zs.all nameB && sortedS zs)
def ascB (zs : List Str) : Bool := (zs.all nameB && sortedS zs) && (decide (0 < zs.length) && decide zs.Nodup)
def spDig (K : PySem.W.Frag) : Sp := fun vs H Q _ => ∃ (p : Addr) (zs : List Str), vs = [.ref p] ∧ SqT K H p (zs.map V.str) ∧ zs.length ≤ 1000 ∧ (∀ z ∈ zs, z.length ≤ 1000) ∧ ∀ H', Same H H' → Q (.bl (digB zs)) H'
theorem ok_dig {f : Addr} {fd : FuncData} (F : Fun K "is_digit" "is_digit" s_is_digit f fd) (T : Top K mg) : FnOk P w K mg base CX0 4 f fd ["value"] (spDig K) := by
  obtain ⟨tm, gm⟩ := T.g_MAX_DIGIT
  have cs : CalO P w K mg base 3 "is_sorted" ["value", "most"] 1 ["most"] (fun vs zs => vs ++ zs) (spSorted K) := T.d_is_sorted.calO fun f fd F => ok_sorted F T
  refine F.ok sc_is_digit (fun vs H Q E h => ?_) (fun cdv A outer s H vs Q E hr h => ?_)
  · obtain ⟨p, zs, rfl, _⟩ := h
    rfl
  · obtain ⟨p, zs, rfl, hp, hl, hz, q⟩ := h
    refine ⟨_, pss_one (ps_ret (pe_calO cs hr (by rfl) (pa_cons (pv 0) pa_nil) (pk_cons (pe_glob (v := .int 3) (by rfl) gm ⟨_, rfl⟩) pk_nil))), ?_⟩
    exact ⟨_, rfl, rfl, rfl, p, zs, 3, rfl, hp, ty_sq hp, by decide, by decide, hl, hz, q⟩
/-- a tuple of texts, or None -/
def spAsc (K : PySem.W.Frag) : Sp := fun vs H Q _ => ∃ (p : Addr) (zs : List Str), vs = [.ref p] ∧ SqT K H p (zs.map V.str) ∧ zs.length ≤ 100 ∧ (∀ z ∈ zs, z.length ≤ 1000) ∧ ∀ H', Same H H' → Q (.bl (ascB zs)) H'
theorem ok_asc {f : Addr} {fd : FuncData} (F : Fun K "_is_ascending" "_is_ascending" s_is_ascending f fd) (T : Top K mg) : FnOk P w K mg base CX0 4 f fd ["value"] (spAsc K) := by
  have cs : CalO P w K mg base 3 "is_sorted" ["value", "most"] 1 ["most"] (fun vs zs => vs ++ zs) (spSorted K) := T.d_is_sorted.calO fun f fd F => ok_sorted F T
  refine F.ok sc_is_ascending (fun vs H Q E h => ?_) (fun cdv A outer s H vs Q E hr h => ?_)
  · obtain ⟨p, zs, rfl, _⟩ := h
    rfl
  · obtain ⟨p, zs, rfl, hp, hl, hz, q⟩ := h
    refine ⟨_, pss_cons (ps_if (PW.pt (pw_or (pt_not (pt_val (pe_callB call_isi (by rfl) T.b_isinstance (by decide +kernel) (pa_cons (pv 0) (pa_cons (pe_bltn (v := .ty "tuple") (by rfl) T.b_tuple (by decide +kernel) rfl) pa_nil)))))
        (pw_or1 (pt_not (pt_val (pe_calO cs hr (by rfl) (pa_cons (pv 0) pa_nil) (pk_cons (pe_callB call_len_seq (by rfl) T.b_len PySem.boot_len (pa_cons (pv 0) pa_nil)) pk_nil))))))) (pss_one (ps_ret pe_bl)) pss_nil)
      (pss_one (ps_ret (pe_and (pe_cmpR op_gt (pe_callB call_len_seq (by rfl) T.b_len PySem.boot_len (pa_cons (pv 0) pa_nil)) pe_int (nomark _))
        (pe_one (pe_cmpR op_eq (pe_callB cr_lenX2 (by rfl) T.b_len PySem.boot_len (pa_cons (pe_callTy (cr_setXT rfl) (by rfl) T.b_set (by decide +kernel) (pa_cons (pv 0) pa_nil)) pa_nil)) (pe_callB call_len_seq (by rfl) T.b_len PySem.boot_len (pa_cons (pv 0) pa_nil)) (nomark _)))))), ?_⟩
    refine ⟨_, rfl, _, .ty "tuple", .type "tuple", .type "tuple", true, rfl, .ty _, ty_sq hp, kit_ty (by decide +kernel), true, rfl, ?_⟩
    refine ⟨_, rfl, _, rfl, p, _, rfl, .inr hp, rfl, rfl, p, zs, _, rfl, hp, ty_sq hp, by omega, by rw [List.length_map]; omega, by omega, hz, fun H1 s1 => ⟨_, rfl, ?_⟩⟩
    have e0 : decide ((zs.length : Int) ≤ ((zs.map V.str).length : Int)) = true := decide_eq_true (by rw [List.length_map]; omega)
    rw [e0, Bool.true_and]
    refine ite2 (fun e => ?_) (fun e => ?_)
    · have eb : ascB zs = false := by
        unfold ascB
        rw [(Bool.not_eq_true' _).mp e, Bool.false_and]
      rw [eb] at q
      exact q H1 s1
    · have eb : ascB zs = (decide (0 < zs.length) && decide zs.Nodup) := by
        unfold ascB
        rw [show (zs.all nameB && sortedS zs) = true from by
          cases c : (zs.all nameB && sortedS zs) with
          | true => rfl
          | false => exact absurd (by rw [c]; rfl) e, Bool.true_and]
      refine ⟨_, rfl, p, _, rfl, .inr (sqT_same s1 hp), _, _, rfl, rfl, ?_⟩
      rw [List.length_map]
      have hs1 : SqT K H1 p (zs.map V.str) := sqT_same s1 hp
      refine ⟨_, rfl, ite2 (fun e2 => ?_) (fun e2 => ?_)⟩
      · refine ⟨_, rfl, p, zs, rfl, hs1, by omega, fun D hD => ⟨D, zs, rfl, upd_same, by omega, fun m hm hnd => ?_⟩⟩
        have s2 : Same H1 (upd H1 D (SetO' P w D zs)) := same_new (Same.refl H1) hD
        refine ⟨_, rfl, p, _, rfl, .inr (sqT_same s2 hs1), ?_⟩
        have e3 : decide (V.int (m : Int) = V.int ((zs.map V.str).length : Int)) = ascB zs := by
          have e2' : 0 < zs.length := by have := of_decide_eq_true e2; omega
          rw [eb, decide_eq_true e2', Bool.true_and, List.length_map]
          by_cases c : zs.Nodup
          · rw [decide_eq_true c, decide_eq_true (by rw [hnd.mpr c])]
          · rw [decide_eq_false c, decide_eq_false fun z => c (hnd.mp (by injection z with z; omega))]
        have z := q _ (s1.trans s2)
        rw [← e3] at z
        exact ⟨rfl, z⟩
      · have e3 : ascB zs = false := by
          have : ¬ 0 < zs.length := fun z => e2 (decide_eq_true (by omega))
          rw [eb, decide_eq_false this, Bool.false_and]
        rw [e3] at q
        exact q H1 s1
/-- a key, or a value that is a pair (text, tuple of texts) -/
def spPlace (K : PySem.W.Frag) : Sp := fun vs H Q _ => ∃ (a g : Addr) (z : Str) (zs : List Str), vs = [.ref a] ∧ SqT K H a [.str z, .ref g] ∧ SqT K H g (zs.map V.str) ∧ z.length ≤ 1000 ∧ zs.length ≤ 1000 ∧ (∀ y ∈ zs, y.length ≤ 1000) ∧ ∀ H', Same H H' → Q (.bl (nameB z && digB zs)) H'
theorem ok_place {f : Addr} {fd : FuncData} (F : Fun K "_is_place" "_is_place" s_is_place f fd) (T : Top K mg) : FnOk P w K mg base CX0 5 f fd ["value"] (spPlace K) := by
  have cn : Cal P w K mg base 4 "is_name" ["value"] (spName K) := (T.d_is_name.cal fun f fd F => ok_name F T).mono (by decide)
  have cd : Cal P w K mg base 4 "is_digit" ["value"] (spDig K) := T.d_is_digit.cal fun f fd F => ok_dig F T
  refine F.ok sc_is_place (fun vs H Q E h => ?_) (fun cdv A outer s H vs Q E hr h => ?_)
  · obtain ⟨a, g, z, zs, rfl, _⟩ := h
    rfl
  · obtain ⟨a, g, z, zs, rfl, ha, hg, hz, hl, hy, q⟩ := h
    refine ⟨_, pss_one (ps_ret (pe_and (pe_callB call_isi (by rfl) T.b_isinstance (by decide +kernel) (pa_cons (pv 0) (pa_cons (pe_bltn (v := .ty "tuple") (by rfl) T.b_tuple (by decide +kernel) rfl) pa_nil)))
      (pe_and (pe_cmpR op_eq (pe_callB call_len_seq (by rfl) T.b_len PySem.boot_len (pa_cons (pv 0) pa_nil)) pe_int (nomark _))
        (pe_and (pe_cal cn hr (by rfl) (pa_cons (pe_ix ix_tup (pv 0) pe_int (fun _ _ => rfl)) pa_nil))
          (pe_one (pe_cal cd hr (by rfl) (pa_cons (pe_ix ix_tup (pv 0) pe_int (fun _ _ => rfl)) pa_nil))))))), ?_⟩
    refine ⟨_, rfl, _, .ty "tuple", .type "tuple", .type "tuple", true, rfl, .ty _, ty_sq ha, kit_ty (by decide +kernel), true, rfl, ?_⟩
    refine ⟨_, rfl, a, _, rfl, .inr ha, rfl, _, rfl, ?_⟩
    refine ⟨_, rfl, a, _, 0, _, rfl, rfl, ha, rfl, _, rfl, .inl ⟨z, rfl, Nat.le_trans hz (by decide)⟩, _, rfl, ite2 (fun e => ?_) (fun e => ?_)⟩
    · refine ⟨_, rfl, a, _, 1, _, rfl, rfl, ha, rfl, g, zs, rfl, hg, hl, hy, fun H1 s1 => ?_⟩
      have z1 := q H1 s1
      rw [show nameB z = true from e, Bool.true_and] at z1
      exact z1
    · have z1 := q H (Same.refl H)
      rw [show nameB z = false from by cases c : nameB z with | false => rfl | true => exact absurd c e, Bool.false_and] at z1
      exact z1
end
end Kl

set_option maxRecDepth 100000
set_option maxHeartbeats 4000000
namespace Kl
open PySem PySem.Spec PyProof.Rows L2 Gx Mx
/-! ### what a reader reads: the dict, as a list of lines -/
abbrev Rds := List (KW × Str)
/-- at d stands the dict of the lines R -/
def RDict (P : Program) (w : World) (K : PySem.W.Frag) (H : Hp) (d : Addr) (R : Rds) : Prop := ∃ L : ML, H d = some (DN P w d (toN L)) ∧ (∀ x ∈ L, KeyA K H x.2.1 (keyK x.1)) ∧ prM L = R.map fun r => (r.1, V.str r.2)
theorem RDict.same {P : Program} {w : World} {K : PySem.W.Frag} {H H' : Hp} {d : Addr} {R : Rds} (h : RDict P w K H d R) (s : Same H H') : RDict P w K H' d R := by
  obtain ⟨L, h1, h2, h3⟩ := h
  exact ⟨L, s _ _ h1, fun x hx => keyA_same s (h2 x hx), h3⟩
/-- the lines' texts are short -/
def Shrt (R : Rds) : Prop := ∀ r ∈ R, r.1.1.length ≤ 1000 ∧ r.1.2.length ≤ 1000 ∧ (∀ y ∈ r.1.2, y.length ≤ 1000) ∧ r.2.length ≤ 1000
/-- all but d stays, d is locked -/
structure Lkd (P : Program) (w : World) (H H' : Hp) (d : Addr) (od : Obj) (L : NL) : Prop where
  at_ : H' d = some (.frz od (DN P w d L))
  sm : ∀ b u, b ≠ d → H b = some u → H' b = some u
section
variable {P : Program} {w : World} {K : PySem.W.Frag} {H H' H2 : Hp} {d : Addr} {od : Obj} {L : NL}
theorem Lkd.of : Lkd P w H (upd H d (.frz od (DN P w d L))) d od L := ⟨upd_same, fun b u n e => by rw [upd_ne n]; exact e⟩
theorem Lkd.more (k : Lkd P w H H' d od L) (s : Same H' H2) : Lkd P w H H2 d od L := ⟨s _ _ k.at_, fun b u n e => s _ _ (k.sm b u n e)⟩
theorem Lkd.sq (k : Lkd P w H H' d od L) (e : H d = some (DN P w d L)) {a : Addr} {xs : List V} (h : SqT K H a xs) : SqT K H' a xs := by
  have ne : ∀ b u, H b = some u → (∀ φ, u ≠ .ext φ) → b ≠ d := fun b u q n z => by
    subst z
    rw [e] at q
    exact n _ (Option.some.inj q).symm
  rcases h with (h | ⟨o, h⟩) | h
  · exact .inl (.inl (k.sm _ _ (ne _ _ h fun _ z => nomatch z) h))
  · exact .inl (.inr ⟨o, k.sm _ _ (ne _ _ h fun _ z => nomatch z) h⟩)
  · exact .inr h
theorem Lkd.key (k : Lkd P w H H' d od L) (e : H d = some (DN P w d L)) {a : Addr} {q : NestedKey} (h : KeyA K H a q) : KeyA K H' a q := h.mono fun _ _ z => k.sq e z
/-- .. and unlocked again -/
theorem Lkd.back (k : Lkd P w H H' d od L) (e : H d = some (DN P w d L)) : Same H (upd H' d (DN P w d L)) := fun b u q => by
  by_cases n : b = d
  · subst n
    rw [upd_same, ← e]
    exact q
  · rw [upd_ne n]
    exact k.sm b u n q
end
/-- an entry by its number -/
theorem toN_at {L : ML} {j : Nat} {e : NestedKey × Addr × V} (h : (toN L)[j]? = some e) : ∃ x, L[j]? = some x ∧ e = (keyK x.1, x.2) := by
  unfold toN at h
  rw [List.getElem?_map] at h
  cases c : L[j]? with
  | none => rw [c] at h; cases h
  | some x => rw [c] at h; exact ⟨x, rfl, (Option.some.inj h).symm⟩
theorem prM_at {L : ML} {R : Rds} (h : prM L = R.map fun r => (r.1, V.str r.2)) {j : Nat} {x : KW × Addr × V} (e : L[j]? = some x) : ∃ r, R[j]? = some r ∧ x.1 = r.1 ∧ x.2.2 = V.str r.2 := by
  have h1 : (prM L)[j]? = (R.map fun r => (r.1, V.str r.2))[j]? := by rw [h]
  unfold prM at h1
  rw [List.getElem?_map, List.getElem?_map, e] at h1
  cases c : R[j]? with
  | none => rw [c] at h1; cases h1
  | some r =>
    rw [c] at h1
    have h2 := Option.some.inj h1
    exact ⟨r, rfl, congrArg Prod.fst h2, congrArg Prod.snd h2⟩
theorem prM_len {L : ML} {R : Rds} (h : prM L = R.map fun r => (r.1, V.str r.2)) : L.length = R.length := by
  have := congrArg List.length h
  unfold prM at this
  rw [List.length_map, List.length_map] at this
  exact this
theorem toN_len (L : ML) : (toN L).length = L.length := by unfold toN; rw [List.length_map]
/-- the value at an entry's own key -/
theorem getN_own {L : ML} (nd : (L.map (·.1)).Nodup) {j : Nat} {x : KW × Addr × V} (e : L[j]? = some x) : getN (toN L) (keyK x.1) = some x.2.2 := by
  rw [getN_to]
  unfold prM
  induction L generalizing j with
  | nil => simp at e
  | cons y L ih =>
    rw [List.map_cons] at nd ⊢
    obtain ⟨n1, n2⟩ := List.nodup_cons.mp nd
    cases j with
    | zero =>
      have : y = x := Option.some.inj e
      subst this
      exact valV_pos (p := (y.1, y.2.2)) rfl
    | succ j =>
      have e' : L[j]? = some x := by simpa using e
      have hn : ¬ y.1 = x.1 := fun z => n1 (by rw [z]; exact List.mem_map.mpr ⟨x, List.mem_of_getElem? e', rfl⟩)
      rw [valV_neg (p := (y.1, y.2.2)) hn]
      exact ih n2 e'
def lineB (r : KW × Str) : Bool := (nameB r.1.1 && digB r.1.2) && nameB r.2
def readsB (R : Rds) : Bool := decide ((R.length : Int) ≤ 40) && R.all lineB
section
variable {P : Program} {w : World} {K : PySem.W.Frag} {mg : Str → Option Value} {base : Heap}
def spReads (P : Program) (w : World) (K : PySem.W.Frag) : Sp := fun vs H Q _ => ∃ (d : Addr) (R : Rds), vs = [.ref d] ∧ RDict P w K H d R ∧ (R.map (·.1)).Nodup ∧ R.length ≤ 1000 ∧ Shrt R ∧ ∀ H', Same H H' → Q (.bl (readsB R)) H'
theorem ok_reads {f : Addr} {fd : FuncData} (F : Fun K "_are_reads" "_are_reads" s_are_reads f fd) (T : Top K mg) : FnOk P w K mg base CX0 6 f fd ["value"] (spReads P w K) := by
  obtain ⟨tm, gm⟩ := T.g_MAX_READS
  have cn : Cal P w K mg base 5 "is_name" ["value"] (spName K) := (T.d_is_name.cal fun f fd F => ok_name F T).mono (by decide)
  have cp : Cal P w K mg base 5 "_is_place" ["value"] (spPlace K) := T.d_is_place.cal fun f fd F => ok_place F T
  refine F.ok sc_are_reads (fun vs H Q E h => ?_) (fun cdv A outer s H vs Q E hr h => ?_)
  · obtain ⟨d, R, rfl, _⟩ := h
    rfl
  · obtain ⟨d, R, rfl, ⟨L, hd, hk, hL⟩, hnd, hl, hsh, q⟩ := h
    refine ⟨_, pss_cons (ps_if (PW.pt (pw_or (pt_not (pt_val (pe_callB (call_isiN (P := P) (w := w) (K := K) (by exact ⟨rfl, rfl, rfl⟩)) (by rfl) T.b_isinstance (by decide +kernel) (pa_cons (pv 0) (pa_cons (pe_bltn (v := .ty "dict") (by rfl) T.b_dict (by decide +kernel) rfl) pa_nil)))))
        (pw_or1 (pt_cmpR op_gt (pe_callB (call_lenN (P := P) (w := w) (K := K) (by exact ⟨rfl, rfl, rfl⟩)) (by rfl) T.b_len PySem.boot_len (pa_cons (pv 0) pa_nil)) (pe_glob (v := .int 40) (by rfl) gm ⟨_, rfl⟩) (nomark _))))) (pss_one (ps_ret pe_bl)) pss_nil)
      (pss_one (ps_ret (pe_callB (cr_all rfl) (by rfl) T.b_all (by decide +kernel) (pa_cons (pe_lock (pe_lc (own := [("place", 1)]) (g := gName 1) (tt := tYes) rfl sc_are_reads.nd (pi_keysN (P := P) (w := w) (K := K) (by exact ⟨rfl, rfl, rfl⟩) (pv 0))
            (blkOk_by (N := ["value", "place"]) (sc := defScope s_are_reads) (by decide +kernel))
            (fun _ _ _ _ _ => pg_name (i := 1) sc_are_reads.nd rfl (.inl rfl)) (fun _ _ _ _ _ => pts_nil)
            (fun _ _ _ _ _ => pe_and (pe_cal cp hr (by rfl) (pa_cons (pv 1) pa_nil)) (pe_one (pe_cal cn hr (by rfl) (pa_cons (pe_nget (P := P) (w := w) (K := K) (by exact ⟨rfl, rfl, rfl⟩) (by exact hr.units) (pv 0) (pv 1) (by intro _ _; rfl)) pa_nil)))))) pa_nil)))), ?_⟩
    refine ⟨_, rfl, d, toN L, .ty "dict", .type "dict", true, rfl, .ty _, .inl hd, kit_ty (by decide +kernel), true, rfl, ?_⟩
    have hlen := prM_len hL
    have ndL : (L.map (·.1)).Nodup := by
      have e : L.map (·.1) = R.map (·.1) := by
        have := congrArg (List.map Prod.fst) hL
        unfold prM at this
        rw [List.map_map, List.map_map] at this
        exact this
      rw [e]
      exact hnd
    refine ⟨_, rfl, d, toN L, rfl, .inl hd, _, _, rfl, rfl, _, rfl, ite2 (fun e => ?_) (fun e => ?_)⟩
    · have e1 : readsB R = false := by
        have := of_decide_eq_true e
        rw [toN_len, hlen] at this
        unfold readsB
        rw [decide_eq_false (by omega), Bool.false_and]
      rw [e1] at q
      exact q H (Same.refl H)
    · have e1 : readsB R = R.all lineB := by
        have : ¬ ((40 : Int) < ((toN L).length : Int)) := fun z => e (decide_eq_true z)
        rw [toN_len, hlen] at this
        unfold readsB
        rw [decide_eq_true (by omega), Bool.true_and]
      rw [e1] at q
      refine ⟨d, _, hd, True.intro, fun od => ⟨_, rfl, d, od, toN L, rfl, upd_same, fun D hD => ?_⟩⟩
      have hDd : D ≠ d := fun z => by rw [z, upd_same] at hD; cases hD
      refine lc_it (walk_keysN (P := P) (w := w) (d := d) (o := od) (L := toN L)) (fun j H2 => H2 D = some (.lst ((R.take j).map fun r => V.bl (lineB r))) ∧ Lkd P w H H2 d od (toN L)) ⟨upd_same, Lkd.of.more (same_new (Same.refl _) hD)⟩ (fun j H2 _ hP => hP.2.at_) (fun j x H2 H2' hj hP hy => ?_) (fun H2 hP => ?_)
      · obtain ⟨eD, lk⟩ := hP
        obtain ⟨rfl, e0, he0, rfl⟩ := hy
        obtain ⟨x0, hx0, rfl⟩ := toN_at he0
        obtain ⟨r, hr0, er1, er2⟩ := prM_at hL hx0
        have key := lk.key hd (hk x0 (List.mem_of_getElem? hx0))
        obtain ⟨g, hg1, hg2⟩ := keyK_at.mp key
        obtain ⟨q1, q2, q3, q4⟩ := hsh r (List.mem_of_getElem? hr0)
        rw [er1] at hg1 hg2
        have hHD : H D = none := by
          rw [upd_ne hDd] at hD
          exact hD
        have put : ∀ {H3 : Hp} {b : Bool}, Same H2' H3 → b = lineB r → ∃ acc, H3 D = some (.lst acc) ∧ acc.length < sizeLine ∧ (upd H3 D (.lst (acc ++ [V.bl b]))) D = some (.lst ((R.take (j + 1)).map fun r => V.bl (lineB r))) ∧ Lkd P w H (upd H3 D (.lst (acc ++ [V.bl b]))) d od (toN L) := fun {H3 b} s3 eb => by
          refine ⟨_, s3 _ _ eD, ?_, ?_, ?_⟩
          · rw [List.length_map, List.length_take]
            exact Nat.lt_of_le_of_lt (Nat.le_trans (Nat.min_le_right _ _) hl) (by decide)
          · rw [upd_same, List.take_add_one, hr0, List.map_append, eb]
            rfl
          · have k3 := lk.more s3
            exact ⟨by rw [upd_ne (Ne.symm hDd)]; exact k3.at_, fun b u n e => by rw [upd_ne (ne_of_none e hHD)]; exact k3.sm b u n e⟩
        refine ⟨rfl, _, rfl, x0.2.1, g, r.1.1, r.1.2, rfl, hg1, hg2, q1, q2, q3, fun H3 s3 => ⟨_, rfl, ite2 (fun e2 => ?_) (fun e2 => ?_)⟩⟩
        · have hv : getN (toN L) (keyK x0.1) = some (V.str r.2) := by rw [getN_own ndL hx0, er2]
          refine ⟨_, rfl, _, rfl, d, x0.2.1, toN L, keyK x0.1, V.str r.2, rfl, rfl, ⟨.inr ⟨od, (lk.more s3).at_⟩, fun e he => ?_⟩, (lk.more s3).key hd (hk x0 (List.mem_of_getElem? hx0)), hv, _, rfl, .inl ⟨r.2, rfl, Nat.le_trans q4 (by decide)⟩, ?_⟩
          · obtain ⟨y, hy, rfl⟩ := List.mem_map.mp he
            exact (lk.more s3).key hd (hk y hy)
          · refine put s3 ?_
            unfold lineB
            rw [show (nameB r.1.1 && digB r.1.2) = true from e2, Bool.true_and]
            rfl
        · refine put s3 ?_
          unfold lineB
          rw [(by cases c : (nameB r.1.1 && digB r.1.2) with | false => rfl | true => exact absurd c e2 : (nameB r.1.1 && digB r.1.2) = false), Bool.false_and]
      · obtain ⟨eD, lk⟩ := hP
        rw [toN_len, hlen, List.take_length] at eD
        have z := q _ (lk.back hd)
        rw [← show (R.map lineB).all id = R.all lineB by rw [List.all_map]; rfl] at z
        refine ⟨lk.at_, D, R.map lineB, rfl, .inl (.inl ?_), z⟩
        rw [upd_ne hDd, eD, List.map_map]
        rfl
end
end Kl

set_option maxRecDepth 100000
set_option maxHeartbeats 4000000
namespace Kl
open PySem PySem.Spec PyProof.Rows L2 Gx Mx
/-! ### _all_states -/
def statesL (first : Str) (ends : List Str) (R : Rds) : List Str := first :: (ends ++ (R.map (fun r => r.1.1) ++ R.map (fun r => r.2)))
/-- the members of l, each once, ascending -/
def IsSt (l ys : List Str) : Prop := sortedS ys = true ∧ ys.Nodup ∧ ∀ z, z ∈ ys ↔ z ∈ l
theorem IsSt.unique {l xs ys : List Str} (h : IsSt l xs) (g : IsSt l ys) : xs = ys :=
  sortedS_unique ((List.perm_ext_iff_of_nodup h.2.1 g.2.1).mpr fun z => (h.2.2 z).trans (g.2.2 z).symm) h.1 g.1
section
variable {P : Program} {w : World} {K : PySem.W.Frag} {mg : Str → Option Value} {base : Heap}
def spStates (P : Program) (w : World) (K : PySem.W.Frag) : Sp := fun vs H Q _ => ∃ (first : Str) (e d : Addr) (ends : List Str) (R : Rds), vs = [.str first, .ref e, .ref d] ∧ SqT K H e (ends.map V.str) ∧ RDict P w K H d R ∧ (R.map (·.1)).Nodup ∧ ends.length ≤ 100 ∧ R.length ≤ 300 ∧
  ∀ (ys : List Str) (p : Addr) (H' : Hp), IsSt (statesL first ends R) ys → Same H H' → H p = none → H' p = some (.tup (ys.map V.str)) → Q (.ref p) H'
theorem ok_states {f : Addr} {fd : FuncData} (F : Fun K "_all_states" "_all_states" s_all_states f fd) (T : Top K mg) : FnOk P w K mg base CX0 1 f fd ["first", "ends", "reads"] (spStates P w K) := by
  refine F.ok sc_all_states (fun vs H Q E h => ?_) (fun cdv A outer s H vs Q E hr h => ?_)
  · obtain ⟨first, e, d, ends, R, rfl, _⟩ := h
    rfl
  · obtain ⟨first, e, d, ends, R, rfl, he, ⟨L, hd, hk, hL⟩, hnd, hle, hl, q⟩ := h
    refine ⟨_, pss_cut (ps_lock (ps_setLc (i := 3) (own := [("state", 5), ("_", 6)]) (g := gTup K 2 (gCons (gName 5) (gCons (gName 6) gNil))) (tt := tYes) (by rfl) sc_all_states.nd rfl rfl (sw_true rfl rfl rfl (by decide +kernel)) (pi_keysN (P := P) (w := w) (K := K) (by exact ⟨rfl, rfl, rfl⟩) (pv 2))
            (blkOk_by (N := ["first", "ends", "reads", "befores", "afters", "state", "_", "place"]) (sc := defScope s_all_states) (by decide +kernel))
            (fun _ _ _ _ _ => pg_tup rfl (pgs_cons (pg_name (i := 5) sc_all_states.nd rfl (.inl rfl)) (pgs_cons (pg_name (i := 6) sc_all_states.nd rfl (.inl rfl)) pgs_nil))) (fun _ _ _ _ _ => pts_nil)
            (fun _ _ _ _ _ => pv 5)))
      (pss_cut (ps_lock (ps_setLc (i := 4) (own := [("place", 7)]) (g := gName 7) (tt := tYes) (by rfl) sc_all_states.nd rfl rfl (sw_true rfl rfl rfl (by decide +kernel)) (pi_keysN (P := P) (w := w) (K := K) (by exact ⟨rfl, rfl, rfl⟩) (pv 2))
            (blkOk_by (N := ["first", "ends", "reads", "befores", "afters", "state", "_", "place"]) (sc := defScope s_all_states) (by decide +kernel))
            (fun _ _ _ _ _ => pg_name (i := 7) sc_all_states.nd rfl (.inl rfl)) (fun _ _ _ _ _ => pts_nil)
            (fun _ _ _ _ _ => pe_nget (P := P) (w := w) (K := K) (by exact ⟨rfl, rfl, rfl⟩) (by exact hr.units) (pv 2) (pv 7) (by intro _ _; rfl))))
      (pss_one (ps_ret (pe_callTy call_tuple_of (by rfl) T.b_tuple (by decide +kernel) (pa_cons (pe_callB (cr_sortedX rfl) (by rfl) T.b_sorted (by decide +kernel) (pa_cons
        (pe_callTy (cr_setX rfl) (by rfl) T.b_set (by decide +kernel) (pa_cons (pe_lst (pa_cons (pv 0) (StX.pa_star (pv 1) (StX.pa_star (pv 3) (StX.pa_star (pv 4) pa_nil))))) pa_nil)) pa_nil)) pa_nil))))), ?_⟩
    have hlen := prM_len hL
    have hHD : ∀ {D : Addr} {od : Obj}, upd H d (.frz od (DN P w d (toN L))) D = none → D ≠ d ∧ H D = none := fun {D od} hD => by
      have n : D ≠ d := fun z => by rw [z, upd_same] at hD; cases hD
      rw [upd_ne n] at hD
      exact ⟨n, hD⟩
    -- the states before
    refine ⟨fun σ' G => ∃ D : Addr, σ' = [some (.str first), some (.ref e), some (.ref d), some (.ref D), none, none, none, none] ∧ G D = some (.lst ((R.map fun r => r.1.1).map V.str)) ∧ Same H G, ?_, ?_⟩
    · refine ⟨d, _, hd, True.intro, fun od => ⟨_, rfl, d, od, toN L, rfl, upd_same, fun D hD => ?_⟩⟩
      obtain ⟨hDd, hD0⟩ := hHD hD
      refine lc_it (walk_keysN (P := P) (w := w) (d := d) (o := od) (L := toN L)) (fun j G => G D = some (.lst (((R.take j).map fun r => r.1.1).map V.str)) ∧ Lkd P w H G d od (toN L)) ⟨upd_same, Lkd.of.more (same_new (Same.refl _) hD)⟩ (fun j G _ hP => hP.2.at_) (fun j x Gx G hj hP hy => ?_) (fun G hP => ?_)
      · obtain ⟨eD, lk⟩ := hP
        obtain ⟨rfl, e0, he0, rfl⟩ := hy
        obtain ⟨x0, hx0, rfl⟩ := toN_at he0
        obtain ⟨r, hr0, er1, er2⟩ := prM_at hL hx0
        obtain ⟨g, hg1, hg2⟩ := keyK_at.mp (lk.key hd (hk x0 (List.mem_of_getElem? hx0)))
        rw [er1] at hg1
        refine ⟨x0.2.1, _, rfl, hg1, rfl, _, _, rfl, _, _, rfl, rfl, rfl, _, rfl, _, eD, ?_, ?_, ?_⟩
        · rw [List.length_map, List.length_map, List.length_take]
          exact Nat.lt_of_le_of_lt (Nat.le_trans (Nat.min_le_right _ _) hl) (by decide)
        · rw [upd_same, List.take_add_one, hr0, List.map_append, List.map_append]
          rfl
        · exact ⟨by rw [upd_ne (Ne.symm hDd)]; exact lk.at_, fun b u n e => by rw [upd_ne (ne_of_none e hD0)]; exact lk.sm b u n e⟩
      · obtain ⟨eD, lk⟩ := hP
        rw [toN_len, hlen, List.take_length] at eD
        exact ⟨lk.at_, D, rfl, by rw [upd_ne hDd]; exact eD, lk.back hd⟩
    rintro σ' G1 ⟨D1, rfl, hD1, s1⟩
    -- the states after
    have hd1 := s1 _ _ hd
    refine ⟨fun σ' G => ∃ D : Addr, σ' = [some (.str first), some (.ref e), some (.ref d), some (.ref D1), some (.ref D), none, none, none] ∧ G D = some (.lst ((R.map fun r => r.2).map V.str)) ∧ Same G1 G, ?_, ?_⟩
    · refine ⟨d, _, hd1, True.intro, fun od => ⟨_, rfl, d, od, toN L, rfl, upd_same, fun D hD => ?_⟩⟩
      have hDd : D ≠ d := fun z => by rw [z, upd_same] at hD; cases hD
      have hD0 : G1 D = none := by rw [upd_ne hDd] at hD; exact hD
      refine lc_it (walk_keysN (P := P) (w := w) (d := d) (o := od) (L := toN L)) (fun j G => G D = some (.lst (((R.take j).map fun r => r.2).map V.str)) ∧ Lkd P w G1 G d od (toN L)) ⟨upd_same, Lkd.of.more (same_new (Same.refl _) hD)⟩ (fun j G _ hP => hP.2.at_) (fun j x Gx G hj hP hy => ?_) (fun G hP => ?_)
      · obtain ⟨eD, lk⟩ := hP
        obtain ⟨rfl, e0, he0, rfl⟩ := hy
        obtain ⟨x0, hx0, rfl⟩ := toN_at he0
        obtain ⟨r, hr0, er1, er2⟩ := prM_at hL hx0
        have ndL : (L.map (·.1)).Nodup := by
          have e := congrArg (List.map Prod.fst) hL
          unfold prM at e
          rw [List.map_map, List.map_map] at e
          have e' : L.map (·.1) = R.map (·.1) := e
          rw [e']
          exact hnd
        have hv : getN (toN L) (keyK x0.1) = some (V.str r.2) := by rw [getN_own ndL hx0, er2]
        have ky : ∀ y ∈ L, KeyA K G y.2.1 (keyK y.1) := fun y hy => lk.key hd1 (keyA_same s1 (hk y hy))
        refine ⟨rfl, _, rfl, _, rfl, d, x0.2.1, toN L, keyK x0.1, V.str r.2, rfl, rfl, ⟨.inr ⟨od, lk.at_⟩, fun e he => ?_⟩, ky x0 (List.mem_of_getElem? hx0), hv, _, eD, ?_, ?_, ?_⟩
        · obtain ⟨y, hy, rfl⟩ := List.mem_map.mp he
          exact ky y hy
        · rw [List.length_map, List.length_map, List.length_take]
          exact Nat.lt_of_le_of_lt (Nat.le_trans (Nat.min_le_right _ _) hl) (by decide)
        · rw [upd_same, List.take_add_one, hr0, List.map_append, List.map_append]
          rfl
        · exact ⟨by rw [upd_ne (Ne.symm hDd)]; exact lk.at_, fun b u n e => by rw [upd_ne (ne_of_none e hD0)]; exact lk.sm b u n e⟩
      · obtain ⟨eD, lk⟩ := hP
        rw [toN_len, hlen, List.take_length] at eD
        exact ⟨lk.at_, D, rfl, by rw [upd_ne hDd]; exact eD, lk.back hd1⟩
    rintro σ' G2 ⟨D2, rfl, hD2, s2⟩
    have s12 : Same H G2 := s1.trans s2
    have hD1' := s2 _ _ hD1
    refine ⟨_, rfl, _, rfl, e, _, rfl, .inl (sqT_same s12 he), _, rfl, D1, _, rfl, .inr (.inl (.inl hD1')), _, rfl, D2, _, rfl, .inr (.inl (.inl hD2)), ?_⟩
    have e1 : V.str first :: (ends.map V.str ++ ((R.map fun r => r.1.1).map V.str ++ ((R.map fun r => r.2).map V.str ++ []))) = (statesL first ends R).map V.str := by
      unfold statesL
      rw [List.append_nil, List.map_cons, List.map_append, List.map_append]
    have ln : (statesL first ends R).length ≤ 1000 := by
      unfold statesL
      rw [List.length_cons, List.length_append, List.length_append, List.length_map, List.length_map]
      omega
    refine ⟨by rw [e1, List.length_map]; exact Nat.le_trans ln (by decide), fun l nl => ?_⟩
    have s3 : Same G2 (upd G2 l (.lst ((statesL first ends R).map V.str))) := same_new (Same.refl G2) nl
    have e2 : upd G2 l (.lst (V.str first :: (ends.map V.str ++ ((R.map fun r => r.1.1).map V.str ++ ((R.map fun r => r.2).map V.str ++ []))))) = upd G2 l (.lst ((statesL first ends R).map V.str)) := by rw [e1]
    rw [e2]
    generalize hH1 : upd G2 l (.lst ((statesL first ends R).map V.str)) = H1 at s3
    have h1l : H1 l = some (.lst ((statesL first ends R).map V.str)) := by rw [← hH1, upd_same]
    refine ⟨l, _, rfl, .inl (.inl h1l), ln, fun a na => ?_⟩
    have s4 : Same G2 (upd H1 a (SetO' P w a (statesL first ends R))) := s3.trans (same_new (Same.refl H1) na)
    refine ⟨a, _, rfl, upd_same, ln, fun ys p hs nd hm np => ?_⟩
    have s5 : Same G2 (upd (upd H1 a (SetO' P w a (statesL first ends R))) p (.lst (ys.map V.str))) := s4.trans (same_new (Same.refl _) np)
    refine ⟨p, ys.map V.str, rfl, .inl ⟨.inl (.inl upd_same), fun t nt => ?_⟩⟩
    have s6 := s12.trans s5
    refine q ys t _ ⟨hs, nd, hm⟩ (s6.trans (same_new (Same.refl _) nt)) ?_ upd_same
    exact s6.free nt
end
end Kl

set_option maxRecDepth 100000
set_option maxHeartbeats 4000000
namespace Kl
open PySem PySem.Spec PyProof.Rows L2 Gx Mx
/-! ### _is_reader -/
theorem flat_tx (zs : List Str) : (zs.map V.str).all flatV = true := by
  rw [List.all_map]
  exact List.all_eq_true.mpr fun _ _ => rfl
theorem inV_tx (z : Str) (zs : List Str) : inV (.str z) (zs.map V.str) = decide (z ∈ zs) := by
  unfold inV
  rw [List.any_map]
  have e : (fun y => eqV y (V.str z)) ∘ V.str = fun y => decide (y = z) := by
    funext y
    show (y == z) = decide (y = z)
    by_cases h : y = z
    · subst h
      rw [decide_eq_true rfl]
      exact beq_self_eq_true y
    · rw [decide_eq_false h]
      exact beq_eq_false_iff_ne.mpr h
  rw [e]
  by_cases h : z ∈ zs
  · rw [decide_eq_true h]
    exact List.any_eq_true.mpr ⟨z, h, decide_eq_true rfl⟩
  · rw [decide_eq_false h]
    exact List.any_eq_false.mpr fun y hy => by
      rw [decide_eq_true_eq]
      exact fun q => h (q ▸ hy)
def goodB (first : Str) (ends : List Str) (r : KW × Str) : Bool := !(decide (r.2 = first)) && !(decide (r.2 ∈ ends) && r.1.2.isEmpty)
def readerB (first : Str) (ends : List Str) (R : Rds) (ys : List Str) : Bool := ((nameB first && (ascB ends && readsB R)) && (!decide (first ∈ ends) && decide ((ys.length : Int) ≤ 6))) && R.all (goodB first ends)
section
variable {P : Program} {w : World} {K : PySem.W.Frag} {mg : Str → Option Value} {base : Heap}
def spReader (P : Program) (w : World) (K : PySem.W.Frag) : Sp := fun vs H Q _ => ∃ (first : Str) (e d : Addr) (ends : List Str) (R : Rds), vs = [.str first, .ref e, .ref d] ∧ first.length ≤ 1000 ∧ SqT K H e (ends.map V.str) ∧ (∀ z ∈ ends, z.length ≤ 1000) ∧ RDict P w K H d R ∧ (R.map (·.1)).Nodup ∧ ends.length ≤ 100 ∧ R.length ≤ 300 ∧ Shrt R ∧
  ∀ (b : Bool) (H' : Hp), (∀ ys, IsSt (statesL first ends R) ys → b = readerB first ends R ys) → Same H H' → Q (.bl b) H'
theorem ok_reader {f : Addr} {fd : FuncData} (F : Fun K "_is_reader" "_is_reader" s_is_reader f fd) (T : Top K mg) : FnOk P w K mg base CX0 7 f fd ["first", "ends", "reads"] (spReader P w K) := by
  obtain ⟨tm, gm⟩ := T.g_MAX_STATES
  have cn : Cal P w K mg base 6 "is_name" ["value"] (spName K) := (T.d_is_name.cal fun f fd F => ok_name F T).mono (by decide)
  have ca : Cal P w K mg base 6 "_is_ascending" ["value"] (spAsc K) := (T.d_is_ascending.cal fun f fd F => ok_asc F T).mono (by decide)
  have cr : Cal P w K mg base 6 "_are_reads" ["value"] (spReads P w K) := T.d_are_reads.cal fun f fd F => ok_reads F T
  have cs : Cal P w K mg base 6 "_all_states" ["first", "ends", "reads"] (spStates P w K) := (T.d_all_states.cal fun f fd F => ok_states F T).mono (by decide)
  refine F.ok sc_is_reader (fun vs H Q E h => ?_) (fun cdv A outer s H vs Q E hr h => ?_)
  · obtain ⟨first, e, d, ends, R, rfl, _⟩ := h
    rfl
  · obtain ⟨first, e, d, ends, R, rfl, hfl, he, hes, hD, hnd, hle, hl, hsh, q⟩ := h
    refine ⟨_, pss_cut (ps_if (PW.pt (pw_or (pt_not (pt_val (pe_cal cn hr (by rfl) (pa_cons (pv 0) pa_nil)))) (pw_or (pt_not (pt_val (pe_cal ca hr (by rfl) (pa_cons (pv 1) pa_nil)))) (pw_or1 (pt_not (pt_val (pe_cal cr hr (by rfl) (pa_cons (pv 2) pa_nil)))))))) (pss_one (ps_ret pe_bl)) pss_nil)
      (pss_cut (ps_if (PW.pt (pw_or (pt_cmpR op_in_seq (pv 0) (pv 1) (by rfl)) (pw_or1 (pt_cmpR op_gt (pe_callB call_len_seq (by rfl) T.b_len PySem.boot_len (pa_cons (pe_cal cs hr (by rfl) (pa_cons (pv 0) (pa_cons (pv 1) (pa_cons (pv 2) pa_nil)))) pa_nil)) (pe_glob (v := .int 6) (by rfl) gm ⟨_, rfl⟩) (nomark _))))) (pss_one (ps_ret pe_bl)) pss_nil)
      (pss_cut (ps_lock (ps_for PassesOwn.never rfl (pi_itemsN (P := P) (w := w) (K := K) (by exact ⟨rfl, rfl, rfl⟩) (pv 2)) (pg_tup rfl (pgs_cons (pg_tup rfl (pgs_cons (pg_name (i := 3) sc_is_reader.nd rfl (.inl rfl)) (pgs_cons (pg_name (i := 4) sc_is_reader.nd rfl (.inl rfl)) pgs_nil))) (pgs_cons (pg_name (i := 5) sc_is_reader.nd rfl (.inl rfl)) pgs_nil)))
        (pss_one (ps_if (PW.pt (pw_or (pt_cmpR op_eq (pv 5) (pv 0) (nomark _)) (pw_or1 (PW.pt (pw_and (pt_cmpR op_in_seq (pv 5) (pv 1) (by rfl)) (pw_and1 (pt_not (pt_truth (pv 4) (fun _ => rfl))))))))) (pss_one (ps_ret pe_bl)) pss_nil))))
      (pss_one (ps_ret pe_bl)))), ?_⟩
    have no : ∀ {H' : Hp}, Same H H' → (∀ ys, IsSt (statesL first ends R) ys → readerB first ends R ys = false) → Q (.bl false) H' := fun s h => q false _ (fun ys hy => (h ys hy).symm) s
    have fb : ∀ {x : Bool}, ¬ (x = true) → x = false := fun {x} h => by cases x with | false => rfl | true => exact absurd rfl h
    have nt : ∀ {x : Bool}, ¬ ((!x) = true) → x = true := fun {x} h => by cases x with | true => rfl | false => exact absurd rfl h
    refine ⟨fun σ' G => σ' = [some (.str first), some (.ref e), some (.ref d), none, none, none] ∧ Same H G ∧ (nameB first && (ascB ends && readsB R)) = true, ?_, ?_⟩
    · refine ⟨_, rfl, _, rfl, .inl ⟨first, rfl, Nat.le_trans hfl (by decide)⟩, _, rfl, ite2 (fun e1 => ?_) (fun e1 => ?_)⟩
      · exact no (Same.refl H) fun ys _ => by
          unfold readerB
          rw [show nameB first = false from (Bool.not_eq_true' _).mp e1]
          simp
      refine ⟨_, rfl, e, ends, rfl, he, hle, hes, fun G s1 => ⟨_, rfl, ite2 (fun e2 => ?_) (fun e2 => ?_)⟩⟩
      · exact no s1 fun ys _ => by
          unfold readerB
          rw [show ascB ends = false from (Bool.not_eq_true' _).mp e2]
          simp
      refine ⟨_, rfl, d, R, rfl, hD.same s1, hnd, by omega, hsh, fun G2 s2 => ⟨_, rfl, ite2 (fun e3 => ?_) (fun e3 => ?_)⟩⟩
      · exact no (s1.trans s2) fun ys _ => by
          unfold readerB
          rw [show readsB R = false from (Bool.not_eq_true' _).mp e3]
          simp
      · exact ⟨rfl, s1.trans s2, by rw [show nameB first = true from nt e1, nt e2, nt e3]; rfl⟩
    rintro σ' G1 ⟨rfl, s1, c1⟩
    refine ⟨fun σ' G => σ' = [some (.str first), some (.ref e), some (.ref d), none, none, none] ∧ Same H G ∧ ∃ ys, IsSt (statesL first ends R) ys ∧ (!decide (first ∈ ends) && decide ((ys.length : Int) ≤ 6)) = true, ?_, ?_⟩
    · refine ⟨_, rfl, _, rfl, e, _, rfl, .inr (sqT_same s1 he), rfl, flat_tx ends, ?_⟩
      refine ⟨decide (first ∈ ends), congrArg V.bl (inV_tx first ends), ite2 (fun e1 => ?_) (fun e1 => ?_)⟩
      · exact no s1 fun ys _ => by
          unfold readerB
          rw [show decide (first ∈ ends) = true from e1]
          simp
      refine ⟨_, rfl, _, rfl, _, rfl, first, e, d, ends, R, rfl, sqT_same s1 he, hD.same s1, hnd, hle, hl, fun ys p G hys s p0 hp => ?_⟩
      refine ⟨p, _, rfl, .inr (SqT.of hp), _, _, rfl, rfl, _, rfl, ite2 (fun e2 => ?_) (fun e2 => ?_)⟩
      · exact no (s1.trans s) fun zs hzs => by
          have hz := hzs.unique hys
          subst hz
          have := of_decide_eq_true e2
          rw [List.length_map] at this
          unfold readerB
          rw [decide_eq_false (show ¬ ((zs.length : Int) ≤ 6) by omega)]
          simp
      · refine ⟨rfl, s1.trans s, ys, hys, ?_⟩
        have : ¬ ((6 : Int) < ((ys.map V.str).length : Int)) := fun z => e2 (decide_eq_true z)
        rw [List.length_map] at this
        rw [fb e1, decide_eq_true (show (ys.length : Int) ≤ 6 by omega)]
        rfl
    rintro σ' G2 ⟨rfl, s2, ys, hys, c2⟩
    have good : ∀ zs, IsSt (statesL first ends R) zs → readerB first ends R zs = R.all (goodB first ends) := fun zs hzs => by
      have hz := hzs.unique hys
      subst hz
      unfold readerB
      rw [c1, c2]
      rfl
    obtain ⟨L, hd, hk, hL⟩ := hD.same s2
    have hlen := prM_len hL
    refine ⟨fun σ' G => (∃ a b c, σ' = [some (.str first), some (.ref e), some (.ref d), a, b, c]) ∧ Same H G ∧ R.all (goodB first ends) = true, ?_, ?_⟩
    · refine ⟨d, _, hd, True.intro, fun od => ⟨_, rfl, d, od, toN L, rfl, upd_same, ?_⟩⟩
      refine for_it (walk_itemsN (P := P) (w := w) (d := d) (o := od) (L := toN L)) (fun j σ' G => (∃ a b c, σ' = [some (.str first), some (.ref e), some (.ref d), a, b, c]) ∧ Lkd P w G2 G d od (toN L) ∧ (R.take j).all (goodB first ends) = true) ⟨⟨_, _, _, rfl⟩, Lkd.of, rfl⟩ (fun j σ' G _ hP => hP.2.1.at_) (fun j x σ' G G' hj hP hy => ?_) (fun σ' G hP => ?_)
      · obtain ⟨⟨a, b, c, rfl⟩, lk, hR⟩ := hP
        obtain ⟨Tt, x1, y1, rfl, nT, rfl, h1, h2⟩ := hy
        obtain ⟨e0, he0, rfl⟩ := Option.map_eq_some_iff.mp h1
        obtain ⟨e0', he0', rfl⟩ := Option.map_eq_some_iff.mp h2
        obtain rfl : e0 = e0' := Option.some.inj (he0.symm.trans he0')
        obtain ⟨x0, hx0, rfl⟩ := toN_at he0
        obtain ⟨r, hr0, er1, er2⟩ := prM_at hL hx0
        have lkT := lk.more (same_new (o := HO.tup [V.ref x0.2.1, x0.2.2]) (Same.refl G) nT)
        obtain ⟨g, hg1, hg2⟩ := keyK_at.mp (lkT.key hd (hk x0 (List.mem_of_getElem? hx0)))
        rw [er1] at hg1 hg2
        have heG := lkT.sq hd (sqT_same s2 he)
        have hT : SqT K (upd G Tt (.tup [V.ref x0.2.1, x0.2.2])) Tt [V.ref x0.2.1, V.str r.2] := by
          rw [← er2]
          exact SqT.of upd_same
        have back : Same H (upd (upd G Tt (.tup [V.ref x0.2.1, x0.2.2])) d (DN P w d (toN L))) := s2.trans (lkT.back hd)
        have hno : goodB first ends r = false → (upd G Tt (.tup [V.ref x0.2.1, x0.2.2])) d = some (.frz od (DN P w d (toN L))) ∧ Q (.bl false) (upd (upd G Tt (.tup [V.ref x0.2.1, x0.2.2])) d (DN P w d (toN L))) := fun hb => ⟨lkT.at_, no back fun zs hzs => by
          rw [good zs hzs]
          cases c : R.all (goodB first ends) with
          | false => rfl
          | true =>
            have := List.all_eq_true.mp c r (List.mem_of_getElem? hr0)
            rw [hb] at this
            cases this⟩
        have yes : goodB first ends r = true → (R.take (j + 1)).all (goodB first ends) = true := fun hb => by
          rw [List.take_add_one, hr0, List.all_append, hR]
          show (true && (goodB first ends r && true)) = true
          rw [hb]
          rfl
        refine ⟨Tt, _, rfl, hT, rfl, _, _, rfl, x0.2.1, _, rfl, hg1, rfl, _, _, rfl, _, _, rfl, rfl, _, _, rfl, rfl, ?_⟩
        refine ⟨_, rfl, _, rfl, rfl, _, rfl, ite2 (fun e1 => ?_) (fun e1 => ?_)⟩
        · refine hno ?_
          have : r.2 = first := by
            have := of_decide_eq_true e1
            injection this
          unfold goodB
          rw [decide_eq_true this]
          rfl
        have n1 : ¬ r.2 = first := fun z => e1 (decide_eq_true (by rw [z]))
        refine ⟨_, rfl, _, rfl, e, _, rfl, .inr heG, rfl, flat_tx ends, decide (r.2 ∈ ends), congrArg V.bl (inV_tx r.2 ends), ite2 (fun e2 => ?_) (fun e2 => ?_)⟩
        · refine ⟨_, rfl, !(r.1.2.map V.str).isEmpty, .inr (.inl ⟨_, hg2, rfl⟩), ite2 (fun e3 => ?_) (fun e3 => ?_)⟩
          · refine hno ?_
            have e4 : r.1.2.isEmpty = true := by
              cases c : r.1.2 with
              | nil => rfl
              | cons _ _ => rw [c] at e3; cases e3
            unfold goodB
            rw [show decide (r.2 ∈ ends) = true from e2, e4]
            simp
          · refine ⟨⟨_, _, _, rfl⟩, lkT, yes ?_⟩
            have e4 : r.1.2.isEmpty = false := by
              cases c : r.1.2 with
              | nil => rw [c] at e3; exact absurd rfl e3
              | cons _ _ => rfl
            unfold goodB
            rw [decide_eq_false n1, e4]
            simp
        · refine ⟨⟨_, _, _, rfl⟩, lkT, yes ?_⟩
          unfold goodB
          rw [decide_eq_false n1, fb e2]
          rfl
      · obtain ⟨⟨a, b, c, rfl⟩, lk, hR⟩ := hP
        rw [toN_len, hlen, List.take_length] at hR
        exact ⟨lk.at_, ⟨a, b, c, rfl⟩, s2.trans (lk.back hd), hR⟩
    rintro σ' G3 ⟨⟨a, b, c, rfl⟩, s3, hall⟩
    exact q true _ (fun zs hzs => by rw [good zs hzs, hall]) s3
end
end Kl

set_option maxRecDepth 100000
set_option maxHeartbeats 4000000
namespace Kl
open PySem PySem.Spec PyProof.Rows L2 Gx Mx
/-! ### _reached -/
inductive Reach (S : List Str) (PS : List (Str × Str)) : Str → Prop
  | start {z : Str} : z ∈ S → Reach S PS z
  | step {b a : Str} : Reach S PS b → (b, a) ∈ PS → Reach S PS a
/-- the pairs at the addresses as -/
def PrsAt (K : PySem.W.Frag) (H : Hp) (as : List Addr) (PS : List (Str × Str)) : Prop := Paired (fun a p => SqT K H a [V.str p.1, V.str p.2]) as PS
theorem PrsAt.same {K : PySem.W.Frag} {H H' : Hp} (s : Same H H') : ∀ {as : List Addr} {PS : List (Str × Str)}, PrsAt K H as PS → PrsAt K H' as PS
  | _, _, .nil => .nil
  | _, _, .cons h t => .cons (sqT_same s h) (PrsAt.same s t)
theorem sqL_sameE {K : PySem.W.Frag} {H H' : Hp} {a : Addr} {xs : List V} (s : Same H H') (h : SqL K H a xs) : SqL K H' a xs := by
  rcases h with (h | ⟨o, h⟩) | h
  · exact .inl (.inl (s _ _ h))
  · exact .inl (.inr ⟨o, s _ _ h⟩)
  · exact .inr h
/-- the list found, its first i members done -/
structure Found (S : List Str) (PS : List (Str × Str)) (F : List Str) (i : Nat) : Prop where
  nd : F.Nodup
  has : ∀ z ∈ S, z ∈ F
  only : ∀ z ∈ F, Reach S PS z
  done : ∀ (j : Nat) (b : Str), j < i → F[j]? = some b → ∀ a, (b, a) ∈ PS → a ∈ F
theorem Found.all {S : List Str} {PS : List (Str × Str)} {F : List Str} (f : Found S PS F F.length) (z : Str) : z ∈ F ↔ Reach S PS z := by
  refine ⟨f.only z, fun h => ?_⟩
  induction h with
  | start h => exact f.has _ h
  | step _ hp ih =>
    obtain ⟨j, hj⟩ := List.mem_iff_getElem?.mp ih
    exact f.done j _ (List.getElem?_eq_some_iff.mp hj).1 hj _ hp
theorem Found.few {S : List Str} {PS : List (Str × Str)} {F : List Str} {i : Nat} (f : Found S PS F i) : F.length ≤ S.length + PS.length := by
  have sub : ∀ z ∈ F, z ∈ S ++ PS.map (·.2) := fun z hz => by
    cases f.only z hz with
    | start h => exact List.mem_append_left _ h
    | step _ hp => exact List.mem_append_right _ (List.mem_map.mpr ⟨_, hp, rfl⟩)
  have := nodup_le f.nd sub
  rw [List.length_append, List.length_map] at this
  exact this
/-- the pairs before k are done for the member at i, too -/
structure FoundK (S : List Str) (PS : List (Str × Str)) (F : List Str) (i k : Nat) : Prop where
  f : Found S PS F i
  upto : ∀ (j : Nat) (p : Str × Str), j < k → PS[j]? = some p → F[i]? = some p.1 → p.2 ∈ F
theorem FoundK.next {S : List Str} {PS : List (Str × Str)} {F : List Str} {i : Nat} (f : FoundK S PS F i PS.length) : Found S PS F (i + 1) :=
  ⟨f.f.nd, f.f.has, f.f.only, fun j b hj hb a ha => by
    rcases Nat.lt_or_ge j i with h | h
    · exact f.f.done j b h hb a ha
    · have e : j = i := by omega
      subst e
      obtain ⟨k, hk⟩ := List.mem_iff_getElem?.mp ha
      exact f.upto k (b, a) (List.getElem?_eq_some_iff.mp hk).1 hk hb⟩
theorem FoundK.skip {S : List Str} {PS : List (Str × Str)} {F : List Str} {i k : Nat} {p : Str × Str} (f : FoundK S PS F i k) (hp : PS[k]? = some p) (h : F[i]? = some p.1 → p.2 ∈ F) : FoundK S PS F i (k + 1) :=
  ⟨f.f, fun j q hj hq hi => by
    rcases Nat.lt_or_ge j k with l | l
    · exact f.upto j q l hq hi
    · have e : j = k := by omega
      subst e
      rw [hp] at hq
      cases hq
      exact h hi⟩
theorem FoundK.put {S : List Str} {PS : List (Str × Str)} {F : List Str} {i k : Nat} {p : Str × Str} (f : FoundK S PS F i k) (hi : i < F.length) (hp : PS[k]? = some p) (hb : F[i]? = some p.1) (hn : p.2 ∉ F) : FoundK S PS (F ++ [p.2]) i (k + 1) := by
  have old : ∀ {j : Nat} {b : Str}, j < F.length → (F ++ [p.2])[j]? = some b → F[j]? = some b := fun {j b} hj e => by rw [List.getElem?_append_left hj] at e; exact e
  refine ⟨⟨?_, fun z hz => List.mem_append_left _ (f.f.has z hz), fun z hz => ?_, fun j b hj hjb a ha => List.mem_append_left _ (f.f.done j b hj (old (by omega) hjb) a ha)⟩, fun j q hj hq hiq => ?_⟩
  · refine List.nodup_append.mpr ⟨f.f.nd, by simp, fun x hx y hy => ?_⟩
    rw [List.mem_singleton] at hy
    rintro rfl
    exact hn (hy ▸ hx)
  · rcases List.mem_append.mp hz with hz | hz
    · exact f.f.only z hz
    · rw [List.mem_singleton] at hz
      subst hz
      exact .step (f.f.only _ (List.mem_of_getElem? hb)) (List.mem_of_getElem? hp)
  · rcases Nat.lt_or_ge j k with l | l
    · exact List.mem_append_left _ (f.upto j q l hq (old hi hiq))
    · have e : j = k := by omega
      subst e
      rw [hp] at hq
      cases hq
      exact List.mem_append_right _ (List.mem_singleton.mpr rfl)
section
variable {P : Program} {w : World} {K : PySem.W.Frag} {mg : Str → Option Value} {base : Heap}
def spReached (K : PySem.W.Frag) : Sp := fun vs H Q _ => ∃ (s0 pl : Addr) (S : List Str) (as : List Addr) (PS : List (Str × Str)), vs = [.ref s0, .ref pl] ∧ (SqL K H s0 (S.map V.str) ∨ SqT K H s0 (S.map V.str)) ∧ S.Nodup ∧ SqL K H pl (as.map V.ref) ∧ PrsAt K H as PS ∧ S.length ≤ 300 ∧ PS.length ≤ 300 ∧
  ∀ (D : Addr) (F : List Str) (H' : Hp), H D = none → Same H H' → H' D = some (.lst (F.map V.str)) → F.Nodup → F.length ≤ 600 → (∀ z, z ∈ F ↔ Reach S PS z) → Q (.ref D) H'
theorem ok_reached {f : Addr} {fd : FuncData} (F : Fun K "_reached" "_reached" s_reached f fd) (T : Top K mg) : FnOk P w K mg base CX0 1 f fd ["starts", "pairs"] (spReached K) := by
  refine F.ok sc_reached (fun vs H Q E h => ?_) (fun cdv A outer s H vs Q E hr h => ?_)
  · obtain ⟨s0, pl, S, as, PS, rfl, _⟩ := h
    rfl
  · obtain ⟨s0, pl, S, as, PS, rfl, hs, hnd, hpl, hps, hl1, hl2, q⟩ := h
    refine ⟨_, pss_cut (ps_set (i := 2) sc_reached.nd rfl (.inl rfl) (pe_callTy call_list_of (by rfl) T.b_list (by decide +kernel) (pa_cons (pv 0) pa_nil)))
      (pss_cut (ps_set (i := 3) sc_reached.nd rfl (.inl rfl) pe_int)
      (pss_cut (ps_while PassesOwn.never (pt_cmpR op_lt (pv 3) (pe_callB call_len_seq (by rfl) T.b_len PySem.boot_len (pa_cons (pv 2) pa_nil)) (nomark _))
        (pss_cut (ps_for PassesOwn.never rfl (pi_listK (K := K) rfl (pv 1)) (pg_tup rfl (pgs_cons (pg_name (i := 4) sc_reached.nd rfl (.inl rfl)) (pgs_cons (pg_name (i := 5) sc_reached.nd rfl (.inl rfl)) pgs_nil)))
          (pss_one (ps_if (PW.pt (pw_and (pt_cmpR op_eq (pv 4) (pe_ix ix_list (pv 2) (pv 3) (fun _ _ => rfl)) (nomark _)) (pw_and1 (pt_cmpR op_notIn_seq (pv 5) (pv 2) (by rfl)))))
            (pss_one (ps_expr (pe_bm PySem.F.plainAttrs_list PySem.F.slot_list_append PySem.F.type_list_append mt_append (pv 2) (pa_cons (pv 5) pa_nil)))) pss_nil)))
        (pss_one (ps_aug (i := 3) sc_reached.nd rfl (.inl rfl) pe_int ip_add))))
      (pss_one (ps_ret (pv 2))))), ?_⟩
    have hst : ∀ {G : Hp}, Same H G → PrsAt K G as PS := fun s => hps.same s
    refine ⟨fun σ' G => ∃ D : Addr, σ' = [some (.ref s0), some (.ref pl), some (.ref D), none, none, none] ∧ G D = some (.lst (S.map V.str)) ∧ Same H G ∧ H D = none, ?_, ?_⟩
    · exact ⟨_, rfl, s0, _, rfl, hs, fun l nl => ⟨l, rfl, upd_same, same_new (Same.refl H) nl, nl⟩⟩
    rintro σ' G1 ⟨D, rfl, eD, s1, nD⟩
    refine ⟨fun σ' G => σ' = [some (.ref s0), some (.ref pl), some (.ref D), some (.int 0), none, none] ∧ G = G1, ⟨rfl, rfl⟩, ?_⟩
    rintro σ' G ⟨rfl, rfl⟩
    refine ⟨fun σ' G => ∃ (F : List Str) (t u : Option V), σ' = [some (.ref s0), some (.ref pl), some (.ref D), some (.int (F.length : Nat)), t, u] ∧ G D = some (.lst (F.map V.str)) ∧ Found S PS F F.length ∧ Same H G, ?_, ?_⟩
    · refine ⟨fun m σ' G => ∃ (F : List Str) (i : Nat) (t u : Option V), σ' = [some (.ref s0), some (.ref pl), some (.ref D), some (.int (i : Nat)), t, u] ∧ G D = some (.lst (F.map V.str)) ∧ Found S PS F i ∧ i ≤ F.length ∧ m = S.length + PS.length - i ∧ Same H G,
        ⟨_, S, 0, _, _, rfl, eD, ⟨hnd, fun _ h => h, fun _ h => .start h, fun j _ hj => absurd hj (Nat.not_lt_zero _)⟩, Nat.zero_le _, rfl, s1⟩, fun m σ' G hW => ?_⟩
      obtain ⟨F, i, t, u, rfl, eF, hF, hi, rfl, sm⟩ := hW
      have few := hF.few
      refine ⟨_, rfl, _, rfl, D, _, rfl, .inl (.inl (.inl eF)), _, _, rfl, rfl, _, rfl, ite2 (fun c0 => ?_) (fun c0 => ?_)⟩
      · have hi2 : i < F.length := by
          have := of_decide_eq_true c0
          rw [List.length_map] at this
          omega
        refine ⟨fun σ' G => ∃ (F : List Str) (t u : Option V), σ' = [some (.ref s0), some (.ref pl), some (.ref D), some (.int ((i + 1 : Nat) : Int)), t, u] ∧ G D = some (.lst (F.map V.str)) ∧ Found S PS F (i + 1) ∧ i + 1 ≤ F.length ∧ Same H G, ?_, ?_⟩
        · rintro σ' G' ⟨F', t', u', e1, e2, e3, e4, e5⟩
          exact ⟨S.length + PS.length - (i + 1), by omega, F', i + 1, t', u', e1, e2, e3, e4, rfl, e5⟩
        refine ⟨fun σ' G => ∃ (F : List Str) (t u : Option V), σ' = [some (.ref s0), some (.ref pl), some (.ref D), some (.int (i : Nat)), t, u] ∧ G D = some (.lst (F.map V.str)) ∧ FoundK S PS F i PS.length ∧ i < F.length ∧ Same H G, ?_, ?_⟩
        · refine ⟨_, rfl, pl, rfl, ⟨_, sqL_sameE sm hpl⟩, ?_⟩
          have las : as.length = PS.length := Paired.length hps
          refine for_it (walk_list (K := K) (a := pl) (xs := as.map V.ref)) (fun j σ' G => ∃ (F : List Str) (t u : Option V), σ' = [some (.ref s0), some (.ref pl), some (.ref D), some (.int (i : Nat)), t, u] ∧ G D = some (.lst (F.map V.str)) ∧ FoundK S PS F i j ∧ i < F.length ∧ Same H G)
            ⟨F, t, u, rfl, eF, ⟨hF, fun j _ hj => absurd hj (Nat.not_lt_zero _)⟩, hi2, sm⟩ (fun j σ' G _ h => by obtain ⟨_, _, _, _, _, _, _, s⟩ := h; exact sqL_sameE s hpl) (fun j x σ' G G' hj h hy => ?_) (fun σ' G h => ?_)
          · obtain ⟨F2, t2, u2, rfl, eF2, hK, hi3, sm2⟩ := h
            obtain ⟨rfl, hx⟩ := hy
            rw [List.getElem?_map] at hx
            obtain ⟨a, ha, rfl⟩ := Option.map_eq_some_iff.mp hx
            obtain ⟨p, hp, hsq⟩ := paired_get (hst sm2) ha
            have hat : atI (F2.map V.str) (i : Int) = some (V.str F2[i]) := by
              unfold atI
              have e1 : ixN (F2.map V.str).length (i : Int) = some i := by
                unfold ixN
                rw [if_pos (Int.natCast_nonneg i), List.length_map]
                simp [hi3]
              rw [e1, Option.bind_some, List.getElem?_map, List.getElem?_eq_getElem hi3]
              rfl
            have eFi : F2[i]? = some F2[i] := List.getElem?_eq_getElem hi3
            refine ⟨a, _, rfl, hsq, rfl, _, _, rfl, _, _, rfl, rfl, ?_⟩
            refine ⟨_, rfl, _, rfl, _, rfl, D, _, _, _, rfl, rfl, .inl (.inl eF2), hat, rfl, _, rfl, ite2 (fun c1 => ?_) (fun c1 => ?_)⟩
            · have eb : p.1 = F2[i] := by
                have := of_decide_eq_true c1
                injection this
              refine ⟨_, rfl, _, rfl, D, _, rfl, .inl (.inl (.inl eF2)), rfl, flat_tx F2, !decide (p.2 ∈ F2), congrArg V.bl (by rw [← inV_tx p.2 F2]; rfl), ite2 (fun c2 => ?_) (fun c2 => ?_)⟩
              · have hn : p.2 ∉ F2 := fun z => by rw [decide_eq_true z] at c2; cases c2
                have fw := hK.f.few
                refine ⟨_, rfl, ⟨.inl ⟨rfl, _, .inl (.inl eF2)⟩, _, rfl, D, _, _, rfl, rfl, eF2, ?_, ?_⟩⟩
                · rw [List.length_map]
                  exact Nat.lt_of_le_of_lt (show F2.length ≤ 600 by omega) (by decide)
                · refine ⟨F2 ++ [p.2], _, _, rfl, ?_, hK.put hi3 hp (by rw [eFi, eb]) hn, by rw [List.length_append]; omega, fun b o e => ?_⟩
                  · rw [upd_same, List.map_append]
                    rfl
                  · rw [upd_ne (ne_of_none e nD)]
                    exact sm2 b o e
              · have hin : p.2 ∈ F2 := by
                  cases c3 : decide (p.2 ∈ F2) with
                  | true => exact of_decide_eq_true c3
                  | false => rw [c3] at c2; exact absurd rfl c2
                exact ⟨F2, _, _, rfl, eF2, hK.skip hp fun _ => hin, hi3, sm2⟩
            · refine ⟨F2, _, _, rfl, eF2, hK.skip hp fun z => ?_, hi3, sm2⟩
              rw [eFi] at z
              exact absurd (decide_eq_true (by rw [Option.some.inj z])) c1
          · rw [List.length_map, las] at h
            exact h
        rintro σ' G' ⟨F', t', u', rfl, e2, e3, e4, e5⟩
        refine ⟨_, rfl, _, _, rfl, rfl, F', t', u', ?_, e2, e3.next, by omega, e5⟩
        rw [show ((i + 1 : Nat) : Int) = (i : Int) + 1 by omega]
        rfl
      · have e : i = F.length := by
          have : ¬ ((i : Int) < ((F.map V.str).length : Int)) := fun z => c0 (decide_eq_true z)
          rw [List.length_map] at this
          omega
        subst e
        exact ⟨F, t, u, rfl, eF, hF, sm⟩
    rintro σ' G ⟨F, t, u, rfl, eF, hF, sm⟩
    have few := hF.few
    exact ⟨_, rfl, q D F G nD sm eF hF.nd (by omega) hF.all⟩
end
end Kl

set_option maxRecDepth 100000
set_option maxHeartbeats 4000000
namespace Kl
open PySem PySem.Spec PyProof.Rows L2 Gx Mx
/-! ### _spare -/
def fwd (R : Rds) : List (Str × Str) := R.map fun r => (r.1.1, r.2)
def bwd (R : Rds) : List (Str × Str) := R.map fun r => (r.2, r.1.1)
/-- the places of the lines of R that no row needs, at M -/
def SpareAt (K : PySem.W.Frag) (H : Hp) (first : Str) (ends : List Str) (R : Rds) (M : List (Addr × KW)) : Prop := (∀ x ∈ M, KeyA K H x.1 (keyK x.2)) ∧
  ∃ B Lv : List Str, (∀ z, z ∈ B ↔ Reach [first] (fwd R) z) ∧ (∀ z, z ∈ Lv ↔ Reach ends (bwd R) z) ∧ M.map (·.2) = (R.filter fun r => !decide (r.1.1 ∈ B) || !decide (r.2 ∈ Lv)).map (·.1)
theorem sqT_upd {K : PySem.W.Frag} {G : Hp} {d a : Addr} {u : HO} {xs : List V} (n : ∀ ys, ¬ Rd G d (.tup ys)) (h : SqT K G a xs) : SqT K (upd G d u) a xs := by
  rcases h with h | h
  · have na : a ≠ d := fun z => n xs (z ▸ h)
    refine .inl ?_
    rcases h with h | ⟨o, h⟩
    · exact .inl (by rw [upd_ne na]; exact h)
    · exact .inr ⟨o, by rw [upd_ne na]; exact h⟩
  · exact .inr h
theorem no_lst {G : Hp} {d : Addr} {zs : List V} (e : G d = some (.lst zs)) : ∀ ys, ¬ Rd G d (.tup ys) := fun ys h => by
  rcases h with h | ⟨o, h⟩
  · rw [e] at h; cases h
  · rw [e] at h; cases h
theorem no_frz {G : Hp} {d : Addr} {o : Obj} {φ : Heap → Prop} (e : G d = some (.frz o (.ext φ))) : ∀ ys, ¬ Rd G d (.tup ys) := fun ys h => by
  rcases h with h | ⟨o, h⟩
  · rw [e] at h; cases h
  · rw [e] at h; cases h
theorem PrsAt.upd_ {K : PySem.W.Frag} {G : Hp} {d : Addr} {u : HO} (n : ∀ ys, ¬ Rd G d (.tup ys)) : ∀ {as : List Addr} {PS : List (Str × Str)}, PrsAt K G as PS → PrsAt K (upd G d u) as PS
  | _, _, .nil => .nil
  | _, _, .cons h t => .cons (sqT_upd n h) (PrsAt.upd_ n t)
theorem PrsAt.snoc {K : PySem.W.Frag} {H : Hp} : ∀ {as : List Addr} {PS : List (Str × Str)}, PrsAt K H as PS → ∀ {a : Addr} {p : Str × Str}, SqT K H a [V.str p.1, V.str p.2] → PrsAt K H (as ++ [a]) (PS ++ [p])
  | _, _, .nil, _, _, h => .cons h .nil
  | _, _, .cons q t, _, _, h => .cons q (PrsAt.snoc t h)
theorem op_notInK {X : Cx} {K : PySem.W.Frag} (hk : X.K = K) : OpR X (compareOp .NotIn) (rIn K true) := by
  subst hk
  exact op_notIn_seq
theorem ix_tupK {X : Cx} {K : PySem.W.Frag} (hk : X.K = K) : IxR X (rIxT K) := by
  subst hk
  exact ix_tup
section
variable {P : Program} {w : World} {K : PySem.W.Frag} {mg : Str → Option Value} {base : Heap}
def spSpare (P : Program) (w : World) (K : PySem.W.Frag) : Sp := fun vs H Q _ => ∃ (first : Str) (e d : Addr) (ends : List Str) (R : Rds), vs = [.str first, .ref e, .ref d] ∧ (SqL K H e (ends.map V.str) ∨ SqT K H e (ends.map V.str)) ∧ ends.Nodup ∧ RDict P w K H d R ∧ ends.length ≤ 100 ∧ R.length ≤ 300 ∧
  ∀ (M : List (Addr × KW)) (p : Addr) (H' : Hp), Same H H' → H p = none → H' p = some (.tup (M.map fun x => V.ref x.1)) → SpareAt K H' first ends R M → Q (.ref p) H'
theorem ok_spare {f : Addr} {fd : FuncData} (F : Fun K "_spare" "_spare" s_spare f fd) (T : Top K mg) : FnOk P w K mg base CX0 2 f fd ["first", "ends", "reads"] (spSpare P w K) := by
  have cr : Cal P w K mg base 1 "_reached" ["starts", "pairs"] (spReached K) := T.d_reached.cal fun f fd F => ok_reached F T
  refine F.ok sc_spare (fun vs H Q E h => ?_) (fun cdv A outer s H vs Q E hr h => ?_)
  · obtain ⟨first, e, d, ends, R, rfl, _⟩ := h
    rfl
  · obtain ⟨first, e, d, ends, R, rfl, he, hnd, ⟨L, hd, hk, hL⟩, hle, hl, q⟩ := h
    refine ⟨_, pss_cut (ps_lock (ps_setLc (i := 3) (own := [("place", 6), ("after", 7)]) (g := gTup K 2 (gCons (gName 6) (gCons (gName 7) gNil))) (tt := tYes) (by rfl) sc_spare.nd rfl rfl (sw_true rfl rfl rfl (by decide +kernel)) (pi_itemsN (P := P) (w := w) (K := K) (by exact ⟨rfl, rfl, rfl⟩) (pv 2))
            (blkOk_by (N := ["first", "ends", "reads", "pairs", "begun", "live", "place", "after", "before"]) (sc := defScope s_spare) (by decide +kernel))
            (fun _ _ _ _ _ => pg_tup rfl (pgs_cons (pg_name (i := 6) sc_spare.nd rfl (.inl rfl)) (pgs_cons (pg_name (i := 7) sc_spare.nd rfl (.inl rfl)) pgs_nil))) (fun _ _ _ _ _ => pts_nil)
            (fun _ _ _ _ _ => pe_tup (pa_cons (pe_ix (ix_tupK (K := K) (by exact rfl)) (pv 6) pe_int (fun _ _ => rfl)) (pa_cons (pv 7) pa_nil)))))
      (pss_cut (ps_set (i := 4) sc_spare.nd rfl (.inr rfl) (pe_cal cr hr (by rfl) (pa_cons (pe_lst (pa_cons (pv 0) pa_nil)) (pa_cons (pv 3) pa_nil))))
      (pss_cut (ps_set (i := 5) sc_spare.nd rfl (.inr rfl) (pe_cal cr hr (by rfl) (pa_cons (pv 1) (pa_cons (pe_lc (own := [("before", 8), ("after", 7)]) (g := gTup K 2 (gCons (gName 8) (gCons (gName 7) gNil))) (tt := tYes) rfl sc_spare.nd (pi_listK (K := K) rfl (pv 3))
            (blkOk_by (N := ["first", "ends", "reads", "pairs", "begun", "live", "place", "after", "before"]) (sc := defScope s_spare) (by decide +kernel))
            (fun _ _ _ _ _ => pg_tup rfl (pgs_cons (pg_name (i := 8) sc_spare.nd rfl (.inl rfl)) (pgs_cons (pg_name (i := 7) sc_spare.nd rfl (.inl rfl)) pgs_nil))) (fun _ _ _ _ _ => pts_nil)
            (fun _ _ _ _ _ => pe_tup (pa_cons (pv 7) (pa_cons (pv 8) pa_nil)))) pa_nil))))
      (pss_one (ps_ret (pe_callTy call_tuple_of (by rfl) T.b_tuple (by decide +kernel) (pa_cons (pe_lock (pe_lc (own := [("place", 6), ("after", 7)]) (g := gTup K 2 (gCons (gName 6) (gCons (gName 7) gNil))) rfl sc_spare.nd (pi_itemsN (P := P) (w := w) (K := K) (by exact ⟨rfl, rfl, rfl⟩) (pv 2))
            (blkOk_by (N := ["first", "ends", "reads", "pairs", "begun", "live", "place", "after", "before"]) (sc := defScope s_spare) (by decide +kernel))
            (fun _ _ _ _ _ => pg_tup rfl (pgs_cons (pg_name (i := 6) sc_spare.nd rfl (.inl rfl)) (pgs_cons (pg_name (i := 7) sc_spare.nd rfl (.inl rfl)) pgs_nil)))
            (fun _ _ _ _ _ => pts_one (PW.pt (pw_or (pt_cmpR (op_notInK (K := K) (by exact rfl)) (pe_ix (ix_tupK (K := K) (by exact rfl)) (pv 6) pe_int (fun _ _ => rfl)) (pv 4) (by rfl)) (pw_or1 (pt_cmpR (op_notInK (K := K) (by exact rfl)) (pv 7) (pv 5) (by rfl))))))
            (fun _ _ _ _ _ => pv 6))) pa_nil)))))), ?_⟩
    have hlen := prM_len hL
    have fr : ∀ {G : Hp} {D : Addr} {od : Obj}, upd G d (.frz od (DN P w d (toN L))) D = none → D ≠ d ∧ G D = none := fun {G D od} hD => by
      have n : D ≠ d := fun z => by rw [z, upd_same] at hD; cases hD
      rw [upd_ne n] at hD
      exact ⟨n, hD⟩
    -- one turn of the items
    have turn : ∀ {G0 G : Hp} {od : Obj} {Tt : Addr} {x1 y1 : V} {j : Nat}, Same H G0 → G0 d = some (DN P w d (toN L)) → Lkd P w G0 G d od (toN L) → G Tt = none → ((toN L)[j]?.map fun e => V.ref e.2.1) = some x1 → ((toN L)[j]?.map fun e => e.2.2) = some y1 →
        ∃ (x0 : KW × Addr × V) (r : KW × Str) (g : Addr), L[j]? = some x0 ∧ R[j]? = some r ∧ x0.1 = r.1 ∧ x1 = .ref x0.2.1 ∧ y1 = .str r.2 ∧ Lkd P w G0 (upd G Tt (.tup [x1, y1])) d od (toN L) ∧ SqT K (upd G Tt (.tup [x1, y1])) Tt [.ref x0.2.1, .str r.2] ∧ SqT K (upd G Tt (.tup [x1, y1])) x0.2.1 [.str r.1.1, .ref g] ∧ KeyA K (upd G Tt (.tup [x1, y1])) x0.2.1 (keyK r.1) :=
      fun {G0 G od Tt x1 y1 j} s0 hd0 lk nT h1 h2 => by
        obtain ⟨e0, he0, rfl⟩ := Option.map_eq_some_iff.mp h1
        obtain ⟨e0', he0', rfl⟩ := Option.map_eq_some_iff.mp h2
        obtain rfl : e0 = e0' := Option.some.inj (he0.symm.trans he0')
        obtain ⟨x0, hx0, rfl⟩ := toN_at he0
        obtain ⟨r, hr0, er1, er2⟩ := prM_at hL hx0
        have lkT := lk.more (same_new (o := HO.tup [V.ref x0.2.1, x0.2.2]) (Same.refl G) nT)
        have ky := lkT.key hd0 (keyA_same s0 (hk x0 (List.mem_of_getElem? hx0)))
        rw [er1] at ky
        obtain ⟨g, hg1, hg2⟩ := keyK_at.mp ky
        exact ⟨x0, r, g, hx0, hr0, er1, rfl, er2, lkT, by rw [← er2]; exact SqT.of upd_same, hg1, ky⟩
    refine ⟨fun σ' G => ∃ (D : Addr) (as : List Addr), σ' = [some (.str first), some (.ref e), some (.ref d), some (.ref D), none, none, none, none, none] ∧ G D = some (.lst (as.map V.ref)) ∧ PrsAt K G as (fwd R) ∧ Same H G, ?_, ?_⟩
    · refine ⟨d, _, hd, True.intro, fun od => ⟨_, rfl, d, od, toN L, rfl, upd_same, fun D hD => ?_⟩⟩
      obtain ⟨hDd, hD0⟩ := fr hD
      refine lc_it (walk_itemsN (P := P) (w := w) (d := d) (o := od) (L := toN L)) (fun j G => ∃ as : List Addr, G D = some (.lst (as.map V.ref)) ∧ PrsAt K G as ((fwd R).take j) ∧ Lkd P w H G d od (toN L) ∧ as.length ≤ 1000) ⟨[], upd_same, .nil, Lkd.of.more (same_new (Same.refl _) hD), Nat.zero_le _⟩ (fun j G _ hP => by obtain ⟨_, _, _, lk, _⟩ := hP; exact lk.at_) (fun j x G G' hj hP hy => ?_) (fun G hP => ?_)
      · obtain ⟨as, eD, hPr, lk, hal⟩ := hP
        obtain ⟨Tt, x1, y1, rfl, nT, rfl, h1, h2⟩ := hy
        obtain ⟨x0, r, g, hx0, hr0, er1, rfl, rfl, lkT, hTt, hkey, ky⟩ := turn (Same.refl H) hd lk nT h1 h2
        have sT : Same G (upd G Tt (.tup [V.ref x0.2.1, V.str r.2])) := same_new (Same.refl G) nT
        have eDT := sT _ _ eD
        have hPT := hPr.same sT
        generalize upd G Tt (.tup [V.ref x0.2.1, V.str r.2]) = G1 at *
        refine ⟨Tt, _, rfl, hTt, rfl, _, _, rfl, _, _, rfl, rfl, rfl, _, rfl, x0.2.1, _, 0, _, rfl, rfl, hkey, rfl, _, rfl, ?_⟩
        refine ⟨by show 2 ≤ sizeLine; decide, fun T nT2 => ?_⟩
        have s2 : Same G1 (upd G1 T (.tup [V.str r.1.1, V.str r.2])) := same_new (Same.refl G1) nT2
        have eD2 := s2 _ _ eDT
        have hT2 : SqT K (upd G1 T (.tup [V.str r.1.1, V.str r.2])) T [V.str r.1.1, V.str r.2] := SqT.of upd_same
        have lk2 := lkT.more s2
        have hP2 := hPT.same s2
        generalize upd G1 T (.tup [V.str r.1.1, V.str r.2]) = G2 at *
        have lP : as.length ≤ j := by
          have := Paired.length hPr
          rw [List.length_take] at this
          omega
        have hj2 : j < 300 := by
          rw [toN_len, hlen] at hj
          omega
        refine ⟨_, eD2, ?_, as ++ [T], ?_, ?_, ⟨by rw [upd_ne (Ne.symm hDd)]; exact lk2.at_, fun b u n e => by rw [upd_ne (ne_of_none e hD0)]; exact lk2.sm b u n e⟩, by rw [List.length_append, List.length_singleton]; omega⟩
        · rw [List.length_map]
          exact Nat.lt_of_le_of_lt (show as.length ≤ 1000 by omega) (by decide)
        · rw [upd_same, List.map_append]
          rfl
        · have ef : (fwd R).take (j + 1) = (fwd R).take j ++ [(r.1.1, r.2)] := by
            unfold fwd
            rw [List.take_add_one, List.getElem?_map, hr0]
            rfl
          rw [ef]
          exact PrsAt.snoc (hP2.upd_ (no_lst eD2)) (sqT_upd (no_lst eD2) hT2)
      · obtain ⟨as, eD, hPr, lk, hal⟩ := hP
        rw [toN_len, hlen, List.take_of_length_le (by unfold fwd; rw [List.length_map]; exact Nat.le_refl _)] at hPr
        exact ⟨lk.at_, D, as, rfl, by rw [upd_ne hDd]; exact eD, hPr.upd_ (no_frz lk.at_), lk.back hd⟩
    rintro σ' G1 ⟨D1, as1, rfl, eD1, hP1, s1⟩
    have lf : (fwd R).length ≤ 300 := by unfold fwd; rw [List.length_map]; exact hl
    have lb : (bwd R).length ≤ 300 := by unfold bwd; rw [List.length_map]; exact hl
    have la1 : as1.length = R.length := by
      have := Paired.length hP1
      unfold fwd at this
      rw [List.length_map] at this
      exact this
    refine ⟨fun σ' G => ∃ (DB : Addr) (B : List Str), σ' = [some (.str first), some (.ref e), some (.ref d), some (.ref D1), some (.ref DB), none, none, none, none] ∧ G DB = some (.lst (B.map V.str)) ∧ (∀ z, z ∈ B ↔ Reach [first] (fwd R) z) ∧ B.length ≤ 600 ∧ Same G1 G, ?_, ?_⟩
    · refine ⟨_, rfl, by show 1 ≤ sizeLine; decide, fun l nl => ?_⟩
      have s2 : Same G1 (upd G1 l (.lst [V.str first])) := same_new (Same.refl G1) nl
      refine ⟨_, rfl, l, D1, [first], as1, fwd R, rfl, .inl (.inl (.inl upd_same)), by simp, sqL_sameE s2 (.inl (.inl eD1)), hP1.same s2, by show 1 ≤ 300; omega, lf, fun DB B G nD sm eB _ hB6 hB => ⟨DB, B, rfl, eB, hB, hB6, s2.trans sm⟩⟩
    rintro σ' G2 ⟨DB, B, rfl, eB, hB, lB, s2⟩
    have s02 := s1.trans s2
    refine ⟨fun σ' G => ∃ (DL : Addr) (Lv : List Str), σ' = [some (.str first), some (.ref e), some (.ref d), some (.ref D1), some (.ref DB), some (.ref DL), none, none, none] ∧ G DL = some (.lst (Lv.map V.str)) ∧ (∀ z, z ∈ Lv ↔ Reach ends (bwd R) z) ∧ Lv.length ≤ 600 ∧ Same G2 G, ?_, ?_⟩
    · refine ⟨_, rfl, _, rfl, D1, rfl, ⟨_, .inl (.inl (s2 _ _ eD1))⟩, fun D hD => ?_⟩
      refine lc_it (walk_list (K := K) (a := D1) (xs := as1.map V.ref)) (fun j G => ∃ as : List Addr, G D = some (.lst (as.map V.ref)) ∧ PrsAt K G as ((bwd R).take j) ∧ Same G2 G) ⟨[], upd_same, .nil, same_new (Same.refl G2) hD⟩ (fun j G _ hP => by obtain ⟨_, _, _, s⟩ := hP; exact .inl (.inl (s _ _ (s2 _ _ eD1)))) (fun j x G G' hj hP hy => ?_) (fun G hP => ?_)
      · obtain ⟨as, eD, hPr, sm⟩ := hP
        obtain ⟨rfl, hx⟩ := hy
        rw [List.getElem?_map] at hx
        obtain ⟨a, ha, rfl⟩ := Option.map_eq_some_iff.mp hx
        obtain ⟨p, hp, hsq⟩ := paired_get ((hP1.same s2).same sm) ha
        refine ⟨a, _, rfl, hsq, rfl, _, _, rfl, _, _, rfl, rfl, rfl, _, rfl, _, rfl, by show 2 ≤ sizeLine; decide, fun T nT2 => ?_⟩
        obtain ⟨r, hr0, rfl⟩ : ∃ r, R[j]? = some r ∧ p = (r.1.1, r.2) := by
          unfold fwd at hp
          rw [List.getElem?_map] at hp
          obtain ⟨r, h1, h2⟩ := Option.map_eq_some_iff.mp hp
          exact ⟨r, h1, h2.symm⟩
        have s4 : Same G' (upd G' T (.tup [V.str r.2, V.str r.1.1])) := same_new (Same.refl G') nT2
        have eD4 := s4 _ _ eD
        have hP4 := hPr.same s4
        have hT4 : SqT K (upd G' T (.tup [V.str r.2, V.str r.1.1])) T [V.str r.2, V.str r.1.1] := SqT.of upd_same
        have sm4 := sm.trans s4
        show ∃ acc, (upd G' T (.tup [V.str r.2, V.str r.1.1])) D = some (.lst acc) ∧ acc.length < sizeLine ∧ ∃ as : List Addr, _ ∧ _ ∧ Same G2 (upd (upd G' T (.tup [V.str r.2, V.str r.1.1])) D (.lst (acc ++ [V.ref T])))
        generalize upd G' T (.tup [V.str r.2, V.str r.1.1]) = G4 at *
        have lP : as.length ≤ 300 := by
          have := Paired.length hPr
          rw [List.length_take] at this
          omega
        refine ⟨_, eD4, ?_, as ++ [T], ?_, ?_, fun b u n => by rw [upd_ne (ne_of_none n hD)]; exact sm4 b u n⟩
        · rw [List.length_map]
          exact Nat.lt_of_le_of_lt (show as.length ≤ 1000 by omega) (by decide)
        · rw [upd_same, List.map_append]
          rfl
        · have ef : (bwd R).take (j + 1) = (bwd R).take j ++ [(r.2, r.1.1)] := by
            unfold bwd
            rw [List.take_add_one, List.getElem?_map, hr0]
            rfl
          rw [ef]
          exact PrsAt.snoc (hP4.upd_ (no_lst eD4)) (sqT_upd (no_lst eD4) hT4)
      · obtain ⟨as, eD, hPr, sm⟩ := hP
        rw [List.length_map, la1, List.take_of_length_le (by unfold bwd; rw [List.length_map]; exact Nat.le_refl _)] at hPr
        have s04 := s02.trans sm
        exact ⟨e, D, ends, as, bwd R, rfl, he.imp (sqL_sameE s04) (sqT_same s04), hnd, .inl (.inl eD), hPr, by omega, lb, fun DL Lv G nD s5 eL _ l6 h => ⟨DL, Lv, rfl, eL, h, l6, sm.trans s5⟩⟩
    rintro σ' G3 ⟨DL, Lv, rfl, eL, hLv, lL, s3⟩
    have s03 := s02.trans s3
    have hd3 := s03 _ _ hd
    have eB3 := s3 _ _ eB
    refine ⟨d, _, hd3, True.intro, fun od => ⟨_, rfl, d, od, toN L, rfl, upd_same, fun D hD => ?_⟩⟩
    obtain ⟨hDd, hD0⟩ := fr hD
    refine lc_it (walk_itemsN (P := P) (w := w) (d := d) (o := od) (L := toN L)) (fun j G => ∃ M : List (Addr × KW), G D = some (.lst (M.map fun x => V.ref x.1)) ∧ (∀ x ∈ M, KeyA K G x.1 (keyK x.2)) ∧ M.map (·.2) = ((R.take j).filter fun r => !decide (r.1.1 ∈ B) || !decide (r.2 ∈ Lv)).map (·.1) ∧ Lkd P w G3 G d od (toN L) ∧ M.length ≤ j)
      ⟨[], upd_same, nofun, rfl, Lkd.of.more (same_new (Same.refl _) hD), Nat.le_refl _⟩ (fun j G _ hP => by obtain ⟨_, _, _, _, lk, _⟩ := hP; exact lk.at_) (fun j x G G' hj hP hy => ?_) (fun G hP => ?_)
    · obtain ⟨M, eD, hM, eM, lk, lM⟩ := hP
      obtain ⟨Tt, x1, y1, rfl, nT, rfl, h1, h2⟩ := hy
      obtain ⟨x0, r, g, hx0, hr0, er1, rfl, rfl, lkT, hTt, hkey, ky⟩ := turn s03 hd3 lk nT h1 h2
      have sT : Same G (upd G Tt (.tup [V.ref x0.2.1, V.str r.2])) := same_new (Same.refl G) nT
      have eDT := sT _ _ eD
      have hMT : ∀ x ∈ M, KeyA K (upd G Tt (.tup [V.ref x0.2.1, V.str r.2])) x.1 (keyK x.2) := fun x hx => keyA_same sT (hM x hx)
      have nd1 : ∀ {b : Addr} {u : HO}, G3 b = some u → (∀ φ, u ≠ .ext φ) → b ≠ d := fun {b u} e n z => by
        subst z
        rw [hd3] at e
        exact n _ (Option.some.inj e).symm
      have eBT := lkT.sm _ _ (nd1 eB3 fun _ z => nomatch z) eB3
      have eLT := lkT.sm _ _ (nd1 eL fun _ z => nomatch z) eL
      generalize upd G Tt (.tup [V.ref x0.2.1, V.str r.2]) = G1' at *
      have etake : (R.take (j + 1)).filter (fun r => !decide (r.1.1 ∈ B) || !decide (r.2 ∈ Lv)) = (R.take j).filter (fun r => !decide (r.1.1 ∈ B) || !decide (r.2 ∈ Lv)) ++ (if (!decide (r.1.1 ∈ B) || !decide (r.2 ∈ Lv)) = true then [r] else []) := by
        rw [List.take_add_one, hr0, List.filter_append]
        show _ ++ List.filter _ [r] = _
        rw [List.filter_cons, List.filter_nil]
      have put : (!decide (r.1.1 ∈ B) || !decide (r.2 ∈ Lv)) = true → ∃ acc, G1' D = some (.lst acc) ∧ acc.length < sizeLine ∧ ∃ M : List (Addr × KW), (upd G1' D (.lst (acc ++ [V.ref x0.2.1]))) D = some (.lst (M.map fun x => V.ref x.1)) ∧ (∀ x ∈ M, KeyA K (upd G1' D (.lst (acc ++ [V.ref x0.2.1]))) x.1 (keyK x.2)) ∧
          M.map (·.2) = ((R.take (j + 1)).filter fun r => !decide (r.1.1 ∈ B) || !decide (r.2 ∈ Lv)).map (·.1) ∧ Lkd P w G3 (upd G1' D (.lst (acc ++ [V.ref x0.2.1]))) d od (toN L) ∧ M.length ≤ j + 1 := fun c => by
        refine ⟨_, eDT, ?_, M ++ [(x0.2.1, r.1)], ?_, fun y hy => ?_, ?_, ⟨by rw [upd_ne (Ne.symm hDd)]; exact lkT.at_, fun b u n e => by rw [upd_ne (ne_of_none e hD0)]; exact lkT.sm b u n e⟩, by rw [List.length_append, List.length_singleton]; omega⟩
        · rw [toN_len, hlen] at hj
          rw [List.length_map]
          exact Nat.lt_of_le_of_lt (show M.length ≤ 1000 by omega) (by decide)
        · rw [upd_same, List.map_append]
          rfl
        · rcases List.mem_append.mp hy with hy | hy
          · exact (hMT y hy).mono fun _ _ q => sqT_upd (no_lst eDT) q
          · rw [List.mem_singleton] at hy
            subst hy
            exact ky.mono fun _ _ q => sqT_upd (no_lst eDT) q
        · rw [List.map_append, eM, etake, if_pos c, List.map_append]
          rfl
      have skip : (!decide (r.1.1 ∈ B) || !decide (r.2 ∈ Lv)) = false → ∃ M : List (Addr × KW), G1' D = some (.lst (M.map fun x => V.ref x.1)) ∧ (∀ x ∈ M, KeyA K G1' x.1 (keyK x.2)) ∧ M.map (·.2) = ((R.take (j + 1)).filter fun r => !decide (r.1.1 ∈ B) || !decide (r.2 ∈ Lv)).map (·.1) ∧ Lkd P w G3 G1' d od (toN L) ∧ M.length ≤ j + 1 := fun c =>
        ⟨M, eDT, hMT, by rw [eM, etake, if_neg (by rw [c]; decide), List.append_nil], lkT, by omega⟩
      refine ⟨Tt, _, rfl, hTt, rfl, _, _, rfl, _, _, rfl, rfl, rfl, ?_⟩
      refine ⟨_, rfl, x0.2.1, _, 0, _, rfl, rfl, hkey, rfl, _, rfl, DB, _, rfl, .inl (.inl (.inl eBT)), rfl, flat_tx B, !decide (r.1.1 ∈ B), congrArg V.bl (by rw [← inV_tx r.1.1 B]; rfl), ite2 (fun c1 => ?_) (fun c1 => ?_)⟩
      · exact ite2 (fun _ => ⟨_, rfl, put (by rw [show (!decide (r.1.1 ∈ B)) = true from c1]; rfl)⟩) (fun z => absurd rfl z)
      · refine ⟨_, rfl, _, rfl, DL, _, rfl, .inl (.inl (.inl eLT)), rfl, flat_tx Lv, !decide (r.2 ∈ Lv), congrArg V.bl (by rw [← inV_tx r.2 Lv]; rfl), ?_⟩
        have c1' : (!decide (r.1.1 ∈ B)) = false := by
          cases c : (!decide (r.1.1 ∈ B)) with
          | false => rfl
          | true => exact absurd c c1
        refine ite2 (fun c2 => ⟨_, rfl, put (by rw [c1', show (!decide (r.2 ∈ Lv)) = true from c2]; rfl)⟩) (fun c2 => skip ?_)
        rw [c1', Bool.false_or]
        cases c : (!decide (r.2 ∈ Lv)) with
        | false => rfl
        | true => exact absurd c c2
    · obtain ⟨M, eD, hM, eM, lk, lM⟩ := hP
      rw [toN_len, hlen, List.take_length] at eM
      have sE := s03.trans (lk.back hd3)
      refine ⟨lk.at_, D, _, rfl, .inl ⟨.inl (.inl (by rw [upd_ne hDd]; exact eD)), fun t nt => ?_⟩⟩
      have sF := sE.trans (same_new (o := HO.tup (M.map fun x => V.ref x.1)) (Same.refl _) nt)
      exact q M t _ sF (sE.free nt) upd_same ⟨fun x hx => keyA_same (same_new (Same.refl _) nt) ((hM x hx).mono fun _ _ z => sqT_upd (no_frz lk.at_) z), B, Lv, hB, hLv, eM⟩
end
end Kl

set_option maxRecDepth 100000
set_option maxHeartbeats 4000000
namespace Kl
open PySem PySem.Spec PyProof.Rows L2 Gx Mx
section
variable {P : Program} {w : World} {K : PySem.W.Frag} {mg : Str → Option Value} {base : Heap}
/-! ### the law's dice -/
def spDice (K : PySem.W.Frag) : Sp := fun vs H Q _ => ∃ (a : Addr) (ns : List Int) (i : Nat), vs = [.ref a, .int i] ∧ SqL K H a (ns.map V.int) ∧ ns.length ≤ 63 ∧ i ≤ 1000 ∧
  ∀ (p : Addr) (x b : Int), H p = none → Q (.ref p) (upd H p (.lst [.int x, .int b, .int 0]))
theorem ok_dice {f : Addr} {fd : FuncData} (F : Fun K "_law_dice" "_law_dice" s_law_dice f fd) (T : Top K mg) : FnOk P w K mg base CX0 1 f fd ["_law_script", "_law_spot"] (spDice K) := by
  refine F.ok sc_law_dice (fun vs H Q E h => ?_) (fun cdv A outer s H vs Q E hr h => ?_)
  · obtain ⟨a, ns, i, rfl, _⟩ := h
    rfl
  · obtain ⟨a, ns, i, rfl, hS, hlen, hi, q⟩ := h
    refine ⟨_, pss_cut (ps_set (i := 2) sc_law_dice.nd rfl (.inl rfl) (pe_ifExp
        (pt_cmpR op_lt (pv 1) (pe_callB call_len_seq (by rfl) T.b_len PySem.boot_len (pa_cons (pv 0) pa_nil)) (nomark _))
        (pe_callTy call_int1 (by rfl) T.b_int (by decide +kernel) (pa_cons (pe_ix ix_list (pv 0) (pv 1) (fun _ _ => rfl)) pa_nil))
        (pe_op op_add (pe_op op_mul pe_int (pv 1)) pe_int)))
      (pss_cons (ps_set (i := 3) sc_law_dice.nd rfl (.inl rfl) (pe_op op_mod
        (pe_callB (call_max2 rfl) (by rfl) T.b_max (by decide +kernel) (pa_cons pe_int (pa_cons (pe_op op_sub
          (pe_callB call_abs (by rfl) T.b_abs (by decide +kernel) (pa_cons (pv 2) pa_nil)) (pe_op op_pow pe_int pe_int)) pa_nil)))
        (pe_op op_mulW (pe_op op_pow pe_int pe_int) (pe_op op_pow pe_int pe_int))))
      (pss_one (ps_ret (pe_lst (pa_cons (pv 3) (pa_cons
        (pe_op op_add (pe_op op_add (pe_op op_add (pe_op op_mul (pe_op op_mod (pe_callB call_abs (by rfl) T.b_abs (by decide +kernel) (pa_cons (pv 2) pa_nil)) pe_int) pe_int)
          (pe_op op_mul pe_int (pv 1)))
          (pe_op op_mul pe_int (pe_callTy call_int1 (by rfl) T.b_int (by decide +kernel) (pa_cons (pe_cmpR op_lt (pv 2) pe_int (nomark _)) pa_nil)))) pe_int)
        (pa_cons pe_int pa_nil))))))), ?_⟩
    refine ⟨fun σ' H' => ∃ c : Int, σ' = [some (.ref a), some (.int i), some (.int c), none] ∧ H' = H, ?_, ?_⟩
    · refine ⟨_, rfl, .ref a, rfl, a, _, rfl, .inl hS, _, _, rfl, rfl, _, rfl, ite2 (fun e => ?_) (fun e => ?_)⟩
      · have e' : i < ns.length := by
          have := of_decide_eq_true e
          rw [List.length_map] at this
          omega
        refine ⟨.ref a, rfl, .int i, rfl, a, _, _, .int ns[i], rfl, rfl, hS, atI_nat (by rw [List.getElem?_map, List.getElem?_eq_getElem e']; rfl), .inl ⟨_, rfl, ns[i], rfl, rfl⟩⟩
      · refine ⟨_, rfl, _, _, rfl, rfl, .inl ⟨by decide, by decide⟩, _, _, rfl, rfl, _, rfl, rfl⟩
    · rintro σ' H' ⟨c, rfl, rfl⟩
      refine ⟨_, rfl, _, rfl, ?_⟩
      refine ⟨_, _, rfl, rfl, ⟨by decide, by decide, by decide⟩, ?_⟩
      refine ⟨_, _, rfl, rfl, ?_⟩
      refine ⟨_, _, rfl, ?_⟩
      refine ⟨_, _, rfl, rfl, ⟨by decide, by decide, by decide⟩, ?_⟩
      refine ⟨_, _, rfl, rfl, ⟨by decide, by decide, by decide⟩, ?_⟩
      refine ⟨_, _, rfl, rfl, wide_mul (a := 200) (b := 200) (by decide) (by decide) (by decide) (by decide) (by decide), ?_⟩
      refine ⟨_, _, rfl, rfl, by show (0 : Int) < _; decide, ?_⟩
      generalize (if (if c < 0 then -c else c) - 10 ^ Int.toNat 17 > 0 then (if c < 0 then -c else c) - 10 ^ Int.toNat 17 else 0) % (10 ^ Int.toNat 60 * 10 ^ Int.toNat 60) = left
      refine ⟨_, rfl, _, rfl, _, rfl, _, _, rfl, rfl, by show (0 : Int) < _; decide, _, _, rfl, rfl, .inr ⟨by decide, by decide⟩, ?_⟩
      refine ⟨_, rfl, _, _, rfl, rfl, .inl ⟨by decide, by decide⟩, _, _, rfl, rfl, _, rfl, _, _, rfl, rfl, .inr ⟨_, rfl, ?_⟩⟩
      refine ⟨_, _, rfl, rfl, .inl ⟨by decide, by decide⟩, _, _, rfl, rfl, _, _, rfl, rfl, by show 3 ≤ sizeLine; decide, fun p hp => ?_⟩
      exact q p _ _ hp
def spRoll : Sp := fun vs H Q _ => ∃ (d : Addr) (t : Int), vs = [.ref d, .int t] ∧ DiceAt H d ∧ 0 < t ∧ t.natAbs.log2 < 9000 ∧
  ∀ (r x b c : Int), 0 ≤ r → r < t → Q (.int r) (upd H d (.lst [.int x, .int b, .int c]))
theorem ok_roll {f : Addr} {fd : FuncData} (F : Fun K "_law_roll" "_law_roll" s_law_roll f fd) (T : Top K mg) : FnOk P w K mg base CX0 1 f fd ["_law_dice_here", "_law_total"] spRoll := by
  refine F.ok sc_law_roll (fun vs H Q E h => ?_) (fun cdv A outer s H vs Q E hr h => ?_)
  · obtain ⟨d, t, rfl, _⟩ := h
    rfl
  · obtain ⟨d, t, rfl, ⟨x, b, c, hd⟩, ht, ht2, q⟩ := h
    refine ⟨_, pss_cons (ps_if (pt_cmpR op_gt (pe_ix ix_list (pv 0) pe_int (fun _ _ => rfl)) pe_int (nomark _))
        (pss_cons (ps_set (i := 2) sc_law_roll.nd rfl (.inl rfl) (pe_op op_mod (pe_callTy call_int1 (by rfl) T.b_int (by decide +kernel) (pa_cons (pe_ix ix_list (pv 0) pe_int (fun _ _ => rfl)) pa_nil)) (pv 1)))
        (pss_cons (ps_asg (pe_op op_fdivW (pe_ix ix_list (pv 0) pe_int (fun _ _ => rfl)) (pv 1)) (pg_sub (pv 0) pe_int set_list))
        (pss_one (ps_ret (pv 2))))) pss_nil)
      (pss_cons (ps_asg (pe_op op_add (pe_ix ix_list (pv 0) pe_int (fun _ _ => rfl)) pe_int) (pg_sub (pv 0) pe_int set_list))
      (pss_cons (ps_set (i := 3) sc_law_roll.nd rfl (.inl rfl) (pe_op op_mod (pe_callTy call_int1 (by rfl) T.b_int (by decide +kernel) (pa_cons
        (pe_op op_add (pe_ix ix_list (pv 0) pe_int (fun _ _ => rfl)) (pe_op op_mul pe_int (pe_ix ix_list (pv 0) pe_int (fun _ _ => rfl)))) pa_nil)) pe_int))
      (pss_cons (ps_set (i := 4) sc_law_roll.nd rfl (.inl rfl) (pe_op op_add (pe_op op_mul (pe_op op_mod (pe_callTy call_int1 (by rfl) T.b_int (by decide +kernel) (pa_cons
        (pe_op op_add (pe_op op_mul (pv 3) (pv 3)) (pe_op op_mul pe_int (pe_ix ix_list (pv 0) pe_int (fun _ _ => rfl)))) pa_nil)) pe_int) pe_int) (pv 3)))
      (pss_one (ps_ret (pe_op op_mod (pe_callTy call_int1 (by rfl) T.b_int (by decide +kernel) (pa_cons (pe_op op_fdiv (pv 4) pe_int) pa_nil)) (pv 1))))))), ?_⟩
    have at0 : ∀ (x y z : V), atI [x, y, z] 0 = some x := fun x y z => atI_nat (j := 0) rfl
    have at1 : ∀ (x y z : V), atI [x, y, z] 1 = some y := fun x y z => atI_nat (j := 1) rfl
    have at2 : ∀ (x y z : V), atI [x, y, z] 2 = some z := fun x y z => atI_nat (j := 2) rfl
    have hS : SqL K H d [.int x, .int b, .int c] := .inl (.inl hd)
    refine ⟨_, rfl, d, _, _, _, rfl, rfl, hS, at0 _ _ _, _, _, rfl, rfl, _, rfl, ite2 (fun e => ?_) (fun e => ?_)⟩
    · refine ⟨_, rfl, d, _, _, _, rfl, rfl, hS, at0 _ _ _, .inl ⟨_, rfl, _, rfl, _, _, rfl, rfl, ht, ?_⟩⟩
      refine ⟨_, rfl, d, _, _, _, rfl, rfl, hS, at0 _ _ _, _, rfl, _, _, rfl, rfl, ⟨ht, ht2⟩, ?_⟩
      refine ⟨_, rfl, d, _, _, 0, rfl, rfl, hd, rfl, ?_⟩
      refine ⟨_, rfl, ?_⟩
      exact q _ _ _ _ (Int.emod_nonneg _ (by omega)) (Int.emod_lt_of_pos _ ht)
    · refine ⟨_, rfl, d, _, _, _, rfl, rfl, hS, at2 _ _ _, _, _, rfl, rfl, ?_⟩
      refine ⟨_, rfl, d, _, _, 2, rfl, rfl, hd, rfl, ?_⟩
      have hd1 : (upd H d (.lst ([V.int x, V.int b, V.int c].set 2 (.int (c + 1))))) d = some (.lst [V.int x, V.int b, V.int (c + 1)]) := upd_same
      have hS1 : SqL K (upd H d (.lst ([V.int x, V.int b, V.int c].set 2 (.int (c + 1))))) d [V.int x, V.int b, V.int (c + 1)] := .inl (.inl hd1)
      refine ⟨_, rfl, d, _, _, _, rfl, rfl, hS1, at1 _ _ _, _, rfl, d, _, _, _, rfl, rfl, hS1, at2 _ _ _, _, _, rfl, rfl, .inl ⟨by decide, by decide⟩, _, _, rfl, rfl, .inl ⟨_, rfl, ?_⟩⟩
      refine ⟨_, _, rfl, rfl, by show (0 : Int) < _; decide, ?_⟩
      have h1 := Int.emod_nonneg (b + 7919 * (c + 1)) (show (2305843009213693907 : Int) ≠ 0 by decide)
      have h2 := Int.emod_lt_of_pos (b + 7919 * (c + 1)) (show (0 : Int) < 2305843009213693907 by decide)
      generalize (b + 7919 * (c + 1)) % 2305843009213693907 = one at h1 h2
      refine ⟨_, rfl, _, rfl, _, _, rfl, rfl, .inl ⟨by omega, by omega⟩, _, rfl, d, _, _, _, rfl, rfl, hS1, at2 _ _ _, _, _, rfl, rfl, .inl ⟨by decide, by decide⟩, _, _, rfl, rfl, .inl ⟨_, rfl, ?_⟩⟩
      refine ⟨_, _, rfl, rfl, by show (0 : Int) < _; decide, _, _, rfl, rfl, .inr ⟨by decide, by decide⟩, _, rfl, _, _, rfl, rfl, ?_⟩
      refine ⟨_, rfl, _, _, rfl, rfl, ⟨by decide, by decide⟩, .inl ⟨_, rfl, _, rfl, _, _, rfl, rfl, ht, ?_⟩⟩
      exact q _ _ _ _ (Int.emod_nonneg _ (by omega)) (Int.emod_lt_of_pos _ ht)
/-- what may be picked from: the items of a list, a tuple, a text -/
def Items (K : PySem.W.Frag) (H : Hp) (d : Addr) (x : V) (xs : List V) : Prop :=
  (∃ p, x = .ref p ∧ p ≠ d ∧ (SqL K H p xs ∨ SqT K H p xs)) ∨ ∃ z : Str, x = .str z ∧ xs = signV z ∧ z.length ≤ sizeLine
def spPick (K : PySem.W.Frag) : Sp := fun vs H Q _ => ∃ (d : Addr) (x : V) (xs : List V), vs = [.ref d, x] ∧ DiceAt H d ∧ Items K H d x xs ∧ xs ≠ [] ∧ xs.length ≤ 100000 ∧
  ∀ (v : V) (x b c : Int), v ∈ xs → Q v (upd H d (.lst [.int x, .int b, .int c]))
theorem log2_small {n : Nat} (h : n ≤ 100000) : ((n : Int).natAbs).log2 < 9000 := by
  have h1 : ((n : Int).natAbs) < 2 ^ 20 := by
    rw [Int.natAbs_natCast]
    exact Nat.lt_of_le_of_lt h (by decide)
  exact Nat.lt_of_lt_of_le (PySem.Flt.log2_lt_of (by decide) h1) (by decide)
theorem ok_pick {f : Addr} {fd : FuncData} (F : Fun K "_law_pick" "_law_pick" s_law_pick f fd) (T : Top K mg) : FnOk P w K mg base CX0 2 f fd ["_law_dice_here", "_law_items"] (spPick K) := by
  have cr : Cal P w K mg base 1 "_law_roll" ["_law_dice_here", "_law_total"] spRoll := T.d_law_roll.cal fun f fd F => ok_roll F T
  refine F.ok sc_law_pick (fun vs H Q E h => ?_) (fun cdv A outer s H vs Q E hr h => ?_)
  · obtain ⟨d, x, xs, rfl, _⟩ := h
    rfl
  · obtain ⟨d, x, xs, rfl, hd, hI, hne, hlen, q⟩ := h
    refine ⟨_, pss_one (ps_ret (pe_ix ix_seq (pv 1) (pe_cal cr hr (by rfl) (pa_cons (pv 0) (pa_cons (pe_callB call_len (by rfl) T.b_len PySem.boot_len (pa_cons (pv 1) pa_nil)) pa_nil))) (fun _ _ => rfl))), ?_⟩
    have hpos : 0 < xs.length := List.length_pos_iff.mpr hne
    rcases hI with ⟨p, rfl, hp, hs⟩ | ⟨z, rfl, rfl, hz⟩
    · refine ⟨_, rfl, _, rfl, _, rfl, _, (xs.length : Nat), rfl, ?_, ?_⟩
      · rcases hs with hs | hs
        · exact .inl ⟨_, hs, rfl⟩
        · exact .inr ⟨_, hs, rfl⟩
      · refine ⟨d, _, rfl, hd, by omega, log2_small hlen, fun r x b c h0 h1 => ?_⟩
        obtain ⟨v, hv, ha⟩ := atI_int (xs := xs) h0 h1
        rcases hs with hs | hs
        · exact .inl ⟨p, _, _, v, rfl, rfl, sqL_ne hp hs, ha, q v x b c hv⟩
        · exact .inr (.inl ⟨p, _, _, v, rfl, rfl, sqT_ne hp hs, ha, q v x b c hv⟩)
    · have hlz := signV_len z
      refine ⟨_, rfl, _, rfl, _, rfl, _, (z.length : Nat), rfl, ⟨hz, rfl⟩, ?_⟩
      refine ⟨d, _, rfl, hd, by omega, log2_small (by omega), fun r x b c h0 h1 => ?_⟩
      obtain ⟨v, hv, ha⟩ := atI_int (xs := z.cps.toList) h0 (by rw [Array.length_toList]; exact h1)
      exact .inr (.inr ⟨z, r, v, rfl, rfl, hz, ha, q _ x b c (List.mem_map.mpr ⟨_, hv, rfl⟩)⟩)
end
end Kl

set_option maxRecDepth 100000
set_option maxHeartbeats 4000000
namespace Kl
open PySem PySem.Spec PyProof.Rows L2 Gx Mx
/-! ### all but the dice stays -/
/-- all but what stands at d is as it was -/
def SameX (d : Addr) (H H' : Hp) : Prop := ∀ b o, b ≠ d → H b = some o → H' b = some o
theorem SameX.refl (d : Addr) (H : Hp) : SameX d H H := fun _ _ _ e => e
theorem SameX.trans {d : Addr} {H H' H'' : Hp} (h : SameX d H H') (h' : SameX d H' H'') : SameX d H H'' := fun b o n e => h' b o n (h b o n e)
theorem SameX.atd {d : Addr} {H H' : Hp} {o : HO} (h : SameX d H H') : SameX d H (upd H' d o) := fun b u n e => by rw [upd_ne n]; exact h b u n e
theorem SameX.new {d p : Addr} {H H' : Hp} {o : HO} (h : SameX d H H') (n : H' p = none) : SameX d H (upd H' p o) := fun b u nb e => by
  have e' := h b u nb e
  rw [upd_ne (ne_of_none e' n)]
  exact e'
theorem SameX.at {d p : Addr} {H H' : Hp} {o : HO} (h : SameX d H H') (n : H p = none) : SameX d H (upd H' p o) := fun b u nb e => by
  rw [upd_ne (ne_of_none e n)]
  exact h b u nb e
theorem SameX.of {d : Addr} {H H' : Hp} (h : Same H H') : SameX d H H' := fun b o _ e => h b o e
theorem SameX.free {d p : Addr} {H H' : Hp} (h : SameX d H H') (n : p ≠ d) (e : H' p = none) : H p = none := by
  cases q : H p with
  | none => rfl
  | some o => rw [h p o n q] at e; cases e
theorem dice_ne {H : Hp} {d p : Addr} (h : DiceAt H d) (e : H p = none) : p ≠ d := fun q => by
  obtain ⟨_, _, _, h⟩ := h
  rw [q, h] at e
  cases e
theorem dice_upd {H : Hp} {d p : Addr} {o : HO} (h : DiceAt H d) (n : p ≠ d) : DiceAt (upd H p o) d := by
  obtain ⟨a, b, c, h⟩ := h
  exact ⟨a, b, c, by rw [upd_ne n.symm]; exact h⟩
theorem dice_new {H : Hp} {d : Addr} (x b c : Int) : DiceAt (upd H d (.lst [.int x, .int b, .int c])) d := ⟨_, _, _, upd_same⟩
end Kl

set_option maxRecDepth 100000
set_option maxHeartbeats 4000000
namespace Kl
open PySem PySem.Spec PyProof.Rows L2 Gx Mx
/-! ### Reader.__init__ -/
abbrev rdF (first : Str) (e d st sp : Addr) : List (Str × V) := [("_first", .str first), ("_ends", .ref e), ("_reads", .ref d), ("_states", .ref st), ("_spare", .ref sp)]
/-- the lines ascend -/
def Asc (R : Rds) : Prop := R.Pairwise fun a b => ltK b.1 a.1 = false
/-- at x stands the reader -/
def RdrAt (P : Program) (w : World) (K : PySem.W.Frag) (C : Addr) (H : Hp) (x : Addr) (first : Str) (ends : List Str) (R : Rds) : Prop := ∃ (dx e d st sp : Addr) (ys : List Str) (M : List (Addr × KW)), H x = some (.ins C dx (rdF first e d st sp)) ∧
  SqT K H e (ends.map V.str) ∧ RDict P w K H d R ∧ SqT K H st (ys.map V.str) ∧ IsSt (statesL first ends R) ys ∧ SqT K H sp (M.map fun x => V.ref x.1) ∧ SpareAt K H first ends R M
theorem SpareAt.mono {K : PySem.W.Frag} {H H' : Hp} {first : Str} {ends : List Str} {R : Rds} {M : List (Addr × KW)} (m : ∀ a xs, SqT K H a xs → SqT K H' a xs) (h : SpareAt K H first ends R M) : SpareAt K H' first ends R M := ⟨fun x hx => (h.1 x hx).mono m, h.2⟩
theorem RdrAt.same {P : Program} {w : World} {K : PySem.W.Frag} {C : Addr} {H H' : Hp} {x : Addr} {first : Str} {ends : List Str} {R : Rds} (h : RdrAt P w K C H x first ends R) (s : Same H H') : RdrAt P w K C H' x first ends R := by
  obtain ⟨dx, e, d, st, sp, ys, M, h1, h2, h3, h4, h5, h6, h7⟩ := h
  exact ⟨dx, e, d, st, sp, ys, M, s _ _ h1, sqT_same s h2, h3.same s, sqT_same s h4, h5, sqT_same s h6, h7.mono fun _ _ q => sqT_same s q⟩
section
variable {K : PySem.W.Frag} {H H' : Hp} {x : Addr}
/-- what stays while the instance at x changes -/
structure ButI (H H' : Hp) (x : Addr) : Prop where
  ins : ∃ C dx fs, H x = some (.ins C dx fs)
  sm : SameX x H H'
theorem ButI.sq (b : ButI H H' x) {a : Addr} {xs : List V} (q : SqT K H a xs) : SqT K H' a xs := by
  obtain ⟨C, dx, fs, h⟩ := b.ins
  rcases q with (q | ⟨u, q⟩) | q
  · exact .inl (.inl (b.sm _ _ (fun e => by rw [e, h] at q; cases q) q))
  · exact .inl (.inr ⟨u, b.sm _ _ (fun e => by rw [e, h] at q; cases q) q⟩)
  · exact .inr q
theorem ButI.rd {P : Program} {w : World} (b : ButI H H' x) {d : Addr} {R : Rds} (q : RDict P w K H d R) : RDict P w K H' d R := by
  obtain ⟨C, dx, fs, h⟩ := b.ins
  obtain ⟨L, h1, h2, h3⟩ := q
  exact ⟨L, b.sm _ _ (fun e => by rw [e, h] at h1; cases h1) h1, fun y hy => (h2 y hy).mono fun _ _ q => b.sq q, h3⟩
end
theorem isSt_ex : ∀ l : List Str, ∃ ys, IsSt l ys := fun l => by
  have nd : ∀ l : List Str, ∃ m : List Str, m.Nodup ∧ ∀ z, z ∈ m ↔ z ∈ l := fun l => by
    induction l with
    | nil => exact ⟨[], List.nodup_nil, fun _ => Iff.rfl⟩
    | cons x l ih =>
      obtain ⟨m, h1, h2⟩ := ih
      by_cases c : x ∈ m
      · refine ⟨m, h1, fun z => ?_⟩
        rw [List.mem_cons, h2]
        refine ⟨.inr, fun q => q.elim (fun e => ?_) id⟩
        rw [e]
        exact (h2 x).mp c
      · refine ⟨x :: m, List.nodup_cons.mpr ⟨c, h1⟩, fun z => ?_⟩
        rw [List.mem_cons, List.mem_cons, h2]
  obtain ⟨m, h1, h2⟩ := nd l
  have hp := List.mergeSort_perm m fun a b => !ltCps b.cps.toList a.cps.toList
  refine ⟨m.mergeSort fun a b => !ltCps b.cps.toList a.cps.toList, ?_, hp.nodup_iff.mpr h1, fun z => hp.mem_iff.trans (h2 z)⟩
  refine (sortedS_iff _).mpr ?_
  have tot : ∀ a b : Str, ltCps a.cps.toList b.cps.toList = true → ltCps b.cps.toList a.cps.toList = false := fun a b h => by
    cases c : ltCps b.cps.toList a.cps.toList with
    | false => rfl
    | true =>
      have := cps_trans h c
      rw [cps_irrefl] at this
      cases this
  have hs := List.pairwise_mergeSort (le := fun a b : Str => !ltCps b.cps.toList a.cps.toList) (fun a b c h1 h2 => by
    rw [Bool.not_eq_true'] at h1 h2 ⊢
    cases q : ltCps c.cps.toList a.cps.toList with
    | false => rfl
    | true =>
      by_cases e : a = b
      · rw [e] at q
        rw [q] at h2
        cases h2
      · have := cps_trans q (cps_total (fun z => e z.symm) h1)
        rw [this] at h2
        cases h2) (fun a b => by
    cases q : ltCps b.cps.toList a.cps.toList with
    | false => rfl
    | true => rw [tot b a q]; rfl) m
  exact hs.imp fun {a b} h => (leS_iff a b).mpr (by simpa using h)
theorem putF_app {k : Str} {v : V} : ∀ fs : List (Str × V), (∀ p ∈ fs, p.1 ≠ k) → putF k v fs = fs ++ [(k, v)]
  | [], _ => rfl
  | p :: fs, h => by
    have ih := putF_app (v := v) fs fun q hq => h q (List.mem_cons_of_mem _ hq)
    obtain ⟨a, b⟩ := p
    show (if a = k then (a, v) :: fs else (a, b) :: putF k v fs) = _
    rw [if_neg (h (a, b) List.mem_cons_self), ih]
    rfl
theorem rn_app {k : Str} {v : V} {fs : List (Str × V)} (h : ((fs.map (·.1)).all fun n => !decide (n = k)) = true) : putF k v fs = fs ++ [(k, v)] := putF_app fs fun p hp e => by
  have := List.all_eq_true.mp h p.1 (List.mem_map.mpr ⟨p, hp, rfl⟩)
  rw [decide_eq_true e] at this
  cases this
def txK : V → Str
  | .str z => z
  | _ => ""
theorem rd_reads (first : Str) (e d st : Addr) : List.lookup ("_reads" : Str) [("_first", V.str first), ("_ends", V.ref e), ("_reads", V.ref d), ("_states", V.ref st)] = some (.ref d) := by
  have h1 : (("_reads" : Str) == "_first") = false := by decide +kernel
  have h2 : (("_reads" : Str) == "_ends") = false := by decide +kernel
  simp [List.lookup, h1, h2]
theorem states_perm (first : Str) (ends : List Str) {R R' : Rds} (h : R'.Perm R) {z : Str} : z ∈ statesL first ends R' ↔ z ∈ statesL first ends R := by
  unfold statesL
  simp only [List.mem_cons, List.mem_append, List.mem_map]
  constructor
  · rintro (q | q | ⟨r, hr, e⟩ | ⟨r, hr, e⟩)
    · exact .inl q
    · exact .inr (.inl q)
    · exact .inr (.inr (.inl ⟨r, h.mem_iff.mp hr, e⟩))
    · exact .inr (.inr (.inr ⟨r, h.mem_iff.mp hr, e⟩))
  · rintro (q | q | ⟨r, hr, e⟩ | ⟨r, hr, e⟩)
    · exact .inl q
    · exact .inr (.inl q)
    · exact .inr (.inr (.inl ⟨r, h.mem_iff.mpr hr, e⟩))
    · exact .inr (.inr (.inr ⟨r, h.mem_iff.mpr hr, e⟩))
theorem putM_new {L : ML} {k : KW} {a : Addr} {v : V} (h : k ∉ L.map (·.1)) : putM L k a v = L ++ [(k, a, v)] := by
  unfold putM
  rw [if_neg]
  rw [← valV_any]
  intro q
  obtain ⟨x, hx, e⟩ := List.any_eq_true.mp q
  unfold prM at hx
  obtain ⟨y, hy, rfl⟩ := List.mem_map.mp hx
  exact h (List.mem_map.mpr ⟨y, hy, by simpa using e⟩)
section
variable {P : Program} {w : World} {K : PySem.W.Frag} {mg : Str → Option Value} {base : Heap}
def spRInit (P : Program) (w : World) (K : PySem.W.Frag) (C : Addr) : Sp := fun vs H Q _ => ∃ (x dx e d : Addr) (first : Str) (ends : List Str) (R : Rds), vs = [.ref x, .str first, .ref e, .ref d] ∧ H x = some (.ins C dx []) ∧ first.length ≤ 1000 ∧ SqT K H e (ends.map V.str) ∧ (∀ z ∈ ends, z.length ≤ 1000) ∧ RDict P w K H d R ∧ (R.map (·.1)).Nodup ∧ ends.length ≤ 100 ∧ R.length ≤ 300 ∧ Shrt R ∧
  (∀ ys, IsSt (statesL first ends R) ys → readerB first ends R ys = true) ∧ ∀ (R' : Rds) (H' : Hp), R'.Perm R → Asc R' → RdrAt P w K C H' x first ends R' → (∀ b o, b ≠ x → H b = some o → H' b = some o) →
  (∀ (D : Addr) (L M : NL), H D = some (DN P w D L) → RdrAt P w K C (upd H' D (DN P w D M)) x first ends R') → Q .non H'
theorem ok_rinit {C f : Addr} {fd : FuncData} (F : Fun K "__init__" "Reader.__init__" s_Reader_init f fd) (T : Top K mg) (TC : Cl_Reader K mg C) : FnOk P w K mg base CX0 8 f fd ["self", "first", "ends", "reads"] (spRInit P w K C) := by
  have ci : Cal P w K mg base 7 "_is_reader" ["first", "ends", "reads"] (spReader P w K) := T.d_is_reader.cal fun f fd F => ok_reader F T
  have cs : Cal P w K mg base 7 "_all_states" ["first", "ends", "reads"] (spStates P w K) := (T.d_all_states.cal fun f fd F => ok_states F T).mono (by decide)
  have cp : Cal P w K mg base 7 "_spare" ["first", "ends", "reads"] (spSpare P w K) := (T.d_spare.cal fun f fd F => ok_spare F T).mono (by decide)
  refine F.ok sc_Reader_init (fun vs H Q E h => ?_) (fun cdv A outer s H vs Q E hr h => ?_)
  · obtain ⟨x, dx, e, d, first, ends, R, rfl, _⟩ := h
    rfl
  · obtain ⟨x, dx, e, d, first, ends, R, rfl, hx, hfl, he, hes, hD, hnd, hle, hl, hsh, hok, q⟩ := h
    refine ⟨_, pss_cut (ps_if (pt_not (pt_val (pe_cal ci hr (by rfl) (pa_cons (pv 1) (pa_cons (pv 2) (pa_cons (pv 3) pa_nil)))))) (pss_one ps_never) pss_nil)
      (pss_cut (ps_fld (pv 0) (pv 1) rfl)
      (pss_cut (ps_fld (pv 0) (pv 2) rfl)
      (pss_cut (ps_fld (pv 0) (pe_dcG (own := [("place", 4)]) (g := gName 4) (tt := tYes) (new := fun D => DN P w D []) (put := putG P w K) (newN (P := P) (w := w)) (fun _ _ _ _ _ => putN_ok (P := P) (w := w) (K := K) (by exact ⟨rfl, rfl, rfl⟩) (by exact hr.units)) rfl sc_Reader_init.nd
          (pi_listK (K := K) rfl (pe_callB (cr_sortedN (P := P) (w := w) (K := K) (by exact ⟨rfl, rfl, rfl⟩) rfl (by exact hr.units)) (by rfl) T.b_sorted (by decide +kernel) (pa_cons (pv 3) pa_nil)))
          (blkOk_by (N := ["self", "first", "ends", "reads", "place"]) (sc := defScope s_Reader_init) (by decide +kernel))
          (fun _ _ _ _ _ => pg_name (i := 4) sc_Reader_init.nd rfl (.inl rfl)) (fun _ _ _ _ _ => pts_nil) (fun _ _ _ _ _ => pv 4)
          (fun _ _ _ _ _ => pe_nget (P := P) (w := w) (K := K) (by exact ⟨rfl, rfl, rfl⟩) (by exact hr.units) (pv 3) (pv 4) (by intro _ _; rfl))) rfl)
      (pss_cut (ps_fld (pv 0) (pe_cal cs hr (by rfl) (pa_cons (pv 1) (pa_cons (pv 2) (pa_cons (pv 3) pa_nil)))) rfl)
      (pss_one (ps_fld (pv 0) (pe_cal cp hr (by rfl) (pa_cons (pv 1) (pa_cons (pv 2) (pa_cons (pe_fld (pv 0) rfl) pa_nil)))) rfl)))))), ?_⟩
    obtain ⟨y0, hy0⟩ := isSt_ex (statesL first ends R)
    refine ⟨fun σ' G => σ' = [some (.ref x), some (.str first), some (.ref e), some (.ref d), none] ∧ Same H G, ?_, ?_⟩
    · refine ⟨_, rfl, _, rfl, _, rfl, first, e, d, ends, R, rfl, hfl, he, hes, hD, hnd, hle, hl, hsh, fun b G hb s => ⟨_, rfl, ?_⟩⟩
      have eb : b = true := (hb y0 hy0).trans (hok y0 hy0)
      subst eb
      show (if (!true) = true then _ else _)
      rw [if_neg (by decide)]
      exact ⟨rfl, s⟩
    rintro σ' G0 ⟨rfl, s0⟩
    have hx0 := s0 _ _ hx
    have b0 : ∀ {G : Hp}, SameX x G0 G → ButI G0 G x := fun s => ⟨⟨_, _, _, hx0⟩, s⟩
    have he0 := sqT_same s0 he
    have hD0 := hD.same s0
    refine ⟨fun σ' G => σ' = [some (.ref x), some (.str first), some (.ref e), some (.ref d), none] ∧ G x = some (.ins C dx [("_first", .str first)]) ∧ SameX x G0 G, ?_, ?_⟩
    · exact ⟨_, rfl, _, rfl, x, C, dx, [], rfl, hx0, TC.cl, TC.n_first, by decide, rfl, upd_same, (SameX.refl x G0).atd⟩
    rintro σ' G1 ⟨rfl, h1, s1⟩
    refine ⟨fun σ' G => σ' = [some (.ref x), some (.str first), some (.ref e), some (.ref d), none] ∧ G x = some (.ins C dx [("_first", .str first), ("_ends", .ref e)]) ∧ SameX x G0 G, ?_, ?_⟩
    · refine ⟨_, rfl, _, rfl, x, C, dx, _, rfl, h1, TC.cl, TC.n_ends, by show 1 < 1000; decide, ?_⟩
      rw [rn_app (by show ((["_first"] : List Str).all fun n => !decide (n = "_ends")) = true; decide +kernel)]
      exact ⟨rfl, upd_same, s1.atd⟩
    clear h1 s1
    rintro σ' G1 ⟨rfl, h1, s1⟩
    obtain ⟨L, hdL, hkL, hL⟩ := (b0 s1).rd hD0
    have hlen := prM_len hL
    have ndL : (L.map (·.1)).Nodup := by
      have e := congrArg (List.map Prod.fst) hL
      unfold prM at e
      rw [List.map_map, List.map_map] at e
      have e' : L.map (·.1) = R.map (·.1) := e
      rw [e']
      exact hnd
    have hN1 : NDict P w K G1 d (toN L) := ⟨.inl hdL, fun y hy => by
      obtain ⟨z, hz, rfl⟩ := List.mem_map.mp hy
      exact hkL z hz⟩
    refine ⟨fun σ' G => ∃ (d' : Addr) (R' : Rds), σ' = [some (.ref x), some (.str first), some (.ref e), some (.ref d), none] ∧ G x = some (.ins C dx [("_first", .str first), ("_ends", .ref e), ("_reads", .ref d')]) ∧ RDict P w K G d' R' ∧ R'.Perm R ∧ Asc R' ∧ SameX x G0 G ∧ H d' = none, ?_, ?_⟩
    · refine ⟨_, rfl, d, L, rfl, hN1, by omega, fun L' l hperm hsrt nl => ⟨l, rfl, ⟨_, .inl (.inl upd_same)⟩, fun D hD => ?_⟩⟩
      have hl1 : G1 l = none := nl
      have sl : Same G1 (upd G1 l (.lst (L'.map fun x => V.ref x.2.1))) := same_new (Same.refl G1) nl
      have el : (upd G1 l (.lst (L'.map fun x => V.ref x.2.1))) l = some (.lst (L'.map fun x => V.ref x.2.1)) := upd_same
      generalize upd G1 l (.lst (L'.map fun x => V.ref x.2.1)) = G2 at *
      have sD : Same G2 (upd G2 D (DN P w D [])) := same_new (Same.refl G2) hD
      have nd' : (L'.map (·.1)).Nodup := (hperm.map (·.1)).nodup_iff.mpr ndL
      have llen : L'.length = L.length := hperm.length_eq
      have keyL : ∀ y ∈ L', KeyA K G2 y.2.1 (keyK y.1) := fun y hy => keyA_same sl (hkL y (hperm.mem_iff.mp hy))
      refine dcG_it (new := fun D => DN P w D []) (put := putG P w K) (walk_list (K := K) (a := l) (xs := L'.map fun x => V.ref x.2.1)) (fun j G => G D = some (DN P w D (toN (L'.take j))) ∧ Same G2 G) ⟨upd_same, sD⟩ (fun j G _ hP => .inl (.inl (hP.2 _ _ el))) (fun j u G G' hj hP hy => ?_) (fun G hP => ?_)
      · obtain ⟨eD, sm⟩ := hP
        obtain ⟨rfl, hu⟩ := hy
        rw [List.getElem?_map] at hu
        obtain ⟨y, hy, rfl⟩ := Option.map_eq_some_iff.mp hu
        have hyL : y ∈ L' := List.mem_of_getElem? hy
        obtain ⟨i, hi⟩ := List.mem_iff_getElem?.mp (hperm.mem_iff.mp hyL)
        have hv : getN (toN L) (keyK y.1) = some y.2.2 := getN_own ndL hi
        have hj' : j < L'.length := by rw [List.length_map] at hj; exact hj
        refine ⟨rfl, _, rfl, _, rfl, _, rfl, d, y.2.1, toN L, keyK y.1, y.2.2, rfl, rfl, ⟨.inl (sm _ _ (sl _ _ hdL)), fun z hz => ?_⟩, keyA_same sm (keyL y hyL), hv, ?_⟩
        · obtain ⟨z', hz', rfl⟩ := List.mem_map.mp hz
          exact keyA_same sm (keyA_same sl (hkL z' hz'))
        · refine ⟨toN (L'.take j), keyK y.1, y.2.1, rfl, keyA_same sm (keyL y hyL), eD, fun z hz => ?_, ?_, ?_, fun b u n => by rw [upd_ne (ne_of_none n hD)]; exact sm b u n⟩
          · obtain ⟨z', hz', rfl⟩ := List.mem_map.mp hz
            exact keyA_same sm (keyL z' (List.mem_of_mem_take hz'))
          · rw [toN_len, List.length_take]
            exact Nat.lt_of_le_of_lt (show min j L'.length ≤ 1000 by omega) (by decide)
          · have hn : y.1 ∉ (L'.take j).map (·.1) := fun z => by
              rw [List.map_take] at z
              obtain ⟨k, hk⟩ := List.mem_iff_getElem?.mp z
              rw [List.getElem?_take] at hk
              by_cases c : k < j
              · rw [if_pos c] at hk
                have h2 : (L'.map (·.1))[j]? = some y.1 := by rw [List.getElem?_map, hy]; rfl
                have := (List.getElem?_inj (List.getElem?_eq_some_iff.mp hk).1 nd').mp (hk.trans h2.symm)
                omega
              · rw [if_neg c] at hk
                cases hk
            rw [upd_same, putN_to, putM_new hn, List.take_add_one, hy]
            rfl
      · obtain ⟨eD, sm⟩ := hP
        rw [List.length_map, List.take_length] at eD
        have hxG : G x = some (.ins C dx [("_first", .str first), ("_ends", .ref e)]) := sm _ _ (sl _ _ h1)
        refine ⟨_, rfl, x, C, dx, _, rfl, hxG, TC.cl, TC.n_reads, by show 2 < 1000; decide, ?_⟩
        rw [rn_app (by show ((["_first", "_ends"] : List Str).all fun n => !decide (n = "_reads")) = true; decide +kernel)]
        have valL : ∀ z ∈ L, z.2.2 = V.str (txK z.2.2) := fun z hz => by
          obtain ⟨i, hi⟩ := List.mem_iff_getElem?.mp hz
          obtain ⟨r, _, _, e2⟩ := prM_at hL hi
          rw [e2]
          rfl
        have eR : R = L.map fun z => (z.1, txK z.2.2) := by
          have e := congrArg (List.map fun q : KW × V => (q.1, txK q.2)) hL
          unfold prM at e
          rw [List.map_map, List.map_map] at e
          have e2 : R.map ((fun q : KW × V => (q.1, txK q.2)) ∘ fun r => (r.1, V.str r.2)) = R := by
            have : ((fun q : KW × V => (q.1, txK q.2)) ∘ fun r : KW × Str => (r.1, V.str r.2)) = id := by
              funext r
              rfl
            rw [this, List.map_id]
          rw [e2] at e
          exact e.symm
        refine ⟨D, L'.map fun z => (z.1, txK z.2.2), rfl, upd_same, ?_, ?_, ?_, ?_, ?_⟩
        · refine (⟨⟨_, _, _, hxG⟩, (SameX.refl x G).atd⟩ : ButI G (upd G x _) x).rd ⟨L', eD, fun z hz => keyA_same sm (keyL z hz), ?_⟩
          unfold prM
          rw [List.map_map]
          refine List.map_congr_left fun z hz => ?_
          have := valL z (hperm.mem_iff.mp hz)
          show (z.1, z.2.2) = (z.1, V.str (txK z.2.2))
          rw [← this]
        · have z := hperm.map fun z : KW × Addr × V => (z.1, txK z.2.2)
          rw [← eR] at z
          exact z
        · unfold Asc
          rw [List.pairwise_map]
          exact hsrt
        · exact (s1.trans (SameX.of (sl.trans sm))).atd
        · have nDx : D ≠ x := fun z => by rw [z, sl _ _ h1] at hD; cases hD
          exact s0.free (s1.free nDx (sl.free hD))
    clear h1 s1 hdL hkL hN1
    rintro σ' G2 ⟨d', R', rfl, h2, hD', hp', hasc, s2, newd⟩
    refine ⟨fun σ' G => ∃ (st : Addr) (ys : List Str), σ' = [some (.ref x), some (.str first), some (.ref e), some (.ref d), none] ∧ G x = some (.ins C dx [("_first", .str first), ("_ends", .ref e), ("_reads", .ref d'), ("_states", .ref st)]) ∧ RDict P w K G d' R' ∧ SqT K G st (ys.map V.str) ∧ IsSt (statesL first ends R) ys ∧ SameX x G0 G, ?_, ?_⟩
    · refine ⟨_, rfl, _, rfl, _, rfl, first, e, d, ends, R, rfl, (b0 s2).sq he0, (b0 s2).rd hD0, hnd, hle, hl, fun ys p G hys sm np hp => ?_⟩
      have hxG := sm _ _ h2
      refine ⟨_, rfl, x, C, dx, _, rfl, hxG, TC.cl, TC.n_states, by show 3 < 1000; decide, ?_⟩
      rw [rn_app (by show ((["_first", "_ends", "_reads"] : List Str).all fun n => !decide (n = "_states")) = true; decide +kernel)]
      have bI : ∀ {u : HO}, ButI G (upd G x u) x := ⟨⟨_, _, _, hxG⟩, (SameX.refl x G).atd⟩
      exact ⟨p, ys, rfl, upd_same, bI.rd (hD'.same sm), bI.sq (SqT.of hp), hys, (s2.trans (SameX.of sm)).atd⟩
    clear h2 hD' s2
    rintro σ' G2 ⟨st, ys, rfl, h2, hD', hst, hys, s2⟩
    have ndE : ends.Nodup := by
      have := hok y0 hy0
      unfold readerB ascB at this
      simp only [Bool.and_eq_true, decide_eq_true_eq] at this
      exact this.1.1.2.1.2.2
    refine ⟨_, rfl, _, rfl, _, rfl, x, C, dx, _, _, rfl, h2, TC.cl, TC.n_reads, rd_reads _ _ _ _, first, e, d', ends, R', rfl, .inr ((b0 s2).sq he0), ndE, hD', hle, by have := hp'.length_eq; omega, fun M p G sm np hp hS => ?_⟩
    have hxG := sm _ _ h2
    refine ⟨_, rfl, x, C, dx, _, rfl, hxG, TC.cl, TC.n_spare, by show 4 < 1000; decide, ?_⟩
    rw [rn_app (by show ((["_first", "_ends", "_reads", "_states"] : List Str).all fun n => !decide (n = "_spare")) = true; decide +kernel)]
    have bI : ∀ {u : HO}, ButI G (upd G x u) x := ⟨⟨_, _, _, hxG⟩, (SameX.refl x G).atd⟩
    have sX := s2.trans (SameX.of sm)
    refine q R' _ hp' hasc ⟨dx, e, d', st, p, ys, M, upd_same, bI.sq (sqT_same sm ((b0 s2).sq he0)), bI.rd (hD'.same sm), bI.sq (sqT_same sm hst), ?_, bI.sq (SqT.of hp), hS.mono fun _ _ z => bI.sq z⟩ (fun b o n eo => ?_) (fun D L0 M0 eD => ?_)
    · refine ⟨hys.1, hys.2.1, fun z => (hys.2.2 z).trans ?_⟩
      exact (states_perm first ends hp').symm
    · have := sX b o n (s0 b o eo)
      rw [upd_ne n]
      exact this
    · have nDx : D ≠ x := fun z => by rw [z, hx] at eD; cases eD
      have nd' : d' ≠ D := fun z => by rw [z, eD] at newd; cases newd
      have eG : (upd G x (.ins C dx (rdF first e d' st p))) D = some (DN P w D L0) := by
        rw [upd_ne nDx]
        exact sX D _ nDx (s0 D _ eD)
      have bQ : ∀ {a : Addr} {xs : List V}, SqT K G a xs → SqT K (upd (upd G x (.ins C dx (rdF first e d' st p))) D (DN P w D M0)) a xs := fun q => SqT.ext_upd eG (bI.sq q)
      obtain ⟨L1, k1, k2, k3⟩ := hD'.same sm
      refine ⟨dx, e, d', st, p, ys, M, by rw [upd_ne (Ne.symm nDx)]; exact upd_same, bQ (sqT_same sm ((b0 s2).sq he0)), ⟨L1, ?_, fun y hy => (k2 y hy).mono fun _ _ z => bQ z, k3⟩, bQ (sqT_same sm hst), ?_, bQ (SqT.of hp), hS.mono fun _ _ z => bQ z⟩
      · have ndx : d' ≠ x := fun z => by rw [z, hxG] at k1; cases k1
        rw [upd_ne nd', upd_ne ndx]
        exact k1
      · exact ⟨hys.1, hys.2.1, fun z => (hys.2.2 z).trans (states_perm first ends hp').symm⟩
end
end Kl

set_option maxRecDepth 100000
set_option maxHeartbeats 4000000
namespace Kl
open PySem PySem.Spec PyProof.Rows L2 Gx Mx
/-! ### what a reader tells -/
theorem rf_first (first : Str) (e d st sp : Addr) : List.lookup ("_first" : Str) (rdF first e d st sp) = some (.str first) := by simp [List.lookup]
theorem rf_ends (first : Str) (e d st sp : Addr) : List.lookup ("_ends" : Str) (rdF first e d st sp) = some (.ref e) := by
  have h1 : (("_ends" : Str) == "_first") = false := by decide +kernel
  simp [List.lookup, h1]
theorem rf_reads (first : Str) (e d st sp : Addr) : List.lookup ("_reads" : Str) (rdF first e d st sp) = some (.ref d) := by
  have h1 : (("_reads" : Str) == "_first") = false := by decide +kernel
  have h2 : (("_reads" : Str) == "_ends") = false := by decide +kernel
  simp [List.lookup, h1, h2]
theorem rf_states (first : Str) (e d st sp : Addr) : List.lookup ("_states" : Str) (rdF first e d st sp) = some (.ref st) := by
  have h1 : (("_states" : Str) == "_first") = false := by decide +kernel
  have h2 : (("_states" : Str) == "_ends") = false := by decide +kernel
  have h3 : (("_states" : Str) == "_reads") = false := by decide +kernel
  simp [List.lookup, h1, h2, h3]
theorem rf_spare (first : Str) (e d st sp : Addr) : List.lookup ("_spare" : Str) (rdF first e d st sp) = some (.ref sp) := by
  have h1 : (("_spare" : Str) == "_first") = false := by decide +kernel
  have h2 : (("_spare" : Str) == "_ends") = false := by decide +kernel
  have h3 : (("_spare" : Str) == "_reads") = false := by decide +kernel
  have h4 : (("_spare" : Str) == "_states") = false := by decide +kernel
  simp [List.lookup, h1, h2, h3, h4]
theorem pe_fldK {X : Cx} {K : PySem.W.Frag} {e : Expr} {te : TE} {f : Str} {pos : Pos} (hk : X.K = K) (he : PE X e te) (hb : attributeBase e f X.env (eval e X.env) = eval e X.env := by rfl) : PE X (.Attribute e f pos) (tFld K te f) := by
  subst hk
  exact pe_fld he hb
theorem take_key {L : ML} (nd : (L.map (·.1)).Nodup) {j : Nat} {y : KW × Addr × V} (hy : L[j]? = some y) : y.1 ∉ (L.take j).map (·.1) := fun z => by
  rw [List.map_take] at z
  obtain ⟨k, hk⟩ := List.mem_iff_getElem?.mp z
  rw [List.getElem?_take] at hk
  by_cases c : k < j
  · rw [if_pos c] at hk
    have h2 : (L.map (·.1))[j]? = some y.1 := by rw [List.getElem?_map, hy]; rfl
    have := (List.getElem?_inj (List.getElem?_eq_some_iff.mp hk).1 nd).mp (hk.trans h2.symm)
    omega
  · rw [if_neg c] at hk
    cases hk
section
variable {P : Program} {w : World} {K : PySem.W.Frag} {mg : Str → Option Value} {base : Heap}
def spRFirst (P : Program) (w : World) (K : PySem.W.Frag) (C : Addr) : Sp := fun vs H Q _ => ∃ (x : Addr) (first : Str) (ends : List Str) (R : Rds), vs = [.ref x] ∧ RdrAt P w K C H x first ends R ∧ Q (.str first) H
theorem ok_rfirst {C f : Addr} {fd : FuncData} (F : Fun K "first" "Reader.first" s_Reader_first f fd) (TC : Cl_Reader K mg C) : FnOk P w K mg base CX0 1 f fd ["self"] (spRFirst P w K C) := by
  refine F.ok sc_Reader_first (fun vs H Q E h => ?_) (fun cdv A outer s H vs Q E hr h => ?_)
  · obtain ⟨x, first, ends, R, rfl, _⟩ := h
    rfl
  · obtain ⟨x, first, ends, R, rfl, ⟨dx, e, d, st, sp, ys, M, hx, _⟩, q⟩ := h
    exact ⟨_, pss_one (ps_ret (pe_fld (pv 0) rfl)), _, rfl, x, C, dx, _, _, rfl, hx, TC.cl, TC.n_first, rf_first _ _ _ _ _, q⟩
def spREnds (P : Program) (w : World) (K : PySem.W.Frag) (C : Addr) : Sp := fun vs H Q _ => ∃ (x : Addr) (first : Str) (ends : List Str) (R : Rds), vs = [.ref x] ∧ RdrAt P w K C H x first ends R ∧ ∀ e, SqT K H e (ends.map V.str) → Q (.ref e) H
theorem ok_rends {C f : Addr} {fd : FuncData} (F : Fun K "ends" "Reader.ends" s_Reader_ends f fd) (TC : Cl_Reader K mg C) : FnOk P w K mg base CX0 1 f fd ["self"] (spREnds P w K C) := by
  refine F.ok sc_Reader_ends (fun vs H Q E h => ?_) (fun cdv A outer s H vs Q E hr h => ?_)
  · obtain ⟨x, first, ends, R, rfl, _⟩ := h
    rfl
  · obtain ⟨x, first, ends, R, rfl, ⟨dx, e, d, st, sp, ys, M, hx, he, _⟩, q⟩ := h
    exact ⟨_, pss_one (ps_ret (pe_fld (pv 0) rfl)), _, rfl, x, C, dx, _, _, rfl, hx, TC.cl, TC.n_ends, rf_ends _ _ _ _ _, q e he⟩
def spRStates (P : Program) (w : World) (K : PySem.W.Frag) (C : Addr) : Sp := fun vs H Q _ => ∃ (x : Addr) (first : Str) (ends : List Str) (R : Rds), vs = [.ref x] ∧ RdrAt P w K C H x first ends R ∧ ∀ st ys, IsSt (statesL first ends R) ys → SqT K H st (ys.map V.str) → Q (.ref st) H
theorem ok_rstates {C f : Addr} {fd : FuncData} (F : Fun K "states" "Reader.states" s_Reader_states f fd) (TC : Cl_Reader K mg C) : FnOk P w K mg base CX0 1 f fd ["self"] (spRStates P w K C) := by
  refine F.ok sc_Reader_states (fun vs H Q E h => ?_) (fun cdv A outer s H vs Q E hr h => ?_)
  · obtain ⟨x, first, ends, R, rfl, _⟩ := h
    rfl
  · obtain ⟨x, first, ends, R, rfl, ⟨dx, e, d, st, sp, ys, M, hx, he, hD, hst, hys, _⟩, q⟩ := h
    exact ⟨_, pss_one (ps_ret (pe_fld (pv 0) rfl)), _, rfl, x, C, dx, _, _, rfl, hx, TC.cl, TC.n_states, rf_states _ _ _ _ _, q st ys hys hst⟩
def spRLen (P : Program) (w : World) (K : PySem.W.Frag) (C : Addr) : Sp := fun vs H Q _ => ∃ (x : Addr) (first : Str) (ends : List Str) (R : Rds), vs = [.ref x] ∧ RdrAt P w K C H x first ends R ∧ ∀ ys, IsSt (statesL first ends R) ys → Q (.int (ys.length : Nat)) H
theorem ok_rlen {C f : Addr} {fd : FuncData} (F : Fun K "__len__" "Reader.__len__" s_Reader_len f fd) (T : Top K mg) (TC : Cl_Reader K mg C) : FnOk P w K mg base CX0 1 f fd ["self"] (spRLen P w K C) := by
  refine F.ok sc_Reader_len (fun vs H Q E h => ?_) (fun cdv A outer s H vs Q E hr h => ?_)
  · obtain ⟨x, first, ends, R, rfl, _⟩ := h
    rfl
  · obtain ⟨x, first, ends, R, rfl, ⟨dx, e, d, st, sp, ys, M, hx, he, hD, hst, hys, _⟩, q⟩ := h
    refine ⟨_, pss_one (ps_ret (pe_callB call_len_seq (by rfl) T.b_len PySem.boot_len (pa_cons (pe_fld (pv 0) rfl) pa_nil))), _, rfl, x, C, dx, _, _, rfl, hx, TC.cl, TC.n_states, rf_states _ _ _ _ _, st, _, rfl, .inr hst, ?_⟩
    have z := q ys hys
    rw [← show (ys.map V.str).length = ys.length from List.length_map _] at z
    exact z
/-- a copy of the lines -/
def spRReads (P : Program) (w : World) (K : PySem.W.Frag) (C : Addr) : Sp := fun vs H Q _ => ∃ (x : Addr) (first : Str) (ends : List Str) (R : Rds), vs = [.ref x] ∧ RdrAt P w K C H x first ends R ∧ (R.map (·.1)).Nodup ∧ R.length ≤ 300 ∧ ∀ D H', H D = none → Same H H' → RDict P w K H' D R → Q (.ref D) H'
theorem ok_rreads {C f : Addr} {fd : FuncData} (F : Fun K "reads" "Reader.reads" s_Reader_reads f fd) (TC : Cl_Reader K mg C) : FnOk P w K mg base CX0 1 f fd ["self"] (spRReads P w K C) := by
  refine F.ok sc_Reader_reads (fun vs H Q E h => ?_) (fun cdv A outer s H vs Q E hr h => ?_)
  · obtain ⟨x, first, ends, R, rfl, _⟩ := h
    rfl
  · obtain ⟨x, first, ends, R, rfl, ⟨dx, e, d, st, sp, ys, M, hx, he, ⟨L, hd, hk, hL⟩, _⟩, hnd, hl, q⟩ := h
    refine ⟨_, pss_one (ps_ret (pe_lock (pe_dcG (own := [("place", 1)]) (g := gName 1) (tt := tYes) (new := fun D => DN P w D []) (put := putG P w K) (newN (P := P) (w := w)) (fun _ _ _ _ _ => putN_ok (P := P) (w := w) (K := K) (by exact ⟨rfl, rfl, rfl⟩) (by exact hr.units)) rfl sc_Reader_reads.nd
          (pi_keysN (P := P) (w := w) (K := K) (by exact ⟨rfl, rfl, rfl⟩) (pe_fld (pv 0) rfl))
          (blkOk_by (N := ["self", "place"]) (sc := defScope s_Reader_reads) (by decide +kernel))
          (fun _ _ _ _ _ => pg_name (i := 1) sc_Reader_reads.nd rfl (.inl rfl)) (fun _ _ _ _ _ => pts_nil) (fun _ _ _ _ _ => pv 1)
          (fun _ _ _ _ _ => pe_nget (P := P) (w := w) (K := K) (by exact ⟨rfl, rfl, rfl⟩) (by exact hr.units) (pe_fldK (K := K) (by exact rfl) (pv 0) rfl) (pv 1) (by intro _ _; rfl))))), ?_⟩
    have hlen := prM_len hL
    have ndL : (L.map (·.1)).Nodup := by
      have e := congrArg (List.map Prod.fst) hL
      unfold prM at e
      rw [List.map_map, List.map_map] at e
      have e' : L.map (·.1) = R.map (·.1) := e
      rw [e']
      exact hnd
    have nxd : x ≠ d := fun z => by rw [z, hd] at hx; cases hx
    refine ⟨d, _, hd, True.intro, fun od => ⟨_, rfl, x, C, dx, _, _, rfl, by rw [upd_ne nxd]; exact hx, TC.cl, TC.n_reads, rf_reads _ _ _ _ _, d, od, toN L, rfl, upd_same, fun D hD => ?_⟩⟩
    have hDd : D ≠ d := fun z => by rw [z, upd_same] at hD; cases hD
    have hD0 : H D = none := by rw [upd_ne hDd] at hD; exact hD
    refine dcG_it (new := fun D => DN P w D []) (put := putG P w K) (walk_keysN (P := P) (w := w) (d := d) (o := od) (L := toN L)) (fun j G => G D = some (DN P w D (toN (L.take j))) ∧ Lkd P w H G d od (toN L)) ⟨upd_same, Lkd.of.more (same_new (Same.refl _) hD)⟩ (fun j G _ hP => hP.2.at_) (fun j u Gx G hj hP hy => ?_) (fun G hP => ?_)
    · obtain ⟨eD, lk⟩ := hP
      obtain ⟨rfl, e0, he0, rfl⟩ := hy
      obtain ⟨y, hy, rfl⟩ := toN_at he0
      have ky : ∀ z ∈ L, KeyA K G z.2.1 (keyK z.1) := fun z hz => lk.key hd (hk z hz)
      have hyL := List.mem_of_getElem? hy
      have hj' : j < L.length := by rw [toN_len] at hj; exact hj
      refine ⟨rfl, _, rfl, _, rfl, x, C, dx, _, _, rfl, lk.sm _ _ nxd hx, TC.cl, TC.n_reads, rf_reads _ _ _ _ _, _, rfl, d, y.2.1, toN L, keyK y.1, y.2.2, rfl, rfl, ⟨.inr ⟨od, lk.at_⟩, fun z hz => ?_⟩, ky y hyL, getN_own ndL hy, ?_⟩
      · obtain ⟨z', hz', rfl⟩ := List.mem_map.mp hz
        exact ky z' hz'
      · refine ⟨toN (L.take j), keyK y.1, y.2.1, rfl, ky y hyL, eD, fun z hz => ?_, ?_, ?_, ⟨by rw [upd_ne (Ne.symm hDd)]; exact lk.at_, fun b u n e => by rw [upd_ne (ne_of_none e hD0)]; exact lk.sm b u n e⟩⟩
        · obtain ⟨z', hz', rfl⟩ := List.mem_map.mp hz
          exact ky z' (List.mem_of_mem_take hz')
        · rw [toN_len, List.length_take]
          exact Nat.lt_of_le_of_lt (show min j L.length ≤ 1000 by omega) (by decide)
        · rw [upd_same, putN_to, putM_new (take_key ndL hy), List.take_add_one, hy]
          rfl
    · obtain ⟨eD, lk⟩ := hP
      rw [toN_len, List.take_length] at eD
      have bk := lk.back hd
      exact ⟨lk.at_, q D _ hD0 bk ⟨L, by rw [upd_ne hDd]; exact eD, fun z hz => keyA_same bk (hk z hz), hL⟩⟩
end
end Kl

set_option maxRecDepth 100000
set_option maxHeartbeats 4000000
namespace Kl
open PySem PySem.Spec PyProof.Rows L2 Gx Mx
/-! ### str, == of readers -/
/-- f'..' of two parts or more, told by a name -/
def tJoined (ts : List TE) : TE := fun σ H Q => tJs ts Str.empty σ H fun out H1 => Q (.str out) H1
theorem pe_joinedN {X : Cx} {v1 v2 : Expr} {rest : List Expr} {ts : List TE} {pos : Pos} (h : PJ X (v1 :: v2 :: rest) ts) : PE X (.JoinedStr (v1 :: v2 :: rest) pos) (tJoined ts) := pe_joined h
theorem empty_app (a : Str) : Str.empty ++ a = a := by
  show (⟨#[] ++ a.cps⟩ : Str) = a
  rw [Array.empty_append]
theorem len_app (a b : Str) : (a ++ b).length = a.length + b.length := by
  show (a.cps ++ b.cps).size = _
  rw [Array.size_append]
  rfl
def strR (n m : Nat) : Str := ((("reader with " : Str) ++ (toString (n : Int) : Str)) ++ " states, ") ++ (toString (m : Int) : Str) ++ " reads"
theorem num_short : ∀ n : Fin 301, ((toString ((n : Nat) : Int) : Str)).length ≤ 3 := by decide +kernel
theorem log_300 {n : Nat} (h : n ≤ 300) : ((n : Int)).natAbs.log2 < 1920 := by
  have e : (List.range 301).all (fun n => decide (((n : Int)).natAbs.log2 < 1920)) = true := by decide +kernel
  exact of_decide_eq_true (List.all_eq_true.mp e n (List.mem_range.mpr (by omega)))
section
variable {P : Program} {w : World} {K : PySem.W.Frag} {mg : Str → Option Value} {base : Heap}
def spRStr (P : Program) (w : World) (K : PySem.W.Frag) (C : Addr) : Sp := fun vs H Q _ => ∃ (x : Addr) (first : Str) (ends : List Str) (R : Rds), vs = [.ref x] ∧ RdrAt P w K C H x first ends R ∧ R.length ≤ 300 ∧ ∀ ys, IsSt (statesL first ends R) ys → ys.length ≤ 300 ∧ Q (.str (strR ys.length R.length)) H
theorem ok_rstr {C f : Addr} {fd : FuncData} (F : Fun K "__str__" "Reader.__str__" s_Reader_str f fd) (T : Top K mg) (TC : Cl_Reader K mg C) : FnOk P w K mg base CX0 1 f fd ["self"] (spRStr P w K C) := by
  refine F.ok sc_Reader_str (fun vs H Q E h => ?_) (fun cdv A outer s H vs Q E hr h => ?_)
  · obtain ⟨x, first, ends, R, rfl, _⟩ := h
    rfl
  · obtain ⟨x, first, ends, R, rfl, ⟨dx, e, d, st, sp, ys, M, hx, he, ⟨L, hd, hk, hL⟩, hst, hys, _⟩, hl, q⟩ := h
    refine ⟨_, pss_one (ps_ret (pe_joinedN (.cons pe_str (.cons (pe_fmt (pe_callB call_len_seq (by rfl) T.b_len PySem.boot_len (pa_cons (pe_fld (pv 0) rfl) pa_nil))) (.cons pe_str
      (.cons (pe_fmt (pe_callB (call_lenN (P := P) (w := w) (K := K) (by exact ⟨rfl, rfl, rfl⟩)) (by rfl) T.b_len PySem.boot_len (pa_cons (pe_fld (pv 0) rfl) pa_nil))) (.cons pe_str .nil))))))), ?_⟩
    obtain ⟨l6, q⟩ := q ys hys
    have hlen := prM_len hL
    have big : 1000 ≤ sizeLine := by decide
    have n1 := num_short ⟨ys.length, by omega⟩
    have n2 := num_short ⟨R.length, by omega⟩
    have k1 : ("reader with " : Str).length = 12 := rfl
    have k2 : (" states, " : Str).length = 9 := rfl
    have k3 : (" reads" : Str).length = 6 := rfl
    dsimp only at n1 n2
    refine ⟨_, rfl, by rw [empty_app]; omega, ?_⟩
    refine ⟨_, rfl, x, C, dx, _, _, rfl, hx, TC.cl, TC.n_states, rf_states _ _ _ _ _, st, _, rfl, .inr hst, .inr ⟨(ys.length : Int), by rw [List.length_map], log_300 l6, ?_⟩⟩
    refine ⟨_, rfl, by rw [empty_app, len_app]; omega, _, rfl, by rw [empty_app, len_app, len_app]; omega, _, rfl, x, C, dx, _, _, rfl, hx, TC.cl, TC.n_reads, rf_reads _ _ _ _ _, d, toN L, rfl, .inl hd, .inr ⟨(R.length : Int), by rw [toN_len, hlen], log_300 hl, ?_⟩⟩
    refine ⟨_, rfl, by rw [empty_app, len_app, len_app, len_app]; omega, _, rfl, by rw [empty_app, len_app, len_app, len_app, len_app]; omega, ?_⟩
    rw [empty_app]
    exact q
end
end Kl

set_option maxRecDepth 100000
set_option maxHeartbeats 4000000
namespace Gx
open PySem PySem.Spec PyProof.Rows L2
/-! ### isinstance of any value, also of a dict with nested keys -/
def TyY (P : Program) (w : World) (K : PySem.W.Frag) (H : Hp) (x : V) (t : Value) : Prop := TyX K H x t ∨ ∃ a L, x = .ref a ∧ Rd H a (DN P w a L) ∧ t = .type "dict"
def rIsiY (P : Program) (w : World) (K : PySem.W.Frag) : List V → Hp → VK → Prop := fun xs H Q => ∃ (x c : V) (t u : Value) (b : Bool), xs = [x, c] ∧ ClsV c u ∧ TyY P w K H x t ∧ PySem.W.kitOne K t u = some b ∧ Q (.bl b) H
theorem call_isiY {X : Cx} {P : Program} {w : World} {K : PySem.W.Frag} (hx : XI X P w K) : CallR X (.builtin "isinstance") (rIsiY P w K) := by
  intro pins s σ H xs us Q I r h
  obtain ⟨x, c, t, u, b, rfl, k, ty, e, q⟩ := h
  rcases ty with ty | ⟨a, L, rfl, hd, rfl⟩
  · obtain ⟨rfl, rfl, rfl⟩ := hx
    exact call_isi pins s σ H _ us Q I r ⟨x, c, t, u, b, rfl, k, ty, e, q⟩
  · exact call_isiN hx pins s σ H _ us Q I r ⟨a, L, c, u, b, rfl, k, hd, e, q⟩
end Gx

set_option maxRecDepth 100000
set_option maxHeartbeats 4000000
namespace Kl
open PySem PySem.Spec PyProof.Rows L2 Gx Mx
/-! ### == of readers -/
def eqM (R R' : Rds) : Bool := decide (R.length = R'.length) && R.all fun r => decide (valV (R'.map fun q => (q.1, V.str q.2)) r.1 = some (V.str r.2))
def eqRdr (first first' : Str) (ends ends' : List Str) (R R' : Rds) : Bool := decide (first = first') && (decide (ends = ends') && eqM R R')
theorem eqN_to {L M : ML} {R R' : Rds} (hL : prM L = R.map fun r => (r.1, V.str r.2)) (hM : prM M = R'.map fun r => (r.1, V.str r.2)) : eqN (toN L) (toN M) = eqM R R' := by
  unfold eqN eqM
  rw [toN_len, toN_len, prM_len hL, prM_len hM]
  congr 1
  have e1 : prN (toN L) = L.map fun x => (keyK x.1, x.2.2) := by
    unfold prN toN
    rw [List.map_map]
    rfl
  have e2 : ∀ p : KW, valV (prN (toN M)) (keyK p) = valV (R'.map fun q => (q.1, V.str q.2)) p := fun p => by
    have := getN_to M p
    unfold getN at this
    rw [this, hM]
  have e3 : L.all (fun x => decide (valV (R'.map fun q => (q.1, V.str q.2)) x.1 = some x.2.2)) = R.all fun r => decide (valV (R'.map fun q => (q.1, V.str q.2)) r.1 = some (V.str r.2)) := by
    have h1 : (prM L).all (fun p => decide (valV (R'.map fun q => (q.1, V.str q.2)) p.1 = some p.2)) = L.all (fun x => decide (valV (R'.map fun q => (q.1, V.str q.2)) x.1 = some x.2.2)) := by
      unfold prM
      rw [List.all_map]
      rfl
    rw [← h1, hL, List.all_map]
    rfl
  rw [e1, List.all_map, ← e3]
  congr 1
  funext x
  show decide (valV (prN (toN M)) (keyK x.1) = some x.2.2) = _
  rw [e2]
theorem texts_of {L : ML} {R : Rds} (hL : prM L = R.map fun r => (r.1, V.str r.2)) : Texts (toN L) := fun x hx => by
  obtain ⟨y, hy, rfl⟩ := List.mem_map.mp hx
  obtain ⟨i, hi⟩ := List.mem_iff_getElem?.mp hy
  obtain ⟨r, _, _, e2⟩ := prM_at hL hi
  exact ⟨r.2, e2⟩
section
variable {P : Program} {w : World} {K : PySem.W.Frag} {mg : Str → Option Value} {base : Heap}
def spREq (P : Program) (w : World) (K : PySem.W.Frag) (C : Addr) : Sp := fun vs H Q _ => ∃ (x : Addr) (v : V) (first : Str) (ends : List Str) (R : Rds), vs = [.ref x, v] ∧ RdrAt P w K C H x first ends R ∧
  ((∃ (y : Addr) (first' : Str) (ends' : List Str) (R' : Rds), v = .ref y ∧ RdrAt P w K C H y first' ends' R' ∧ SeqAt.shaped (.tuple (tD ends)) = true ∧ SeqAt.shaped (.tuple (tD ends')) = true ∧ Q (.bl (eqRdr first first' ends ends' R R')) H) ∨
    ∃ t, TyY P w K H v t ∧ PySem.W.kitOne K t (.ref C) = some false ∧ Q (.bl false) H)
theorem ok_req {C f : Addr} {fd : FuncData} (F : Fun K "__eq__" "Reader.__eq__" s_Reader_eq f fd) (T : Top K mg) (TC : Cl_Reader K mg C) : FnOk P w K mg base CX0 1 f fd ["self", "other"] (spREq P w K C) := by
  refine F.ok sc_Reader_eq (fun vs H Q E h => ?_) (fun cdv A outer s H vs Q E hr h => ?_)
  · obtain ⟨x, v, first, ends, R, rfl, _⟩ := h
    rfl
  · obtain ⟨x, v, first, ends, R, rfl, ⟨dx, e, d, st, sp, ys, M, hx, he, ⟨L, hd, hk, hL⟩, _⟩, q⟩ := h
    refine ⟨_, pss_cut (ps_if (pt_not (pt_val (pe_callB (call_isiY (P := P) (w := w) (K := K) (by exact ⟨rfl, rfl, rfl⟩)) (by rfl) T.b_isinstance (by decide +kernel) (pa_cons (pv 1) (pa_cons (pe_glob (v := .ref C) (by rfl) TC.gC rfl) pa_nil))))) (pss_one (ps_ret pe_bl)) pss_nil)
      (pss_one (ps_ret (pe_and (pe_cmpR op_eq (pe_fld (pv 0) rfl) (pe_fld (pv 1) rfl) (nomark _)) (pe_and (pe_cmpR (op_eqD hr.units) (pe_fld (pv 0) rfl) (pe_fld (pv 1) rfl) (nomark _))
        (pe_one (pe_cmpR (op_eqN (P := P) (w := w) (K := K) (by exact ⟨rfl, rfl, rfl⟩) hr.units) (pe_fld (pv 0) rfl) (pe_fld (pv 1) rfl) (nomark _))))))), ?_⟩
    rcases q with ⟨y, first', ends', R', rfl, ⟨dx', e', d', st', sp', ys', M', hx', he', ⟨L', hd', hk', hL'⟩, _⟩, sh, sh', q⟩ | ⟨t, ty, kt, q⟩
    · refine ⟨fun σ' G => σ' = [some (.ref x), some (.ref y)] ∧ G = H, ?_, ?_⟩
      · refine ⟨_, rfl, _, _, .ref C, .ref C, true, rfl, .own C, .inl (.base (.ins hx' TC.cl TC.ca TC.cg TC.ct TC.ob)), TC.kit, true, rfl, ?_⟩
        show (if (!true) = true then _ else _)
        rw [if_neg (by decide)]
        exact ⟨rfl, rfl⟩
      rintro σ' G ⟨rfl, rfl⟩
      refine ⟨_, rfl, x, C, dx, _, _, rfl, hx, TC.cl, TC.n_first, rf_first _ _ _ _ _, _, rfl, y, C, dx', _, _, rfl, hx', TC.cl, TC.n_first, rf_first _ _ _ _ _, rfl, _, rfl, ?_⟩
      have ed : decide (V.str first = V.str first') = decide (first = first') := by
        rw [Bool.eq_iff_iff, decide_eq_true_eq, decide_eq_true_eq]
        exact ⟨fun q => V.str.inj q, fun q => by rw [q]⟩
      rw [ed]
      unfold eqRdr at q
      refine ite2 (fun c1 => ?_) (fun c1 => ?_)
      · rw [show decide (first = first') = true from c1, Bool.true_and] at q
        refine ⟨_, rfl, x, C, dx, _, _, rfl, hx, TC.cl, TC.n_ends, rf_ends _ _ _ _ _, _, rfl, y, C, dx', _, _, rfl, hx', TC.cl, TC.n_ends, rf_ends _ _ _ _ _, .tuple (tD ends), .tuple (tD ends'), .tup he (dp_texts ends), .tup he' (dp_texts ends'), sh, sh', _, rfl, ?_⟩
        rw [PyData.eqv, eqv_texts]
        refine ite2 (fun c2 => ?_) (fun c2 => ?_)
        · rw [show decide (ends = ends') = true from c2, Bool.true_and] at q
          have kN : ∀ {d : Addr} {L : ML} (hk : ∀ x ∈ L, KeyA K G x.2.1 (keyK x.1)), ∀ z ∈ toN L, KeyA K G z.2.1 z.1 := fun hk z hz => by
            obtain ⟨z', hz', rfl⟩ := List.mem_map.mp hz
            exact hk z' hz'
          refine ⟨_, rfl, x, C, dx, _, _, rfl, hx, TC.cl, TC.n_reads, rf_reads _ _ _ _ _, _, rfl, y, C, dx', _, _, rfl, hx', TC.cl, TC.n_reads, rf_reads _ _ _ _ _, d, d', toN L, toN L', rfl, rfl, ⟨.inl hd, kN (d := d) hk⟩, ⟨.inl hd', kN (d := d') hk'⟩, texts_of hL, texts_of hL', ?_⟩
          show Q (.bl (eqN (toN L) (toN L'))) G
          rw [eqN_to hL hL']
          exact q
        · rw [(by cases c : decide (ends = ends') with | false => rfl | true => exact absurd c c2 : decide (ends = ends') = false), Bool.false_and] at q
          exact q
      · rw [(by cases c : decide (first = first') with | false => rfl | true => exact absurd c c1 : decide (first = first') = false), Bool.false_and] at q
        exact q
    · refine ⟨fun _ _ => False, ?_, fun _ _ h => h.elim⟩
      refine ⟨_, rfl, _, _, t, .ref C, false, rfl, .own C, ty, kt, false, rfl, ?_⟩
      show (if (!false) = true then _ else _)
      rw [if_pos (by decide)]
      exact q
end
end Kl

set_option maxRecDepth 100000
set_option maxHeartbeats 4000000
namespace Kl
open PySem PySem.Spec PyProof.Rows L2 Gx Mx
/-! ### text_of, lines of readers -/
/-- sep.join(xs) -/
def rJoin (K : PySem.W.Frag) : V → List V → Hp → VK → Prop := fun x xs H Q => ∃ a p, ∃ ys : List Str, x = .str a ∧ xs = [.ref p] ∧ (SqL K H p (ys.map V.str) ∨ SqT K H p (ys.map V.str)) ∧ (ys.map (·.length)).sum + ys.length * a.length ≤ 16777216 ∧ Q (.str (Txt.join a ys)) H
def textD (q : List Str) : Str := if q = [] then "0" else Txt.join "+" q
theorem sum_by {m : Nat} {zs : List Str} (h : ∀ z ∈ zs, z.length ≤ m) : (zs.map (·.length)).sum ≤ m * zs.length := by
  induction zs with
  | nil => exact Nat.zero_le _
  | cons x r ih =>
    have hx := h x List.mem_cons_self
    have i := ih fun z hz => h z (List.mem_cons_of_mem _ hz)
    rw [List.map_cons, List.sum_cons, List.length_cons, Nat.mul_add]
    omega
theorem join_by {e : Str} (he : e.length = 1) {m : Nat} {zs : List Str} (h : ∀ z ∈ zs, z.length ≤ m) : (Txt.join e zs).length ≤ (m + 1) * zs.length := by
  rw [TL.join_eq]
  induction zs with
  | nil => exact Nat.zero_le _
  | cons x r ih =>
    have hx := h x List.mem_cons_self
    cases r with
    | nil =>
      show x.length ≤ _
      rw [List.length_singleton]
      omega
    | cons y r =>
      have i := ih fun z hz => h z (List.mem_cons_of_mem _ hz)
      show (x ++ e ++ Str.join e (y :: r)).length ≤ _
      rw [len_app, len_app, he, List.length_cons (a := x), Nat.mul_add]
      omega
def lineR (r : KW × Str) : Str := (((("read " : Str) ++ r.1.1) ++ " ") ++ textD r.1.2 ++ " ") ++ r.2
def linesR (first : Str) (ends : List Str) (R : Rds) : List Str := (("first " : Str) ++ first) :: Txt.join " " ("ends" :: ends) :: R.map lineR
section
variable {P : Program} {w : World} {K : PySem.W.Frag} {mg : Str → Option Value} {base : Heap}
def spTextOf (K : PySem.W.Frag) : Sp := fun vs H Q _ => ∃ (p : Addr) (q : List Str), vs = [V.ref p] ∧ SqT K H p (q.map V.str) ∧ q.length ≤ 100 ∧ (∀ z ∈ q, z.length ≤ 1000) ∧ Q (.str (textD q)) H
theorem ok_textof {f : Addr} {fd : FuncData} (F : Fun K "text_of" "text_of" s_text_of f fd) (T : Top K mg) : FnOk P w K mg base CX0 1 f fd ["names"] (spTextOf K) := by
  refine F.ok sc_text_of (fun vs H Q E h => ?_) (fun cdv A outer s H vs Q E hr h => ?_)
  · obtain ⟨p, q, rfl, _⟩ := h
    rfl
  · obtain ⟨p, q, rfl, hp, hl, hs, hQ⟩ := h
    refine ⟨_, pss_one (ps_ret (pe_ifExp (pt_truth (pv 0) (fun _ => rfl)) (pe_join pe_str (pv 0)) pe_str)), ?_⟩
    unfold textD at hQ
    cases q with
    | nil =>
      rw [if_pos rfl] at hQ
      exact ⟨_, rfl, false, .inr (.inl ⟨_, hp, rfl⟩), hQ⟩
    | cons z r =>
      rw [if_neg (List.cons_ne_nil _ _)] at hQ
      refine ⟨_, rfl, true, .inr (.inl ⟨_, hp, rfl⟩), ?_⟩
      show (if true = true then _ else _)
      rw [if_pos rfl]
      have ls := sum_by hs
      have e1 : ("+" : Str).length = 1 := rfl
      exact ⟨⟨_, rfl⟩, _, rfl, _, p, _, rfl, rfl, .inr hp, by rw [e1]; omega, hQ⟩
def spRLines (P : Program) (w : World) (K : PySem.W.Frag) (C : Addr) : Sp := fun vs H Q _ => ∃ (x : Addr) (first : Str) (ends : List Str) (R : Rds), vs = [.ref x] ∧ RdrAt P w K C H x first ends R ∧ (R.map (·.1)).Nodup ∧ R.length ≤ 300 ∧ ends.length ≤ 100 ∧ first.length ≤ 8 ∧ (∀ z ∈ ends, z.length ≤ 8) ∧
  (∀ r ∈ R, r.1.1.length ≤ 8 ∧ r.1.2.length ≤ 3 ∧ (∀ y ∈ r.1.2, y.length ≤ 8) ∧ r.2.length ≤ 8) ∧ ∀ p H', H p = none → Same H H' → H' p = some (.tup ((linesR first ends R).map V.str)) → Q (.ref p) H'
theorem ok_rlines {C f : Addr} {fd : FuncData} (F : Fun K "lines" "Reader.lines" s_Reader_lines f fd) (T : Top K mg) (TC : Cl_Reader K mg C) : FnOk P w K mg base CX0 2 f fd ["self"] (spRLines P w K C) := by
  have ct : Cal P w K mg base 1 "text_of" ["names"] (spTextOf K) := T.d_text_of.cal fun f fd F => ok_textof F T
  refine F.ok sc_Reader_lines (fun vs H Q E h => ?_) (fun cdv A outer s H vs Q E hr h => ?_)
  · obtain ⟨x, first, ends, R, rfl, _⟩ := h
    rfl
  · obtain ⟨x, first, ends, R, rfl, ⟨dx, e, d, st, sp, ys, M, hx, he, ⟨L, hd, hk, hL⟩, _⟩, hnd, hl, hle, hf8, he8, hR8, q⟩ := h
    refine ⟨_, pss_cut (ps_lock (ps_setLc (i := 1) (own := [("place", 3)]) (g := gName 3) (tt := tYes) (by rfl) sc_Reader_lines.nd rfl rfl (sw_true rfl rfl rfl (by decide +kernel)) (pi_keysN (P := P) (w := w) (K := K) (by exact ⟨rfl, rfl, rfl⟩) (pe_fld (pv 0) rfl))
          (blkOk_by (N := ["self", "reads", "ends", "place"]) (sc := defScope s_Reader_lines) (by decide +kernel)) (fun _ _ _ _ _ => pg_name (i := 3) sc_Reader_lines.nd rfl (.inl rfl)) (fun _ _ _ _ _ => pts_nil)
          (fun _ _ _ _ _ => pe_joinedN (.cons pe_str (.cons (pe_fmt (pe_ix (ix_tupK (K := K) (by exact rfl)) (pv 3) pe_int (fun _ _ => rfl))) (.cons pe_str (.cons (pe_fmt (pe_cal ct hr (by rfl) (pa_cons (pe_ix (ix_tupK (K := K) (by exact rfl)) (pv 3) pe_int (fun _ _ => rfl)) pa_nil)))
            (.cons pe_str (.cons (pe_fmt (pe_nget (P := P) (w := w) (K := K) (by exact ⟨rfl, rfl, rfl⟩) (by exact hr.units) (pe_fldK (K := K) (by exact rfl) (pv 0) rfl) (pv 3) (by intro _ _; rfl))) .nil)))))))))
      (pss_cut (ps_set (i := 2) sc_Reader_lines.nd rfl (.inl rfl) (pe_join pe_str (pe_lst (pa_cons pe_str (StX.pa_star (pe_fld (pv 0) rfl) pa_nil)))))
      (pss_one (ps_ret (pe_tup (pa_cons (pe_joinedN (.cons pe_str (.cons (pe_fmt (pe_fld (pv 0) rfl)) .nil))) (pa_cons (pv 2) (StX.pa_star (pv 1) pa_nil))))))), ?_⟩
    have hlen := prM_len hL
    have big : 1000 ≤ sizeLine := by decide
    have k5 : ("read " : Str).length = 5 := rfl
    have k1 : (" " : Str).length = 1 := rfl
    have k6 : ("first " : Str).length = 6 := rfl
    have k4 : ("ends" : Str).length = 4 := rfl
    have ndL : (L.map (·.1)).Nodup := by
      have e := congrArg (List.map Prod.fst) hL
      unfold prM at e
      rw [List.map_map, List.map_map] at e
      have e' : L.map (·.1) = R.map (·.1) := e
      rw [e']
      exact hnd
    have nxd : x ≠ d := fun z => by rw [z, hd] at hx; cases hx
    refine ⟨fun σ' G => ∃ D : Addr, σ' = [some (.ref x), some (.ref D), none, none] ∧ G D = some (.lst ((R.map lineR).map V.str)) ∧ Same H G, ?_, ?_⟩
    · refine ⟨d, _, hd, True.intro, fun od => ⟨_, rfl, x, C, dx, _, _, rfl, by rw [upd_ne nxd]; exact hx, TC.cl, TC.n_reads, rf_reads _ _ _ _ _, d, od, toN L, rfl, upd_same, fun D hD => ?_⟩⟩
      have hDd : D ≠ d := fun z => by rw [z, upd_same] at hD; cases hD
      have hD0 : H D = none := by rw [upd_ne hDd] at hD; exact hD
      refine lc_it (walk_keysN (P := P) (w := w) (d := d) (o := od) (L := toN L)) (fun j G => G D = some (.lst (((R.take j).map lineR).map V.str)) ∧ Lkd P w H G d od (toN L)) ⟨upd_same, Lkd.of.more (same_new (Same.refl _) hD)⟩ (fun j G _ hP => hP.2.at_) (fun j u Gx G hj hP hy => ?_) (fun G hP => ?_)
      · obtain ⟨eD, lk⟩ := hP
        obtain ⟨rfl, e0, he0, rfl⟩ := hy
        obtain ⟨y, hy, rfl⟩ := toN_at he0
        obtain ⟨r, hr0, er1, er2⟩ := prM_at hL hy
        have ky : ∀ z ∈ L, KeyA K G z.2.1 (keyK z.1) := fun z hz => lk.key hd (hk z hz)
        have hyL := List.mem_of_getElem? hy
        obtain ⟨g, hg1, hg2⟩ := keyK_at.mp (ky y hyL)
        rw [er1] at hg1 hg2
        obtain ⟨a1, a2, a3, a4⟩ := hR8 r (List.mem_of_getElem? hr0)
        have lT : (textD r.1.2).length ≤ 27 := by
          unfold textD
          split
          · show 1 ≤ 27
            omega
          · have := join_by (e := "+") rfl a3
            omega
        have hv : getN (toN L) (keyK y.1) = some (V.str r.2) := by rw [getN_own ndL hy, er2]
        refine ⟨rfl, ?_⟩
        refine ⟨_, rfl, by rw [empty_app]; omega, _, rfl, y.2.1, _, 0, _, rfl, rfl, hg1, rfl, .inl ⟨r.1.1, rfl, by omega, ?_⟩⟩
        refine ⟨_, rfl, by rw [empty_app, len_app]; omega, _, rfl, by rw [empty_app, len_app, len_app]; omega, ?_⟩
        refine ⟨_, rfl, y.2.1, _, 1, _, rfl, rfl, hg1, rfl, g, r.1.2, rfl, hg2, by omega, fun z hz => Nat.le_trans (a3 z hz) (by decide), .inl ⟨textD r.1.2, rfl, by omega, ?_⟩⟩
        refine ⟨_, rfl, by rw [empty_app, len_app, len_app, len_app]; omega, _, rfl, by rw [empty_app, len_app, len_app, len_app, len_app]; omega, ?_⟩
        refine ⟨_, rfl, x, C, dx, _, _, rfl, lk.sm _ _ nxd hx, TC.cl, TC.n_reads, rf_reads _ _ _ _ _, _, rfl, d, y.2.1, toN L, keyK y.1, V.str r.2, rfl, rfl, ⟨.inr ⟨od, lk.at_⟩, fun z hz => ?_⟩, ky y hyL, hv, .inl ⟨r.2, rfl, by omega, ?_⟩⟩
        · obtain ⟨z', hz', rfl⟩ := List.mem_map.mp hz
          exact ky z' hz'
        refine ⟨_, rfl, by rw [empty_app, len_app, len_app, len_app, len_app, len_app]; omega, ?_⟩
        refine ⟨_, eD, ?_, ?_, ⟨by rw [upd_ne (Ne.symm hDd)]; exact lk.at_, fun b u n e => by rw [upd_ne (ne_of_none e hD0)]; exact lk.sm b u n e⟩⟩
        · rw [List.length_map, List.length_map, List.length_take]
          exact Nat.lt_of_le_of_lt (Nat.le_trans (Nat.min_le_right _ _) hl) (by decide)
        · rw [upd_same, List.take_add_one, hr0, List.map_append, List.map_append, empty_app]
          rfl
      · obtain ⟨eD, lk⟩ := hP
        rw [toN_len, hlen, List.take_length] at eD
        exact ⟨lk.at_, D, rfl, by rw [upd_ne hDd]; exact eD, lk.back hd⟩
    rintro σ' G1 ⟨D1, rfl, eD1, s1⟩
    refine ⟨fun σ' G => σ' = [some (.ref x), some (.ref D1), some (.str (Txt.join " " ("ends" :: ends))), none] ∧ Same G1 G, ?_, ?_⟩
    · have hxG := s1 _ _ hx
      have heG := sqT_same s1 he
      refine ⟨⟨_, rfl⟩, _, rfl, x, C, dx, _, _, rfl, hxG, TC.cl, TC.n_ends, rf_ends _ _ _ _ _, e, _, rfl, .inl heG, ?_, fun l nl => ?_⟩
      · show (V.str "ends" :: (ends.map V.str ++ [])).length ≤ sizeLine
        rw [List.append_nil, List.length_cons, List.length_map]
        omega
      · have e1 : V.str "ends" :: (ends.map V.str ++ []) = (("ends" : Str) :: ends).map V.str := by rw [List.append_nil]; rfl
        refine ⟨" ", l, "ends" :: ends, rfl, rfl, .inl (.inl (.inl (by rw [← e1]; exact upd_same))), ?_, rfl, same_new (Same.refl G1) nl⟩
        have ls := sum_by he8
        rw [List.map_cons, List.sum_cons, List.length_cons, k4, k1]
        omega
    rintro σ' G2 ⟨rfl, s2⟩
    have s12 := s1.trans s2
    refine ⟨_, rfl, by rw [empty_app]; omega, _, rfl, x, C, dx, _, _, rfl, s12 _ _ hx, TC.cl, TC.n_first, rf_first _ _ _ _ _, .inl ⟨first, rfl, by omega, _, rfl, by rw [empty_app, len_app]; omega, ?_⟩⟩
    refine ⟨_, rfl, _, rfl, D1, _, rfl, .inr (.inl (.inl (s2 _ _ eD1))), ?_⟩
    have e2 : V.str (Str.empty ++ "first " ++ first) :: V.str (Txt.join " " ("ends" :: ends)) :: ((R.map lineR).map V.str ++ []) = (linesR first ends R).map V.str := by
      rw [empty_app, List.append_nil]
      rfl
    refine ⟨by rw [e2, List.length_map]; unfold linesR; rw [List.length_cons, List.length_cons, List.length_map]; omega, fun p np => q p _ (s12.free np) (s12.trans (same_new (Same.refl G2) np)) (by rw [e2]; exact upd_same)⟩
end
end Kl

set_option maxRecDepth 100000
set_option maxHeartbeats 4000000
namespace Kl
open PySem PySem.Spec PyProof.Rows L2 Gx Mx
theorem erase_map {α β : Type} (f : α → β) : ∀ (l : List α) (k : Nat), (l.map f).eraseIdx k = (l.eraseIdx k).map f
  | [], _ => rfl
  | _ :: _, 0 => rfl
  | x :: l, k + 1 => congrArg (f x :: ·) (erase_map f l k)
theorem erase_perm {α : Type} : ∀ (l : List α) (k : Nat) (x : α), l[k]? = some x → (x :: l.eraseIdx k).Perm l
  | [], _, _, h => by simp at h
  | y :: l, 0, x, h => by
    simp at h
    subst h
    exact List.Perm.refl _
  | y :: l, k + 1, x, h => by
    have ih := erase_perm l k x h
    exact (List.Perm.swap y x (l.eraseIdx k)).trans (ih.cons y)
section
variable {P : Program} {w : World} {K : PySem.W.Frag} {mg : Str → Option Value} {base : Heap}
/-! ### _law_mixed -/
def spMixed (K : PySem.W.Frag) : Sp := fun vs H Q _ => ∃ (d p : Addr) (zs : List Str), vs = [.ref d, .ref p] ∧ DiceAt H d ∧ p ≠ d ∧ SqL K H p (zs.map V.str) ∧ zs.length ≤ 1000 ∧
  ∀ (q : Addr) (H' : Hp) (ys : List Str), ys.Perm zs → H q = none → H' q = some (.lst (ys.map V.str)) → SameX d H H' → DiceAt H' d → Q (.ref q) H'
theorem seqI {r : Int} {n : Nat} (h0 : 0 ≤ r) (h1 : r < n) : seqIndex? r n = some r.toNat := by
  have e : ¬ r < 0 := by omega
  simp [seqIndex?, e, h0, h1]
theorem ok_mixed {f : Addr} {fd : FuncData} (F : Fun K "_law_mixed" "_law_mixed" s_law_mixed f fd) (T : Top K mg) : FnOk P w K mg base CX0 2 f fd ["_law_dice_here", "_law_items"] (spMixed K) := by
  have cr : Cal P w K mg base 1 "_law_roll" ["_law_dice_here", "_law_total"] spRoll := T.d_law_roll.cal fun f fd F => ok_roll F T
  refine F.ok sc_law_mixed (fun vs H Q E h => ?_) (fun cdv A outer s H vs Q E hr h => ?_)
  · obtain ⟨d, p, zs, rfl, _⟩ := h
    rfl
  · obtain ⟨d, p, zs, rfl, hd, hpd, hs, hl, q⟩ := h
    refine ⟨_, pss_cons (ps_par (i := 2) (j := 3) rfl sc_law_mixed.nd rfl rfl (by decide) rfl rfl (pa_cons (pe_callTy call_list_of (by rfl) T.b_list (by decide +kernel) (pa_cons (pv 1) pa_nil)) (pa_cons (pe_lst pa_nil) pa_nil)) rfl)
      (pss_cons (ps_for PassesOwn.never rfl (pi_range1 (by rfl) T.b_range (pa_cons (pe_callB call_len_seq (by rfl) T.b_len PySem.boot_len (pa_cons (pv 1) pa_nil)) pa_nil)) (pg_name (i := 4) sc_law_mixed.nd rfl (.inl rfl))
        (pss_one (ps_expr (pe_bm PySem.F.plainAttrs_list PySem.F.slot_list_append PySem.F.type_list_append mt_append (pv 3) (pa_cons
          (pe_bm PySem.F.plainAttrs_list PySem.F.slot_list_pop PySem.F.type_list_pop mt_popAt (pv 2) (pa_cons (pe_cal cr hr (by rfl) (pa_cons (pv 0) (pa_cons (pe_callB call_len_seq (by rfl) T.b_len PySem.boot_len (pa_cons (pv 2) pa_nil)) pa_nil))) pa_nil)) pa_nil)))))
      (pss_one (ps_ret (pv 3)))), ?_⟩
    have ln : (zs.map V.str).length = zs.length := List.length_map _
    refine ⟨_, rfl, p, _, rfl, .inl hs, fun l nl => ?_⟩
    have hld : l ≠ d := dice_ne hd nl
    refine ⟨Nat.zero_le _, fun q' nq => ?_⟩
    have hql : q' ≠ l := fun z => by
      rw [z, upd_same] at nq
      cases nq
    have nq0 : H q' = none := by rwa [upd_ne hql] at nq
    have hqd : q' ≠ d := dice_ne hd nq0
    have hp2 : SqL K (upd (upd H l (.lst (zs.map V.str))) q' (.lst [])) p (zs.map V.str) := by
      have s2 : Same H (upd (upd H l (.lst (zs.map V.str))) q' (.lst [])) := same_new (same_new (Same.refl H) nl) nq
      rcases hs with (h | ⟨o, h⟩) | h
      · exact .inl (.inl (s2 _ _ h))
      · exact .inl (.inr ⟨o, s2 _ _ h⟩)
      · exact .inr h
    refine ⟨_, _, rfl, _, rfl, p, _, rfl, .inl hp2, _, rfl, by omega, by omega, ?_⟩
    rw [ln]
    refine for_range (lo := 0) (fun i σ' H' => ∃ t, ∃ ls fs : List Str, σ' = [some (.ref d), some (.ref p), some (.ref l), some (.ref q'), t] ∧ H' l = some (.lst (ls.map V.str)) ∧ H' q' = some (.lst (fs.map V.str)) ∧ fs.length = i ∧ (fs ++ ls).Perm zs ∧ SameX d H H' ∧ DiceAt H' d)
      ⟨none, zs, [], rfl, ?_, upd_same, rfl, List.Perm.refl _, ?_, ?_⟩ (fun i σ' H' hi hP => ?_) (fun σ' H' hP => ?_)
    · rw [upd_ne hql.symm, upd_same]
    · exact ((SameX.refl d H).at nl).at nq0
    · exact dice_upd (dice_upd hd hld) hqd
    · obtain ⟨t, ls, fs, rfl, el, eq, lf, hp, sx, hd'⟩ := hP
      have lz := hp.length_eq
      rw [List.length_append] at lz
      have l1 : 0 < ls.length := by omega
      have lm : (ls.map V.str).length = ls.length := List.length_map _
      refine ⟨_, rfl, ⟨.inl ⟨rfl, _, .inl (.inl eq)⟩, ?_⟩⟩
      refine ⟨_, rfl, ⟨.inl ⟨rfl, _, .inl (.inl el)⟩, ?_⟩⟩
      refine ⟨_, rfl, _, rfl, l, _, rfl, .inl (.inl (.inl el)), d, _, rfl, hd', by rw [lm]; omega, by rw [lm]; exact log2_small (by omega), fun r x b c h0 h1 => ?_⟩
      rw [lm] at h1
      obtain ⟨k, rfl⟩ := Int.eq_ofNat_of_zero_le h0
      have hk : k < ls.length := by omega
      have ek : (ls.map V.str)[k]? = some (.str ls[k]) := by rw [List.getElem?_map, List.getElem?_eq_getElem hk]; rfl
      refine ⟨l, ls.map V.str, (k : Int), k, _, rfl, rfl, by rw [upd_ne hld]; exact el, by omega, by omega, by rw [lm]; exact seqI h0 h1, ek, ?_⟩
      refine ⟨q', fs.map V.str, _, rfl, rfl, by rw [upd_ne hql, upd_ne hqd]; exact eq, ?_, ?_⟩
      · rw [List.length_map]
        exact Nat.lt_of_le_of_lt (show fs.length ≤ 1000 by omega) (by decide)
      · refine ⟨_, ls.eraseIdx k, fs ++ [ls[k]], rfl, ?_, ?_, by rw [List.length_append, lf]; rfl, ?_, ?_, ?_⟩
        · rw [upd_ne hql.symm, upd_same, erase_map]
        · rw [upd_same, List.map_append]
          rfl
        · have e1 := erase_perm ls k _ (List.getElem?_eq_getElem hk)
          rw [List.append_assoc]
          exact (e1.append_left fs).trans hp
        · exact (sx.atd.at nl).at nq0
        · exact dice_upd (dice_upd (dice_new x b c) hld) hqd
    · obtain ⟨t, ls, fs, rfl, el, eq, lf, hp, sx, hd'⟩ := hP
      have lz := hp.length_eq
      rw [List.length_append] at lz
      have e0 : ls = [] := List.eq_nil_of_length_eq_zero (by omega)
      rw [e0, List.append_nil] at hp
      exact ⟨_, rfl, q q' H' fs hp nq0 eq sx hd'⟩
end
end Kl

set_option maxRecDepth 100000
set_option maxHeartbeats 4000000
namespace Kl
open PySem PySem.Spec PyProof.Rows L2 Gx Mx
section
variable {P : Program} {w : World} {K : PySem.W.Frag} {mg : Str → Option Value} {base : Heap}
/-! ### _law_mixed of a list or a tuple of any values -/
theorem sq_same {G G' : Hp} {a : Addr} {xs : List V} (h : SqL K G a xs ∨ SqT K G a xs) (s : Same G G') : SqL K G' a xs ∨ SqT K G' a xs := by
  rcases h with ((h | ⟨o, h⟩) | h) | ((h | ⟨o, h⟩) | h)
  · exact .inl (.inl (.inl (s _ _ h)))
  · exact .inl (.inl (.inr ⟨o, s _ _ h⟩))
  · exact .inl (.inr h)
  · exact .inr (.inl (.inl (s _ _ h)))
  · exact .inr (.inl (.inr ⟨o, s _ _ h⟩))
  · exact .inr (.inr h)
def spMixV (K : PySem.W.Frag) : Sp := fun vs H Q _ => ∃ (d p : Addr) (zs : List V), vs = [.ref d, .ref p] ∧ DiceAt H d ∧ (SqL K H p zs ∨ SqT K H p zs) ∧ zs.length ≤ 1000 ∧
  ∀ (q : Addr) (H' : Hp) (ys : List V), ys.Perm zs → H q = none → H' q = some (.lst ys) → SameX d H H' → DiceAt H' d → Q (.ref q) H'
theorem ok_mixV {f : Addr} {fd : FuncData} (F : Fun K "_law_mixed" "_law_mixed" s_law_mixed f fd) (T : Top K mg) : FnOk P w K mg base CX0 2 f fd ["_law_dice_here", "_law_items"] (spMixV K) := by
  have cr : Cal P w K mg base 1 "_law_roll" ["_law_dice_here", "_law_total"] spRoll := T.d_law_roll.cal fun f fd F => ok_roll F T
  refine F.ok sc_law_mixed (fun vs H Q E h => ?_) (fun cdv A outer s H vs Q E hr h => ?_)
  · obtain ⟨d, p, zs, rfl, _⟩ := h
    rfl
  · obtain ⟨d, p, zs, rfl, hd, hs, hl, q⟩ := h
    refine ⟨_, pss_cons (ps_par (i := 2) (j := 3) rfl sc_law_mixed.nd rfl rfl (by decide) rfl rfl (pa_cons (pe_callTy call_list_of (by rfl) T.b_list (by decide +kernel) (pa_cons (pv 1) pa_nil)) (pa_cons (pe_lst pa_nil) pa_nil)) rfl)
      (pss_cons (ps_for PassesOwn.never rfl (pi_range1 (by rfl) T.b_range (pa_cons (pe_callB call_len_seq (by rfl) T.b_len PySem.boot_len (pa_cons (pv 1) pa_nil)) pa_nil)) (pg_name (i := 4) sc_law_mixed.nd rfl (.inl rfl))
        (pss_one (ps_expr (pe_bm PySem.F.plainAttrs_list PySem.F.slot_list_append PySem.F.type_list_append mt_append (pv 3) (pa_cons
          (pe_bm PySem.F.plainAttrs_list PySem.F.slot_list_pop PySem.F.type_list_pop mt_popAt (pv 2) (pa_cons (pe_cal cr hr (by rfl) (pa_cons (pv 0) (pa_cons (pe_callB call_len_seq (by rfl) T.b_len PySem.boot_len (pa_cons (pv 2) pa_nil)) pa_nil))) pa_nil)) pa_nil)))))
      (pss_one (ps_ret (pv 3)))), ?_⟩
    refine ⟨_, rfl, p, _, rfl, hs, fun l nl => ?_⟩
    have hld : l ≠ d := dice_ne hd nl
    refine ⟨Nat.zero_le _, fun q' nq => ?_⟩
    have hql : q' ≠ l := fun z => by
      rw [z, upd_same] at nq
      cases nq
    have nq0 : H q' = none := by rwa [upd_ne hql] at nq
    have hqd : q' ≠ d := dice_ne hd nq0
    have hp2 := sq_same hs (same_new (o := .lst []) (same_new (o := .lst zs) (Same.refl H) nl) nq)
    refine ⟨_, _, rfl, _, rfl, p, _, rfl, hp2, _, rfl, by omega, by omega, ?_⟩
    refine for_range (lo := 0) (fun i σ' H' => ∃ t, ∃ ls fs : List V, σ' = [some (.ref d), some (.ref p), some (.ref l), some (.ref q'), t] ∧ H' l = some (.lst ls) ∧ H' q' = some (.lst fs) ∧ fs.length = i ∧ (fs ++ ls).Perm zs ∧ SameX d H H' ∧ DiceAt H' d)
      ⟨none, zs, [], rfl, ?_, upd_same, rfl, List.Perm.refl _, ?_, ?_⟩ (fun i σ' H' hi hP => ?_) (fun σ' H' hP => ?_)
    · rw [upd_ne hql.symm, upd_same]
    · exact ((SameX.refl d H).at nl).at nq0
    · exact dice_upd (dice_upd hd hld) hqd
    · obtain ⟨t, ls, fs, rfl, el, eq, lf, hp, sx, hd'⟩ := hP
      have lz := hp.length_eq
      rw [List.length_append] at lz
      have l1 : 0 < ls.length := by omega
      refine ⟨_, rfl, ⟨.inl ⟨rfl, _, .inl (.inl eq)⟩, ?_⟩⟩
      refine ⟨_, rfl, ⟨.inl ⟨rfl, _, .inl (.inl el)⟩, ?_⟩⟩
      refine ⟨_, rfl, _, rfl, l, _, rfl, .inl (.inl (.inl el)), d, _, rfl, hd', by omega, log2_small (by omega), fun r x b c h0 h1 => ?_⟩
      obtain ⟨k, rfl⟩ := Int.eq_ofNat_of_zero_le h0
      have hk : k < ls.length := by omega
      have ek : ls[k]? = some ls[k] := List.getElem?_eq_getElem hk
      refine ⟨l, ls, (k : Int), k, _, rfl, rfl, by rw [upd_ne hld]; exact el, by omega, by omega, seqI h0 h1, ek, ?_⟩
      refine ⟨q', fs, _, rfl, rfl, by rw [upd_ne hql, upd_ne hqd]; exact eq, ?_, ?_⟩
      · exact Nat.lt_of_le_of_lt (show fs.length ≤ 1000 by omega) (by decide)
      · refine ⟨_, ls.eraseIdx k, fs ++ [ls[k]], rfl, ?_, ?_, by rw [List.length_append, lf]; rfl, ?_, ?_, ?_⟩
        · rw [upd_ne hql.symm, upd_same]
        · rw [upd_same]
        · have e1 := erase_perm ls k _ ek
          rw [List.append_assoc]
          exact (e1.append_left fs).trans hp
        · exact (sx.atd.at nl).at nq0
        · exact dice_upd (dice_upd (dice_new x b c) hld) hqd
    · obtain ⟨t, ls, fs, rfl, el, eq, lf, hp, sx, hd'⟩ := hP
      have lz := hp.length_eq
      rw [List.length_append] at lz
      have e0 : ls = [] := List.eq_nil_of_length_eq_zero (by omega)
      rw [e0, List.append_nil] at hp
      exact ⟨_, rfl, q q' H' fs hp nq0 eq sx hd'⟩
end
end Kl

set_option maxRecDepth 100000
set_option maxHeartbeats 4000000
namespace Kl
open PySem PySem.Spec PyProof.Rows L2 Gx Mx
/-! ### plain readers; _law_digit_text, _law_made_reader -/
def plF (first : Str) (el rd : Addr) : List (Key × V) := [(Sum.inr ("first" : Str), .str first), (Sum.inr ("ends" : Str), .ref el), (Sum.inr ("reads" : Str), .ref rd)]
theorem pf_first (first : Str) (el rd : Addr) : valV (plF first el rd) (Sum.inr ("first" : Str)) = some (.str first) := valV_pos (p := ((Sum.inr ("first" : Str) : Key), V.str first)) rfl
theorem pf_ends (first : Str) (el rd : Addr) : valV (plF first el rd) (Sum.inr ("ends" : Str)) = some (.ref el) := by
  have n1 : ("first" : Str) ≠ "ends" := by decide +kernel
  have h1 : ¬ (Sum.inr ("first" : Str) : Key) = Sum.inr ("ends" : Str) := fun z => n1 (Sum.inr.inj z)
  exact (valV_neg (p := ((Sum.inr ("first" : Str) : Key), V.str first)) h1).trans (valV_pos (p := ((Sum.inr ("ends" : Str) : Key), V.ref el)) rfl)
theorem pf_reads (first : Str) (el rd : Addr) : valV (plF first el rd) (Sum.inr ("reads" : Str)) = some (.ref rd) := by
  have n1 : ("first" : Str) ≠ "reads" := by decide +kernel
  have n2 : ("ends" : Str) ≠ "reads" := by decide +kernel
  have h1 : ¬ (Sum.inr ("first" : Str) : Key) = Sum.inr ("reads" : Str) := fun z => n1 (Sum.inr.inj z)
  have h2 : ¬ (Sum.inr ("ends" : Str) : Key) = Sum.inr ("reads" : Str) := fun z => n2 (Sum.inr.inj z)
  exact (valV_neg (p := ((Sum.inr ("first" : Str) : Key), V.str first)) h1).trans ((valV_neg (p := ((Sum.inr ("ends" : Str) : Key), V.ref el)) h2).trans (valV_pos (p := ((Sum.inr ("reads" : Str) : Key), V.ref rd)) rfl))
/-- at p stands the plain reader, its list of ends at el, its lines at rd -/
def PlainAt (P : Program) (w : World) (K : PySem.W.Frag) (H : Hp) (p el rd : Addr) (first : Str) (ends : List Str) (R : Rds) : Prop := H p = some (.dK (plF first el rd)) ∧ SqL K H el (ends.map V.str) ∧ RDict P w K H rd R
theorem PlainAt.same {P : Program} {w : World} {K : PySem.W.Frag} {H H' : Hp} {p el rd : Addr} {first : Str} {ends : List Str} {R : Rds} (h : PlainAt P w K H p el rd first ends R) (s : Same H H') : PlainAt P w K H' p el rd first ends R := ⟨s _ _ h.1, sqL_sameE s h.2.1, h.2.2.same s⟩
/-- there is a reader so -/
structure RdOk (first : Str) (ends : List Str) (R : Rds) : Prop where
  ok : ∀ ys, IsSt (statesL first ends R) ys → readerB first ends R ys = true
  nd : (R.map (·.1)).Nodup
  le : ends.length ≤ 6
  lr : R.length ≤ 40
  f8 : first.length ≤ 8
  e8 : ∀ z ∈ ends, z.length ≤ 8
  r8 : ∀ r ∈ R, r.1.1.length ≤ 8 ∧ r.1.2.length ≤ 3 ∧ (∀ y ∈ r.1.2, y.length ≤ 8) ∧ r.2.length ≤ 8
theorem RdOk.shrt {first : Str} {ends : List Str} {R : Rds} (h : RdOk first ends R) : Shrt R := fun r hr => by
  obtain ⟨a, b, c, d⟩ := h.r8 r hr
  exact ⟨by omega, by omega, fun y hy => Nat.le_trans (c y hy) (by decide), by omega⟩
theorem hu' {k : Nat} {A : Around} (h : Room k A) : A.units + 1 < cLine := by
  have := h.units
  omega
section
variable {P : Program} {w : World} {K : PySem.W.Frag} {mg : Str → Option Value} {base : Heap}
def spDigT (K : PySem.W.Frag) : Sp := fun vs H Q _ => ∃ (p : Addr) (q : List Str), vs = [V.ref p] ∧ SqT K H p (q.map V.str) ∧ q.length ≤ 100 ∧ (∀ z ∈ q, z.length ≤ 1000 ∧ PyData.strOk z = true) ∧ ∀ H', Same H H' → Q (.str (textD q)) H'
theorem ok_digt {f : Addr} {fd : FuncData} (F : Fun K "_law_digit_text" "_law_digit_text" s_law_digit_text f fd) (T : Top K mg) : FnOk P w K mg base CX0 1 f fd ["_law_digit"] (spDigT K) := by
  refine F.ok sc_law_digit_text (fun vs H Q E h => ?_) (fun cdv A outer s H vs Q E hr h => ?_)
  · obtain ⟨p, q, rfl, _⟩ := h
    rfl
  · obtain ⟨p, q, rfl, hp, hl, hs, hQ⟩ := h
    refine ⟨_, pss_one (ps_ret (pe_ifExp (pt_cmpR (op_neD hr.units) (pv 0) (pe_tup pa_nil) (nomark _)) (pe_join pe_str (pv 0)) pe_str)), ?_⟩
    refine ⟨_, rfl, Nat.zero_le _, fun l nl => ?_⟩
    have s1 := same_new (o := .tup []) (Same.refl H) nl
    refine ⟨.tuple (tD q), .tuple (tD []), .tup (sqT_same s1 hp) (dp_texts q), .tup (SqT.of upd_same) (dp_texts []), shaped_textsT (fun z hz => (hs z hz).2), shaped_textsT (fun z hz => by cases hz), _, rfl, ?_⟩
    rw [PyData.eqv, eqv_texts]
    have z := hQ _ s1
    unfold textD at z
    by_cases c : q = []
    · rw [if_pos c] at z
      rw [decide_eq_true c]
      exact ite2 (fun e => by cases e) (fun _ => z)
    · rw [if_neg c] at z
      rw [decide_eq_false c]
      refine ite2 (fun _ => ?_) (fun e => absurd rfl e)
      have ls := sum_by fun y hy => (hs y hy).1
      have e1 : ("+" : Str).length = 1 := rfl
      exact ⟨⟨_, rfl⟩, _, rfl, _, p, _, rfl, rfl, .inr (sqT_same s1 hp), by rw [e1]; omega, z⟩
def spMade (P : Program) (w : World) (K : PySem.W.Frag) (C : Addr) : Sp := fun vs H Q _ => ∃ (p el rd : Addr) (first : Str) (ends : List Str) (R : Rds), vs = [.ref p] ∧ PlainAt P w K H p el rd first ends R ∧ RdOk first ends R ∧
  ∀ (R' : Rds) (x : Addr) (H' : Hp), R'.Perm R → Asc R' → H x = none → Same H H' → RdrAt P w K C H' x first ends R' → Q (.ref x) H'
theorem ok_made {C f : Addr} {fd : FuncData} (F : Fun K "_law_made_reader" "_law_made_reader" s_law_made_reader f fd) (T : Top K mg) (TC : Cl_Reader K mg C) : FnOk P w K mg base CX0 10 f fd ["_law_plain"] (spMade P w K C) := by
  have cI : CalI P w K mg base C 8 ["self", "first", "ends", "reads"] (spRInit P w K C) := by
    obtain ⟨f, fd, M, F, b⟩ := TC.made
    exact ⟨f, fd, M, ok_rinit F T TC, b⟩
  refine F.ok sc_law_made_reader (fun vs H Q E h => ?_) (fun cdv A outer s H vs Q E hr h => ?_)
  · obtain ⟨p, el, rd, first, ends, R, rfl, _⟩ := h
    rfl
  · obtain ⟨p, el, rd, first, ends, R, rfl, ⟨hp, he, hD⟩, hok, q⟩ := h
    refine ⟨_, pss_one (ps_ret (pe_makeC cI hr (by rfl) TC.gC (pa_cons (pe_dget (hu' hr) (pv 0) pe_str (fun _ _ => rfl)) (pa_cons (pe_callTy call_tuple_of (by rfl) T.b_tuple (by decide +kernel) (pa_cons (pe_dget (hu' hr) (pv 0) pe_str (fun _ _ => rfl)) pa_nil)) (pa_cons (pe_dget (hu' hr) (pv 0) pe_str (fun _ _ => rfl)) pa_nil))))), ?_⟩
    have g1 : ∀ {G : Hp}, G p = some (.dK (plF first el rd)) → DGet G p (.str "first") (some (.str first)) := fun {G} e => by
      have z := DGet.k (k := Sum.inr ("first" : Str)) e
      rw [pf_first] at z
      exact z
    have g2 : ∀ {G : Hp}, G p = some (.dK (plF first el rd)) → DGet G p (.str "ends") (some (.ref el)) := fun {G} e => by
      have z := DGet.k (k := Sum.inr ("ends" : Str)) e
      rw [pf_ends] at z
      exact z
    have g3 : ∀ {G : Hp}, G p = some (.dK (plF first el rd)) → DGet G p (.str "reads") (some (.ref rd)) := fun {G} e => by
      have z := DGet.k (k := Sum.inr ("reads" : Str)) e
      rw [pf_reads] at z
      exact z
    refine ⟨_, rfl, p, _, rfl, g1 hp, _, rfl, p, _, rfl, g2 hp, el, _, rfl, .inl ⟨he, fun l nl => ?_⟩⟩
    have s1 := same_new (o := .tup (ends.map V.str)) (Same.refl H) nl
    have hl : SqT K (upd H l (.tup (ends.map V.str))) l (ends.map V.str) := SqT.of upd_same
    refine ⟨_, rfl, p, _, rfl, g3 (s1 _ _ hp), fun x dx nx ndx hne => ?_⟩
    have s2 : Same (upd H l (.tup (ends.map V.str))) (upd (upd (upd H l (.tup (ends.map V.str))) dx (.own x)) x (.ins C dx [])) := same_new (same_new (Same.refl _) ndx) (by rw [upd_ne (Ne.symm hne)]; exact nx)
    have s12 := s1.trans s2
    have nx0 : H x = none := s1.free nx
    have hl2 := sqT_same s2 hl
    have hx2 : (upd (upd (upd H l (.tup (ends.map V.str))) dx (.own x)) x (.ins C dx [])) x = some (.ins C dx []) := upd_same
    generalize upd (upd (upd H l (.tup (ends.map V.str))) dx (.own x)) x (.ins C dx []) = G at *
    refine ⟨x, dx, l, rd, first, ends, R, rfl, hx2, by have := hok.f8; omega, hl2, fun z hz => Nat.le_trans (hok.e8 z hz) (by decide), hD.same s12, hok.nd, by have := hok.le; omega, by have := hok.lr; omega, hok.shrt, hok.ok, fun R' H' hp' hasc hR sx _ => ⟨rfl, q R' x H' hp' hasc nx0 (fun b u e => sx b u (ne_of_none e nx0) (s12 _ _ e)) hR⟩⟩
end
end Kl

set_option maxRecDepth 100000
set_option maxHeartbeats 4000000
namespace Kl
open PySem PySem.Spec PyProof.Rows L2 Gx Mx
/-! ### _law_state_names, _law_reader_states -/
theorem cut_to0 {xs : List V} (n : Nat) : cutV xs none (some ((n : Nat) : Int)) = xs.take n := by
  unfold cutV
  rw [HT.sIx_nat, HT.sIx_none, List.drop_zero, Nat.sub_zero]
  by_cases h : n ≤ xs.length
  · rw [Nat.min_eq_left h]
  · rw [Nat.min_eq_right (by omega), List.take_length, List.take_of_length_le (by omega)]
def TENS : List Str := ["s", "z", "o", "n", "y", "end", "first", "read", "zzzzzzzz", "a"]
theorem tens_nd : TENS.Nodup := by decide +kernel
theorem tens_ok : TENS.all nameB = true := by decide +kernel
theorem tens_short : TENS.all (fun z => decide (z.length ≤ 8)) = true := by decide +kernel
section
variable {P : Program} {w : World} {K : PySem.W.Frag} {mg : Str → Option Value} {base : Heap}
def spSN : Sp := fun vs H Q _ => ∃ (d : Addr) (n : Nat), vs = [.ref d, .int (n : Nat)] ∧ n ≤ 10 ∧ DiceAt H d ∧
  ∀ (p : Addr) (zs : List Str) H', SameX d H H' → DiceAt H' d → H p = none → H' p = some (.lst (zs.map V.str)) → zs.Nodup → (∀ z ∈ zs, z ∈ TENS) → zs.length = n → Q (.ref p) H'
theorem ok_sn {f : Addr} {fd : FuncData} (F : Fun K "_law_state_names" "_law_state_names" s_law_state_names f fd) (T : Top K mg) : FnOk P w K mg base CX0 3 f fd ["_law_dice_here", "_law_many"] spSN := by
  have cm : Cal P w K mg base 2 "_law_mixed" ["_law_dice_here", "_law_items"] (spMixed K) := T.d_law_mixed.cal fun f fd F => ok_mixed F T
  refine F.ok sc_law_state_names (fun vs H Q E h => ?_) (fun cdv A outer s H vs Q E hr h => ?_)
  · obtain ⟨d, n, rfl, _⟩ := h
    rfl
  · obtain ⟨d, n, rfl, hn, hd, q⟩ := h
    refine ⟨_, pss_one (ps_ret (pe_slice sl_list (pe_cal cm hr (by rfl) (pa_cons (pv 0) (pa_cons (pe_lst (pa_cons pe_str (pa_cons pe_str (pa_cons pe_str (pa_cons pe_str (pa_cons pe_str (pa_cons pe_str (pa_cons pe_str (pa_cons pe_str (pa_cons pe_str (pa_cons pe_str pa_nil))))))))))) pa_nil))) po_none (po_some (pv 1)))), ?_⟩
    have big : 100000 ≤ sizeLine := by decide
    refine ⟨_, rfl, by show 10 ≤ sizeLine; omega, fun pool np => ?_⟩
    have hpd : pool ≠ d := dice_ne hd np
    have hd1 := dice_upd (o := .lst (TENS.map V.str)) hd hpd
    have sx1 : SameX d H (upd H pool (.lst (TENS.map V.str))) := (SameX.refl d H).at np
    refine ⟨d, pool, TENS, rfl, hd1, hpd, .inl (.inl upd_same), by decide, fun lm H2 ys hperm nlm elm sx2 hd2 => ?_⟩
    have sxa := sx1.trans sx2
    have hlmd : lm ≠ d := dice_ne hd1 nlm
    have l8 : ys.length = 10 := hperm.length_eq
    refine ⟨_, rfl, _, rfl, lm, _, rfl, .inl (.inl elm), fun l nl => ?_⟩
    have ec : cutV (ys.map V.str) none (some ((n : Nat) : Int)) = (ys.take n).map V.str := by
      rw [cut_to0, List.map_take]
    rw [ec]
    have hld : l ≠ d := dice_ne hd2 nl
    refine q l (ys.take n) _ (sxa.new nl) (dice_upd hd2 hld) (sxa.free hld nl) upd_same ((hperm.nodup_iff.mpr tens_nd).sublist (List.take_sublist _ _)) (fun z hz => hperm.mem_iff.mp (List.mem_of_mem_take hz)) ?_
    rw [List.length_take]
    omega
theorem pg1 {H : Hp} {p el rd : Addr} {first : Str} (e : H p = some (.dK (plF first el rd))) : DGet H p (.str "first") (some (.str first)) := by
  have z := DGet.k (k := Sum.inr ("first" : Str)) e
  rw [pf_first] at z
  exact z
theorem pg2 {H : Hp} {p el rd : Addr} {first : Str} (e : H p = some (.dK (plF first el rd))) : DGet H p (.str "ends") (some (.ref el)) := by
  have z := DGet.k (k := Sum.inr ("ends" : Str)) e
  rw [pf_ends] at z
  exact z
theorem pg3 {H : Hp} {p el rd : Addr} {first : Str} (e : H p = some (.dK (plF first el rd))) : DGet H p (.str "reads") (some (.ref rd)) := by
  have z := DGet.k (k := Sum.inr ("reads" : Str)) e
  rw [pf_reads] at z
  exact z
def spRSt (P : Program) (w : World) (K : PySem.W.Frag) : Sp := fun vs H Q _ => ∃ (p el rd : Addr) (first : Str) (ends : List Str) (R : Rds), vs = [.ref p] ∧ PlainAt P w K H p el rd first ends R ∧ ends.length ≤ 100 ∧ R.length ≤ 300 ∧
  ∀ (ys : List Str) (l : Addr) (H' : Hp), IsSt (statesL first ends R) ys → Same H H' → H l = none → H' l = some (.lst (ys.map V.str)) → Q (.ref l) H'
theorem ok_rst {f : Addr} {fd : FuncData} (F : Fun K "_law_reader_states" "_law_reader_states" s_law_reader_states f fd) (T : Top K mg) : FnOk P w K mg base CX0 1 f fd ["_law_plain"] (spRSt P w K) := by
  refine F.ok sc_law_reader_states (fun vs H Q E h => ?_) (fun cdv A outer s H vs Q E hr h => ?_)
  · obtain ⟨p, el, rd, first, ends, R, rfl, _⟩ := h
    rfl
  · obtain ⟨p, el, rd, first, ends, R, rfl, ⟨hp, he, hD⟩, hle, hl, q⟩ := h
    refine ⟨_, pss_cut (ps_set (i := 1) sc_law_reader_states.nd rfl (.inl rfl) (pe_op op_cat (pe_op op_cat (pe_lst (pa_cons (pe_dget (hu' hr) (pv 0) pe_str (fun _ _ => rfl)) pa_nil)) (pe_callTy call_list_of (by rfl) T.b_list (by decide +kernel) (pa_cons (pe_dget (hu' hr) (pv 0) pe_str (fun _ _ => rfl)) pa_nil)))
        (pe_lock (pe_lc (own := [("_law_state", 2), ("_law_digit", 3)]) (g := gTup K 2 (gCons (gName 2) (gCons (gName 3) gNil))) (tt := tYes) rfl sc_law_reader_states.nd (pi_keysN (P := P) (w := w) (K := K) (by exact ⟨rfl, rfl, rfl⟩) (pe_dget (hu' hr) (pv 0) pe_str (fun _ _ => rfl)))
          (blkOk_by (N := ["_law_plain", "_law_found", "_law_state", "_law_digit"]) (sc := defScope s_law_reader_states) (by decide +kernel))
          (fun _ _ _ _ _ => pg_tup rfl (pgs_cons (pg_name (i := 2) sc_law_reader_states.nd rfl (.inl rfl)) (pgs_cons (pg_name (i := 3) sc_law_reader_states.nd rfl (.inl rfl)) pgs_nil))) (fun _ _ _ _ _ => pts_nil) (fun _ _ _ _ _ => pv 2)))))
      (pss_one (ps_ret (pe_callB (cr_sortedX rfl) (by rfl) T.b_sorted (by decide +kernel) (pa_cons (pe_callTy (cr_setX rfl) (by rfl) T.b_set (by decide +kernel) (pa_cons
        (pe_op op_cat (pv 1) (pe_listValsN (P := P) (w := w) (K := K) (by exact ⟨rfl, rfl, rfl⟩) rfl (pe_dget (hu' hr) (pv 0) pe_str (fun _ _ => rfl)) (by rfl) T.b_list (by decide +kernel))) pa_nil)) pa_nil)))), ?_⟩
    have big : 1000 ≤ sizeLine := by decide
    obtain ⟨L, hdL, hkL, hL⟩ := id hD
    have hlen := prM_len hL
    refine ⟨fun σ' G => ∃ D : Addr, σ' = [some (.ref p), some (.ref D), none, none] ∧ G D = some (.lst ((first :: (ends ++ R.map fun r => r.1.1)).map V.str)) ∧ Same H G, ?_, ?_⟩
    · refine ⟨_, rfl, p, _, rfl, pg1 hp, by show 1 ≤ sizeLine; omega, fun l1 n1 => ?_⟩
      have s1 := same_new (o := .lst [V.str first]) (Same.refl H) n1
      have e1 : (upd H l1 (.lst [V.str first])) l1 = some (.lst [V.str first]) := upd_same
      generalize upd H l1 (.lst [V.str first]) = G1 at *
      refine ⟨_, rfl, p, _, rfl, pg2 (s1 _ _ hp), el, _, rfl, .inl (sqL_sameE s1 he), fun l2 n2 => ?_⟩
      have s2 := same_new (o := .lst (ends.map V.str)) (Same.refl G1) n2
      have e2 : (upd G1 l2 (.lst (ends.map V.str))) l2 = some (.lst (ends.map V.str)) := upd_same
      generalize upd G1 l2 (.lst (ends.map V.str)) = G2 at *
      refine ⟨l1, l2, _, _, rfl, rfl, s2 _ _ e1, e2, by rw [List.length_map]; show 1 + _ ≤ _; omega, fun l3 n3 => ?_⟩
      have s3 := same_new (o := .lst ([V.str first] ++ ends.map V.str)) (Same.refl G2) n3
      have e3 : (upd G2 l3 (.lst ([V.str first] ++ ends.map V.str))) l3 = some (.lst ([V.str first] ++ ends.map V.str)) := upd_same
      generalize upd G2 l3 (.lst ([V.str first] ++ ends.map V.str)) = G3 at *
      have s03 := s1.trans (s2.trans s3)
      have hd3 := s03 _ _ hdL
      have npr : p ≠ rd := fun z => by rw [z, hdL] at hp; cases hp
      refine ⟨rd, _, hd3, True.intro, fun od => ⟨_, rfl, p, _, rfl, pg3 (by rw [upd_ne npr]; exact s03 _ _ hp), rd, od, toN L, rfl, upd_same, fun D hD => ?_⟩⟩
      have hDd : D ≠ rd := fun z => by rw [z, upd_same] at hD; cases hD
      have hD0 : G3 D = none := by rw [upd_ne hDd] at hD; exact hD
      refine lc_it (walk_keysN (P := P) (w := w) (d := rd) (o := od) (L := toN L)) (fun j G => G D = some (.lst (((R.take j).map fun r => r.1.1).map V.str)) ∧ Lkd P w G3 G rd od (toN L)) ⟨upd_same, Lkd.of.more (same_new (Same.refl _) hD)⟩ (fun j G _ hP => hP.2.at_) (fun j u Gx G hj hP hy => ?_) (fun G hP => ?_)
      · obtain ⟨eD, lk⟩ := hP
        obtain ⟨rfl, e0, he0, rfl⟩ := hy
        obtain ⟨x0, hx0, rfl⟩ := toN_at he0
        obtain ⟨r, hr0, er1, er2⟩ := prM_at hL hx0
        obtain ⟨g, hg1, hg2⟩ := keyK_at.mp (lk.key hd3 (keyA_same s03 (hkL x0 (List.mem_of_getElem? hx0))))
        rw [er1] at hg1
        refine ⟨x0.2.1, _, rfl, hg1, rfl, _, _, rfl, _, _, rfl, rfl, rfl, _, rfl, _, eD, ?_, ?_, ?_⟩
        · rw [List.length_map, List.length_map, List.length_take]
          exact Nat.lt_of_le_of_lt (Nat.le_trans (Nat.min_le_right _ _) hl) (by decide)
        · rw [upd_same, List.take_add_one, hr0, List.map_append, List.map_append]
          rfl
        · exact ⟨by rw [upd_ne (Ne.symm hDd)]; exact lk.at_, fun b u n e => by rw [upd_ne (ne_of_none e hD0)]; exact lk.sm b u n e⟩
      · obtain ⟨eD, lk⟩ := hP
        rw [toN_len, hlen, List.take_length] at eD
        have bk := lk.back hd3
        refine ⟨lk.at_, l3, D, _, _, rfl, rfl, bk _ _ e3, by rw [upd_ne hDd]; exact eD, ?_, fun l4 n4 => ⟨l4, rfl, ?_, (s03.trans bk).trans (same_new (Same.refl _) n4)⟩⟩
        · rw [List.length_append, List.length_map, List.length_map, List.length_map]
          show 1 + _ + _ ≤ _
          omega
        · rw [upd_same, List.map_cons, List.map_append]
          rfl
    rintro σ' G4 ⟨D4, rfl, e4, s4⟩
    refine ⟨_, rfl, _, rfl, p, _, rfl, pg3 (s4 _ _ hp), rd, toN L, rfl, .inl (s4 _ _ hdL), fun l5 n5 => ?_⟩
    have s5 := same_new (o := .lst ((toN L).map fun x => x.2.2)) (Same.refl G4) n5
    have e5 : (upd G4 l5 (.lst ((toN L).map fun x => x.2.2))) l5 = some (.lst ((toN L).map fun x => x.2.2)) := upd_same
    generalize upd G4 l5 (.lst ((toN L).map fun x => x.2.2)) = G5 at *
    have ev : ((toN L).map fun x => x.2.2) = (R.map fun r => r.2).map V.str := by
      unfold toN
      have e := congrArg (List.map Prod.snd) hL
      unfold prM at e
      rw [List.map_map, List.map_map] at e
      rw [List.map_map, List.map_map]
      exact e
    rw [ev] at e5
    refine ⟨D4, l5, _, _, rfl, rfl, s5 _ _ e4, e5, ?_, fun l6 n6 => ?_⟩
    · rw [List.length_map, List.length_map, List.length_map, List.length_cons, List.length_append, List.length_map]
      omega
    have ef : (first :: (ends ++ R.map fun r => r.1.1)).map V.str ++ (R.map fun r => r.2).map V.str = (statesL first ends R).map V.str := by
      unfold statesL
      rw [← List.map_append, List.cons_append, List.append_assoc]
    rw [ef]
    have ln : (statesL first ends R).length ≤ 1000 := by
      unfold statesL
      rw [List.length_cons, List.length_append, List.length_append, List.length_map, List.length_map]
      omega
    have s6 := same_new (o := .lst ((statesL first ends R).map V.str)) (Same.refl G5) n6
    have e6 : (upd G5 l6 (.lst ((statesL first ends R).map V.str))) l6 = some (.lst ((statesL first ends R).map V.str)) := upd_same
    generalize upd G5 l6 (.lst ((statesL first ends R).map V.str)) = G6 at *
    refine ⟨l6, _, rfl, .inl (.inl e6), ln, fun a na => ?_⟩
    have s7 := same_new (o := SetO' P w a (statesL first ends R)) (Same.refl G6) na
    refine ⟨a, _, rfl, upd_same, ln, fun ys l hs nd hm nl => ?_⟩
    have s8 := (s4.trans (s5.trans (s6.trans s7))).trans (same_new (o := .lst (ys.map V.str)) (Same.refl _) nl)
    exact q ys l _ ⟨hs, nd, hm⟩ s8 ((s4.trans (s5.trans (s6.trans s7))).free nl) upd_same
end
end Kl

set_option maxRecDepth 100000
set_option maxHeartbeats 4000000
namespace Kl
open PySem PySem.Spec PyProof.Rows L2 Gx Mx
/-! ### _law_reader_lines -/
theorem str_assoc (a b c : Str) : a ++ b ++ c = a ++ (b ++ c) := by
  show (⟨a.cps ++ b.cps ++ c.cps⟩ : Str) = ⟨a.cps ++ (b.cps ++ c.cps)⟩
  rw [Array.append_assoc]
theorem line_join (r : KW × Str) : Txt.join " " ["read", r.1.1, textD r.1.2, r.2] = lineR r := by
  rw [TL.join_eq]
  show ("read" : Str) ++ " " ++ (r.1.1 ++ " " ++ (textD r.1.2 ++ " " ++ r.2)) = _
  unfold lineR
  have e1 : ("read " : Str) = ("read" : Str) ++ " " := by decide +kernel
  rw [e1]
  simp only [str_assoc]
theorem ends_join {ends : List Str} (h : ends ≠ []) : ("ends " : Str) ++ Txt.join " " ends = Txt.join " " ("ends" :: ends) := by
  rw [TL.join_eq, TL.join_eq]
  cases ends with
  | nil => exact absurd rfl h
  | cons z r =>
    have e1 : ("ends " : Str) = ("ends" : Str) ++ " " := by decide +kernel
    rw [e1]
    rfl
section
variable {P : Program} {w : World} {K : PySem.W.Frag} {mg : Str → Option Value} {base : Heap}
def spRLs (P : Program) (w : World) (K : PySem.W.Frag) : Sp := fun vs H Q _ => ∃ (p el rd : Addr) (first : Str) (ends : List Str) (R : Rds), vs = [.ref p] ∧ PlainAt P w K H p el rd first ends R ∧ RdOk first ends R ∧ ends ≠ [] ∧ (∀ r ∈ R, ∀ y ∈ r.1.2, PyData.strOk y = true) ∧
  ∀ (R' : Rds) (l : Addr) (H' : Hp), R'.Perm R → Asc R' → Same H H' → H l = none → H' l = some (.lst ((linesR first ends R').map V.str)) → Q (.ref l) H'
theorem ok_rls {f : Addr} {fd : FuncData} (F : Fun K "_law_reader_lines" "_law_reader_lines" s_law_reader_lines f fd) (T : Top K mg) : FnOk P w K mg base CX0 2 f fd ["_law_plain"] (spRLs P w K) := by
  have cd : Cal P w K mg base 1 "_law_digit_text" ["_law_digit"] (spDigT K) := T.d_law_digit_text.cal fun f fd F => ok_digt F T
  refine F.ok sc_law_reader_lines (fun vs H Q E h => ?_) (fun cdv A outer s H vs Q E hr h => ?_)
  · obtain ⟨p, el, rd, first, ends, R, rfl, _⟩ := h
    rfl
  · obtain ⟨p, el, rd, first, ends, R, rfl, ⟨hp, he, hD⟩, hok, hne, hso, q⟩ := h
    refine ⟨_, pss_cut (ps_set (i := 1) sc_law_reader_lines.nd rfl (.inl rfl) (pe_lst (pa_cons (pe_op op_add_str pe_str (pe_dget (hu' hr) (pv 0) pe_str (fun _ _ => rfl))) (pa_cons (pe_op op_add_str pe_str (pe_join pe_str (pe_dget (hu' hr) (pv 0) pe_str (fun _ _ => rfl)))) pa_nil))))
      (pss_cut (ps_for PassesOwn.never rfl (pi_listK (K := K) rfl (pe_callB (cr_sortedN (P := P) (w := w) (K := K) (by exact ⟨rfl, rfl, rfl⟩) rfl (by exact hr.units)) (by rfl) T.b_sorted (by decide +kernel) (pa_cons (pe_dget (hu' hr) (pv 0) pe_str (fun _ _ => rfl)) pa_nil)))
          (pg_tup rfl (pgs_cons (pg_name (i := 2) sc_law_reader_lines.nd rfl (.inl rfl)) (pgs_cons (pg_name (i := 3) sc_law_reader_lines.nd rfl (.inl rfl)) pgs_nil)))
        (pss_one (ps_expr (pe_bm PySem.F.plainAttrs_list PySem.F.slot_list_append PySem.F.type_list_append mt_append (pv 1) (pa_cons
          (pe_join pe_str (pe_lst (pa_cons pe_str (pa_cons (pv 2) (pa_cons (pe_cal cd hr (by rfl) (pa_cons (pv 3) pa_nil)) (pa_cons (pe_nget (P := P) (w := w) (K := K) (by exact ⟨rfl, rfl, rfl⟩) (by exact hr.units) (pe_dget (hu' hr) (pv 0) pe_str (fun _ _ => rfl)) (pe_tup (pa_cons (pv 2) (pa_cons (pv 3) pa_nil))) (by intro _ _; rfl)) pa_nil)))))) pa_nil)))))
      (pss_one (ps_ret (pv 1)))), ?_⟩
    have big : 100000 ≤ sizeLine := by decide
    have k6 : ("first " : Str).length = 6 := rfl
    have k5 : ("ends " : Str).length = 5 := rfl
    have k1 : (" " : Str).length = 1 := rfl
    have k4 : ("read" : Str).length = 4 := rfl
    obtain ⟨L, hdL, hkL, hL⟩ := id hD
    have hlen := prM_len hL
    have hlr := hok.lr
    have ndL : (L.map (·.1)).Nodup := by
      have e := congrArg (List.map Prod.fst) hL
      unfold prM at e
      rw [List.map_map, List.map_map] at e
      have e' : L.map (·.1) = R.map (·.1) := e
      rw [e']
      exact hok.nd
    refine ⟨fun σ' G => ∃ l : Addr, σ' = [some (.ref p), some (.ref l), none, none] ∧ H l = none ∧ G l = some (.lst [V.str ("first " ++ first), V.str (Txt.join " " ("ends" :: ends))]) ∧ Same H G, ?_, ?_⟩
    · have js := join_by (e := " ") rfl hok.e8
      have sb := sum_by hok.e8
      have le := hok.le
      refine ⟨_, rfl, p, _, rfl, pg1 hp, _, _, rfl, rfl, by rw [k6]; have := hok.f8; omega, ?_⟩
      refine ⟨⟨_, rfl⟩, _, rfl, p, _, rfl, pg2 hp, " ", el, ends, rfl, rfl, .inl he, by rw [k1]; omega, _, _, rfl, rfl, by rw [k5]; omega, ?_⟩
      refine ⟨by show 2 ≤ sizeLine; omega, fun l nl => ⟨l, rfl, nl, ?_, same_new (Same.refl H) nl⟩⟩
      rw [upd_same, ends_join hne]
    rintro σ' G1 ⟨l, rfl, nl, el1, s1⟩
    refine ⟨fun σ' G => ∃ (R' : Rds) (t u : Option V), σ' = [some (.ref p), some (.ref l), t, u] ∧ R'.Perm R ∧ Asc R' ∧ G l = some (.lst ((linesR first ends R').map V.str)) ∧ Same H G, ?_, ?_⟩
    · refine ⟨_, rfl, p, _, rfl, pg3 (s1 _ _ hp), rd, L, rfl, ⟨.inl (s1 _ _ hdL), fun y hy => ?_⟩, by omega, fun L' kl hperm hsrt nkl => ?_⟩
      · obtain ⟨z, hz, rfl⟩ := List.mem_map.mp hy
        exact keyA_same s1 (hkL z hz)
      have nk : G1 kl = none := nkl
      have nlk : kl ≠ l := fun z => by rw [z, el1] at nk; cases nk
      have s2 : Same G1 (upd G1 kl (.lst (L'.map fun x => V.ref x.2.1))) := same_new (Same.refl G1) nk
      have ekl : (upd G1 kl (.lst (L'.map fun x => V.ref x.2.1))) kl = some (.lst (L'.map fun x => V.ref x.2.1)) := upd_same
      generalize upd G1 kl (.lst (L'.map fun x => V.ref x.2.1)) = G2 at *
      have s02 := s1.trans s2
      have nd' : (L'.map (·.1)).Nodup := (hperm.map (·.1)).nodup_iff.mpr ndL
      have llen : L'.length = L.length := hperm.length_eq
      refine ⟨kl, rfl, ⟨_, .inl (.inl ekl)⟩, ?_⟩
      refine for_it (walk_list (K := K) (a := kl) (xs := L'.map fun x => V.ref x.2.1)) (fun j σ' G => ∃ (t u : Option V), σ' = [some (.ref p), some (.ref l), t, u] ∧ G l = some (.lst (V.str ("first " ++ first) :: V.str (Txt.join " " ("ends" :: ends)) :: ((L'.take j).map fun z => V.str (lineR (z.1, txK z.2.2))))) ∧ Same H G ∧ G kl = some (.lst (L'.map fun x => V.ref x.2.1)))
        ⟨none, none, rfl, s2 _ _ el1, s02, ekl⟩ (fun j σ' G _ h => by obtain ⟨_, _, _, _, _, k⟩ := h; exact .inl (.inl k)) (fun j x σ' G G' hj h hy => ?_) (fun σ' G h => ?_)
      · obtain ⟨t, u, rfl, eF, sm, ek⟩ := h
        obtain ⟨rfl, hu⟩ := hy
        rw [List.getElem?_map] at hu
        obtain ⟨y, hy, rfl⟩ := Option.map_eq_some_iff.mp hu
        have hyL : y ∈ L' := List.mem_of_getElem? hy
        obtain ⟨i, hi⟩ := List.mem_iff_getElem?.mp (hperm.mem_iff.mp hyL)
        have hv : getN (toN L) (keyK y.1) = some y.2.2 := getN_own ndL hi
        obtain ⟨r, hr0, er1, er2⟩ := prM_at hL hi
        have hrR := List.mem_of_getElem? hr0
        obtain ⟨a1, a2, a3, a4⟩ := hok.r8 r hrR
        have hy0 := hkL y (List.mem_of_getElem? hi)
        obtain ⟨g, hg1, hg2⟩ := keyK_at.mp hy0
        refine ⟨y.2.1, _, rfl, sqT_same sm hg1, rfl, _, _, rfl, _, _, rfl, rfl, ?_⟩
        have lT : (textD y.1.2).length ≤ 27 := by
          rw [er1]
          unfold textD
          split
          · show 1 ≤ 27
            omega
          · have := join_by (e := "+") rfl a3
            omega
        have hj' : j < L'.length := by rw [List.length_map] at hj; exact hj
        refine ⟨_, rfl, ⟨.inl ⟨rfl, _, .inl (.inl eF)⟩, ?_⟩⟩
        refine ⟨⟨_, rfl⟩, _, rfl, _, rfl, g, y.1.2, rfl, sqT_same sm hg2, by rw [er1]; omega, fun z hz => ?_, fun G5 s5 => ?_⟩
        · rw [er1] at hz
          exact ⟨Nat.le_trans (a3 z hz) (by decide), hso r hrR z hz⟩
        refine ⟨_, rfl, p, _, rfl, pg3 (s5 _ _ (sm _ _ hp)), _, rfl, _, rfl, by show 2 ≤ sizeLine; omega, fun q nq => ?_⟩
        have s6 := same_new (o := .tup [V.str y.1.1, V.ref g]) (Same.refl G5) nq
        have e6 : (upd G5 q (.tup [V.str y.1.1, V.ref g])) q = some (.tup [V.str y.1.1, V.ref g]) := upd_same
        generalize upd G5 q (.tup [V.str y.1.1, V.ref g]) = G6 at *
        have s06 := sm.trans (s5.trans s6)
        refine ⟨rd, q, toN L, keyK y.1, V.str r.2, rfl, rfl, ⟨.inl (s06 _ _ hdL), fun z hz => ?_⟩, keyK_at.mpr ⟨g, SqT.of e6, sqT_same s06 hg2⟩, by rw [hv, er2], ?_⟩
        · obtain ⟨z', hz', rfl⟩ := List.mem_map.mp hz
          exact keyA_same s06 (hkL z' hz')
        refine ⟨by show 4 ≤ sizeLine; omega, fun m nm => ?_⟩
        have s7 := same_new (o := .lst [V.str "read", V.str y.1.1, V.str (textD y.1.2), V.str r.2]) (Same.refl G6) nm
        have e7 : (upd G6 m (.lst [V.str "read", V.str y.1.1, V.str (textD y.1.2), V.str r.2])) m = some (.lst [V.str "read", V.str y.1.1, V.str (textD y.1.2), V.str r.2]) := upd_same
        generalize upd G6 m (.lst [V.str "read", V.str y.1.1, V.str (textD y.1.2), V.str r.2]) = G7 at *
        have s47 := s5.trans (s6.trans s7)
        refine ⟨" ", m, ["read", y.1.1, textD y.1.2, r.2], rfl, rfl, .inl (.inl (.inl e7)), ?_, ?_⟩
        · show ("read" : Str).length + (y.1.1.length + ((textD y.1.2).length + (r.2.length + 0))) + 4 * (" " : Str).length ≤ 16777216
          rw [k4, k1, er1]
          rw [er1] at lT
          omega
        refine ⟨l, _, _, rfl, rfl, s47 _ _ eF, ?_, ?_⟩
        · simp only [List.length_cons, List.length_map, List.length_take]
          exact Nat.lt_of_le_of_lt (show min j L'.length + 1 + 1 ≤ 1000 by omega) (by decide)
        have eline : V.str (Txt.join " " ["read", y.1.1, textD y.1.2, r.2]) = V.str (lineR (y.1, txK y.2.2)) := by
          rw [er2]
          exact congrArg V.str (line_join (y.1, r.2))
        refine ⟨_, _, rfl, ?_, fun b o e => ?_, ?_⟩
        · rw [upd_same, eline, List.take_add_one, hy, List.map_append]
          rfl
        · rw [upd_ne (ne_of_none e nl)]
          exact (sm.trans s47) b o e
        · rw [upd_ne nlk]
          exact s47 _ _ ek
      · obtain ⟨t, u, rfl, eF, sm, ek⟩ := h
        rw [List.length_map, List.take_length] at eF
        have valL : ∀ z ∈ L, z.2.2 = V.str (txK z.2.2) := fun z hz => by
          obtain ⟨i, hi⟩ := List.mem_iff_getElem?.mp hz
          obtain ⟨r, _, _, e2⟩ := prM_at hL hi
          rw [e2]
          rfl
        have eR : R = L.map fun z => (z.1, txK z.2.2) := by
          have e := congrArg (List.map fun q : KW × V => (q.1, txK q.2)) hL
          unfold prM at e
          rw [List.map_map, List.map_map] at e
          have e2 : R.map ((fun q : KW × V => (q.1, txK q.2)) ∘ fun r => (r.1, V.str r.2)) = R := by
            have : ((fun q : KW × V => (q.1, txK q.2)) ∘ fun r : KW × Str => (r.1, V.str r.2)) = id := by
              funext r
              rfl
            rw [this, List.map_id]
          rw [e2] at e
          exact e.symm
        refine ⟨L'.map fun z => (z.1, txK z.2.2), t, u, rfl, ?_, ?_, ?_, sm⟩
        · have z := hperm.map fun z : KW × Addr × V => (z.1, txK z.2.2)
          rw [← eR] at z
          exact z
        · unfold Asc
          rw [List.pairwise_map]
          exact hsrt
        · rw [eF]
          unfold linesR
          rw [List.map_cons, List.map_cons, List.map_map, List.map_map]
          rfl
    rintro σ' G3 ⟨R', t, u, rfl, hperm, hasc, el3, s3⟩
    exact ⟨_, rfl, q R' l G3 hperm hasc s3 nl el3⟩
end
end Kl

set_option maxRecDepth 100000
set_option maxHeartbeats 4000000
namespace Gx
open PySem PySem.Spec PyProof.Rows L2
/-! ### sets whose members are tuples, nested or not -/
section
variable {P : Program} {w : World}
/-- v holds nothing of a class statement, n levels down -/
def Plainly (P : Program) (w : World) (n : Nat) (s : Shared) (v : Value) : Prop := ∀ (A : Around) (E : Value → Shared → Prop) (Q : Bool → Shared → Prop), Q false s → wpAny (model P w) A (ofAClassStatement n v) Q E s
/-- whether the hash goes by value is told, n levels down -/
def Sayable (P : Program) (w : World) (n : Nat) (s : Shared) (v : Value) : Prop := ∀ (A : Around) (E : Value → Shared → Prop) (Q : Bool → Shared → Prop), (∀ b, Q b s) → wpAny (model P w) A (hashByValue n v) Q E s
theorem Plainly.tuple {n : Nat} {s : Shared} {a : Addr} {ob : Obj} {its : Array Value} {m : Nat} (e1 : s.heap.get? a = some ob) (e2 : ob.cls = .type "tuple") (e3 : ob.data = .seq its m) (all : ∀ v ∈ its.toList, Plainly P w n s v) : Plainly P w (n + 1) s (.ref a) := fun A E Q q => by
  have tp : s.TypeIs (.ref a) "tuple" := ⟨ob, e1, e2⟩
  unfold ofAClassStatement
  refine wpAny_bind <| wpAny_typeOf tp ?_
  dsimp only
  have same : (("tuple" : String) == "tuple") = true := by decide
  simp only [same, if_true, Bool.not_true, Bool.false_eq_true, if_false]
  try refine wpAny_bind (wpAny_pure ?_)
  try simp only [Bool.not_true, Bool.false_eq_true, if_false]
  refine wpAny_bind <| wpAny_seqItems e1 e3 ?_
  dsimp only
  refine wpAny_bind ?_
  show wpAny _ _ (forIn its _ _) _ _ s
  rw [← Array.forIn_toList]
  refine wpAny_forIn_list _ (fun left r st => (r.1 = none ∧ st = s) ∧ ∀ v ∈ left, Plainly P w n s v) _ ?_ ?_ _ _ ⟨⟨rfl, rfl⟩, all⟩
  · rintro v left r st ⟨⟨_, rfl⟩, every⟩
    refine wpAny_bind <| every v List.mem_cons_self _ _ _ ?_
    simp only [Bool.false_eq_true, if_false]
    exact wpAny_pure ⟨⟨rfl, rfl⟩, fun u m => every u (List.mem_cons_of_mem _ m)⟩
  · rintro ⟨r1, r2⟩ st ⟨⟨c, rfl⟩, _⟩
    dsimp only at c
    subst c
    exact wpAny_pure q
theorem Sayable.tuple {n : Nat} {s : Shared} {a : Addr} {ob : Obj} {its : Array Value} {m : Nat} (e1 : s.heap.get? a = some ob) (e2 : ob.cls = .type "tuple") (e3 : ob.data = .seq its m) (all : ∀ v ∈ its.toList, Sayable P w n s v) : Sayable P w (n + 1) s (.ref a) := fun A E Q q => by
  have tp : s.TypeIs (.ref a) "tuple" := ⟨ob, e1, e2⟩
  unfold hashByValue
  refine wpAny_bind <| wpAny_specialOf tp F.slot_tuple_hash.lookup ?_
  dsimp only
  refine wpAny_bind <| wpAny_seqItems e1 e3 ?_
  refine wpAny_bind ?_
  show wpAny _ _ (forIn its _ _) _ _ s
  rw [← Array.forIn_toList]
  refine wpAny_forIn_list _ (fun left r st => (r.1 = none ∧ st = s) ∧ ∀ v ∈ left, Sayable P w n s v) _ ?_ ?_ _ _ ⟨⟨rfl, rfl⟩, all⟩
  · rintro v left r st ⟨⟨_, rfl⟩, every⟩
    refine wpAny_bind <| every v List.mem_cons_self _ _ _ fun b => ?_
    cases b
    · simp only [Bool.not_false, if_true]
      exact wpAny_pure (wpAny_pure (q false))
    · simp only [Bool.not_true, Bool.false_eq_true, if_false]
      exact wpAny_pure ⟨⟨rfl, rfl⟩, fun u m => every u (List.mem_cons_of_mem _ m)⟩
  · rintro ⟨r1, r2⟩ st ⟨⟨c, rfl⟩, _⟩
    dsimp only at c
    subst c
    exact wpAny_pure (q true)
mutual
theorem plainly_key : ∀ (k : NestedKey) (v : Value) (n : Nat) (s : Shared), NestedIs s.heap k v → k.depth ≤ n → Plainly P w n s v
  | .none, _, n, s, x, _ => by cases x; exact fun A E Q q => by cases n <;> exact wpAny_pure q
  | .num i, _, n, s, x, _ => by cases x <;> exact fun A E Q q => by cases n <;> exact wpAny_pure q
  | .text y, _, n, s, x, _ => by cases x; exact fun A E Q q => by cases n <;> exact wpAny_pure q
  | .tup ks, _, n, s, x, low => by
    cases x with
    | tup e1 e2 e3 each =>
      rw [NestedKey.depth] at low
      obtain ⟨n, rfl⟩ : ∃ j, n = j + 1 := ⟨n - 1, by omega⟩
      exact .tuple e1 e2 e3 (plainly_keys ks _ n s each (by omega))
theorem plainly_keys : ∀ (ks : List NestedKey) (vs : List Value) (n : Nat) (s : Shared), NestedAll s.heap ks vs → NestedKey.depthAll ks ≤ n → ∀ v ∈ vs, Plainly P w n s v
  | [], _, n, s, x, _, v, m => by cases x; cases m
  | k :: ks, _, n, s, x, low, v, m => by
    cases x with
    | cons x1 x2 =>
      rw [NestedKey.depthAll] at low
      rcases List.mem_cons.mp m with e | m
      · subst e; exact plainly_key k _ n s x1 (by omega)
      · exact plainly_keys ks _ n s x2 (by omega) v m
end
mutual
theorem sayable_key : ∀ (k : NestedKey) (v : Value) (n : Nat) (s : Shared), NestedIs s.heap k v → k.depth ≤ n → Sayable P w n s v
  | .none, _, n, s, x, _ => by cases x; exact fun A E Q q => by cases n <;> exact wpAny_pure (q _)
  | .num i, _, n, s, x, _ => by cases x <;> exact fun A E Q q => by cases n <;> exact wpAny_pure (q _)
  | .text y, _, n, s, x, _ => by cases x; exact fun A E Q q => by cases n <;> exact wpAny_pure (q _)
  | .tup ks, _, n, s, x, low => by
    cases x with
    | tup e1 e2 e3 each =>
      rw [NestedKey.depth] at low
      obtain ⟨n, rfl⟩ : ∃ j, n = j + 1 := ⟨n - 1, by omega⟩
      exact .tuple e1 e2 e3 (sayable_keys ks _ n s each (by omega))
theorem sayable_keys : ∀ (ks : List NestedKey) (vs : List Value) (n : Nat) (s : Shared), NestedAll s.heap ks vs → NestedKey.depthAll ks ≤ n → ∀ v ∈ vs, Sayable P w n s v
  | [], _, n, s, x, _, v, m => by cases x; cases m
  | k :: ks, _, n, s, x, low, v, m => by
    cases x with
    | cons x1 x2 =>
      rw [NestedKey.depthAll] at low
      rcases List.mem_cons.mp m with e | m
      · subst e; exact sayable_key k _ n s x1 (by omega)
      · exact sayable_keys ks _ n s x2 (by omega) v m
end
end
/-- at b stands the key k, in the true heap -/
def IsN (h : Heap) (k : NestedKey) (b : Addr) : Prop := NestedIs h k (.ref b) ∧ k.depth ≤ 8
theorem IsN.keep {h h' : Heap} {k : NestedKey} {b : Addr} (x : IsN h k b) (kp : ∀ c o its n, h.get? c = some o → o.data = .seq its n → h'.get? c = some o) : IsN h' k b := ⟨NestedIs.at kp k _ x.1, x.2⟩
theorem IsN.one {h : Heap} {k k' : NestedKey} {b : Addr} (x : IsN h k b) (y : IsN h k' b) : k = k' := NestedIs.inj _ _ _ x.1 y.1
abbrev NMs := List (Addr × NestedKey)
def rowsN (w : World) (L : NMs) : List (Int × Value) := L.map fun p => (p.2.hash w, Value.ref p.1)
abbrev hashN (w : World) (L : NMs) : List Int := L.map fun p => p.2.hash w
/-- the set's own object: its rows and its table -/
structure SetNAt (w : World) (h : Heap) (a : Addr) (L : NMs) (es : Array (Int × Value)) (ep : Nat) (t : SetTable) : Prop where
  here : ∃ ob, h.get? a = some ob ∧ ob.ExactSet ∧ ob.data = .set es ep t
  rows : es.toList = rowsN w L
  tab : TabOk t (hashN w L)
  once : (L.map (·.2)).Nodup
  led : w.params.followText "set-order" = true ∨ t.led = true
  room : L.length * 5 < t.mask * 3
  few : L.length < 64
section
variable {P : Program} {w : World} {A : Around} {E : Value → Shared → Prop} {s : Shared} {a : Addr} {L : NMs} {es : Array (Int × Value)} {ep : Nat} {t : SetTable}
theorem rowsN_len {L : NMs} {es : Array (Int × Value)} (e : es.toList = rowsN w L) : es.size = L.length := by
  have q := congrArg List.length e
  simpa [rowsN] using q
theorem rowsN_get {L : NMs} {es : Array (Int × Value)} (e : es.toList = rowsN w L) {i : Nat} {p : Addr × NestedKey} (g : L[i]? = some p) : es[i]? = some (p.2.hash w, Value.ref p.1) := by
  rw [← Array.getElem?_toList, e, rowsN, List.getElem?_map, g]
  rfl
theorem SetNAt.ft (R : SetNAt w s.heap a L es ep t) : t.fits es.size = true := by
  have z1 : t.place.size = L.length := by rw [R.tab.sz]; simp [hashN]
  have z2 := rowsN_len R.rows
  have z3 := R.room
  simp only [SetTable.fits, SetTable.fill, R.tab.dm, Bool.and_eq_true, beq_iff_eq, decide_eq_true_eq]
  show t.place.size = es.size ∧ t.place.size + 0 ≤ t.mask
  omega
theorem SetNAt.stays (R : SetNAt w s.heap a L es ep t) : ¬ t.gaveWay = true := by
  rw [SetTable.gaveWay, mask_odd R.tab.mok]
  decide
/-- asking among keys shows nothing -/
theorem unseen_key {k : NestedKey} {b : Addr} {Q : Bool → Shared → Prop} (x : IsN s.heap k b) {ys : List Value} (all : ∀ y ∈ ys, ∃ k' c, y = Value.ref c ∧ IsN s.heap k' c) (q : Q false s) :
    wpAny (model P w) A (searchCouldBeSeen (.ref b) ys) Q E s := by
  unfold searchCouldBeSeen
  refine wpAny_bind ?_
  refine wpAny_forIn_list _ (fun left r st => (r.1 = none ∧ st = s) ∧ ∀ y ∈ left, ∃ k' c, y = Value.ref c ∧ IsN s.heap k' c) _ ?_ ?_ _ _ ⟨⟨rfl, rfl⟩, all⟩
  · rintro v left r st ⟨⟨_, rfl⟩, every⟩
    obtain ⟨k', c, rfl, xc⟩ := every v List.mem_cons_self
    have rest : ∀ y ∈ left, ∃ k' c, y = Value.ref c ∧ IsN st.heap k' c := fun u m => every u (List.mem_cons_of_mem _ m)
    dsimp only
    by_cases very : (b == c || (carriedByValue (.ref b) && carriedByValue (.ref c))) = true
    · exact wp_if_pos very (wpAny_pure ⟨⟨rfl, rfl⟩, rest⟩)
    · refine wp_if_neg very ?_
      refine wpAny_bind <| quiet_key k _ 8 st x.1 x.2 _ _ _ ?_
      simp only [Bool.not_true, Bool.false_eq_true, if_false]
      refine wpAny_bind <| quiet_key k' _ 8 st xc.1 xc.2 _ _ _ ?_
      simp only [Bool.not_true, Bool.false_eq_true, if_false]
      refine wpAny_bind <| plainly_key k _ 8 st x.1 x.2 _ _ _ ?_
      simp only [Bool.false_eq_true, if_false]
      refine wpAny_bind <| plainly_key k' _ 8 st xc.1 xc.2 _ _ _ ?_
      simp only [Bool.false_eq_true, if_false]
      exact wpAny_pure ⟨⟨rfl, rfl⟩, rest⟩
  · rintro ⟨r1, r2⟩ st ⟨⟨c, rfl⟩, _⟩
    dsimp only at c
    subst c
    exact wpAny_pure q
theorem same_key {k k' : NestedKey} {b c : Addr} {Q : Bool → Shared → Prop} (room : A.units + 9 < cLine) (x : IsN s.heap k b) (y : IsN s.heap k' c) (q : Q (decide (k = k')) s) :
    wpAny (model P w) A (eqBool (.ref b) (.ref c)) Q E s :=
  (nestedKind P w).eqBool (show A.units + 8 < cLine by omega) x y q
/-- the start of the way of h -/
abbrev pr0 (m : Nat) (h : Int) : SetTable.Probe := runAt m (SetTable.bits h % (m + 1)) (SetTable.bits h)
theorem nth_dummy (m : Nat) : ∀ (n : Nat) (p : SetTable.Probe), p.dummy = none → (nth m p n).dummy = none
  | 0, _, e => e
  | n + 1, p, e => nth_dummy m n (adv m p) (by unfold adv; split <;> exact e)
/-- the search for the key k, from the c-th step of its way on -/
theorem seek_key (R : SetNAt w s.heap a L es ep t) (tup : ∀ p ∈ L, IsN s.heap p.2 p.1) {x : Addr} {k : NestedKey} {adding : Bool} (hx : IsN s.heap k x) (room : A.units + 9 < cLine) {K : Nat} (bound : K < 10 * SetTable.turns t.mask)
    (free : way t.mask (k.hash w) K ∉ t.place.toList) (taken : ∀ c, c < K → way t.mask (k.hash w) c ∈ t.place.toList) {Q : SetFound → Shared → Prop}
    (yes : k ∈ L.map (·.2) → ∀ r, Q (.there r) s) (no : k ∉ L.map (·.2) → Q (.free (way t.mask (k.hash w) K) false) s) :
    ∀ (f c : Nat) (stand : Option SetTable.Probe), stand.getD (t.probeStart (k.hash w)) = nth t.mask (pr0 t.mask (k.hash w)) c → c ≤ K → K - c < f →
      (∀ (i : Nat) p, L[i]? = some p → p.2 = k → ∃ c', c ≤ c' ∧ c' < K ∧ t.place.toList[i]? = some (way t.mask (k.hash w) c')) →
      wpAny (model P w) A (setSearchFrom a (.ref x) (k.hash w) adding f stand) Q E s
  | 0, c, stand, _, _, less, _ => absurd less (Nat.not_lt_zero _)
  | f + 1, c, stand, from', upto, less, ahead => by
    obtain ⟨ob, here, ex, dt⟩ := R.here
    rw [setSearchFrom_succ]
    refine wpAny_bind <| wpAny_setState_of here dt R.ft ?_
    dsimp only
    refine wp_if_neg R.stays ?_
    try refine wpAny_bind (wpAny_pure ?_)
    have dum : (nth t.mask (pr0 t.mask (k.hash w)) c).dummy = none := nth_dummy _ _ _ rfl
    have on : ∀ q, nth t.mask (nth t.mask (pr0 t.mask (k.hash w)) c) q = nth t.mask (pr0 t.mask (k.hash w)) (c + q) := fun q => (nth_add t.mask c _ q).symm
    have onj : ∀ q, (nth t.mask (nth t.mask (pr0 t.mask (k.hash w)) c) q).j = way t.mask (k.hash w) (c + q) := fun q => congrArg SetTable.Probe.j (on q)
    have hashed : ∀ (i : Nat) p, L[i]? = some p → (fun i => (es[i]?.map (·.1)).getD 0) i = p.2.hash w := fun i p g => by
      show (es[i]?.map (·.1)).getD 0 = _
      rw [rowsN_get R.rows g]
      rfl
    rcases go_spec t R.tab.ris R.tab.dm (fun i => (es[i]?.map (·.1)).getD 0) (k.hash w) (10 * SetTable.turns t.mask) (K - c) _ dum (by omega)
        (fun q lt => by rw [onj]; exact taken (c + q) (by omega)) (by rw [onj, show c + (K - c) = K by omega]; exact free) with ⟨q, i, lt, at_, _, none_, probed⟩ | ⟨none_, probed⟩
    · have asked : t.probe (fun i => (es[i]?.map (·.1)).getD 0) (k.hash w) (stand.getD (t.probeStart (k.hash w))) = some (.candidate (way t.mask (k.hash w) (c + q)) i (nth t.mask (pr0 t.mask (k.hash w)) (c + (q + 1)))) := by
        rw [from', ← onj, ← on]
        exact probed
      rw [asked]
      dsimp only
      rw [onj] at at_
      have il : i < L.length := by
        have q1 : i < t.place.toList.length := (List.getElem?_eq_some_iff.mp at_).1
        have q2 : t.place.size = L.length := by rw [R.tab.sz]; simp [hashN]
        rw [Array.length_toList] at q1
        omega
      obtain ⟨p, gp⟩ : ∃ p, L[i]? = some p := ⟨_, List.getElem?_eq_getElem il⟩
      have pm : p ∈ L := List.mem_of_getElem? gp
      have rest : wpAny (model P w) A (searchRest a (.ref x) (k.hash w) adding f es t (way t.mask (k.hash w) (c + q)) i (nth t.mask (pr0 t.mask (k.hash w)) (c + (q + 1)))) Q E s := by
        unfold searchRest
        rw [rowsN_get R.rows gp]
        dsimp only
        refine wpAny_bind <| wpAny_holding <| same_key room (tup p pm) hx ?_
        refine wpAny_bind <| wpAny_setState_of here dt R.ft ?_
        dsimp only
        have live : t.slot (way t.mask (k.hash w) (c + q)) = .live i := slot_live R.tab.ris at_
        by_cases eqk : p.2 = k
        · have inL : k ∈ L.map (·.2) := List.mem_map.mpr ⟨p, pm, eqk⟩
          cases adding
          · refine wp_if_neg (by simp) ?_
            try refine wpAny_bind (wpAny_pure ?_)
            rw [sameMem]
            dsimp only
            simp only [if_true, live, rowsN_get R.rows gp]
            refine wpAny_bind (wpAny_isSame_ref_self (wpAny_bind (wpAny_pure ?_)))
            simp only [if_true]
            exact wp_if_pos (by simp [eqk]) (wpAny_pure (yes inL _))
          · exact wp_if_pos (by simp [eqk]) (wpAny_pure (yes inL _))
        · refine wp_if_neg (by simp [eqk]) ?_
          try refine wpAny_bind (wpAny_pure ?_)
          rw [sameMem]
          dsimp only
          simp only [if_true, live, rowsN_get R.rows gp]
          refine wpAny_bind (wpAny_isSame_ref_self (wpAny_bind (wpAny_pure ?_)))
          simp only [if_true]
          refine wp_if_neg (by simp [eqk]) ?_
          refine seek_key R tup hx room bound free taken yes no f (c + (q + 1)) _ rfl (by omega) (by omega) fun i0 p0 g0 ek => ?_
          obtain ⟨c', l1, l2, g2⟩ := ahead i0 p0 g0 ek
          refine ⟨c', ?_, l2, g2⟩
          rcases Nat.lt_trichotomy c' (c + q) with z | z | z
          · exact absurd ((hashed i0 p0 g0).trans (congrArg (NestedKey.hash w) ek)) (none_ (c' - c) i0 (by omega) (by rw [onj, show c + (c' - c) = c' by omega]; exact g2))
          · exfalso
            subst z
            have l0 := slot_live R.tab.ris g2
            rw [live] at l0
            injection l0 with l0
            subst l0
            rw [gp] at g0
            exact eqk ((congrArg Prod.snd (Option.some.inj g0)).trans ek)
          · omega
      by_cases led : t.led = true
      · refine wp_if_neg (by simp [led]) ?_
        try refine wpAny_bind (wpAny_pure ?_)
        exact rest
      · refine wp_if_pos (by simp [led]) ?_
        refine wpAny_bind <| unseen_key hx (fun y my => ?_) ?_
        · obtain ⟨e, me, ee⟩ := List.mem_map.mp my
          have me2 : e ∈ es.toList := by
            have m3 : e ∈ es ∧ e.1 = k.hash w := by simpa using me
            simpa using m3.1
          rw [R.rows] at me2
          obtain ⟨p2, mp2, e2⟩ := List.mem_map.mp me2
          exact ⟨p2.2, p2.1, by rw [← ee, ← e2], tup p2 mp2⟩
        · refine wp_if_neg (by decide) ?_
          try refine wpAny_bind (wpAny_pure ?_)
          exact rest
    · have asked : t.probe (fun i => (es[i]?.map (·.1)).getD 0) (k.hash w) (stand.getD (t.probeStart (k.hash w))) = some (.empty (way t.mask (k.hash w) K) none) := by
        have e2 : way t.mask (k.hash w) K = (nth t.mask (nth t.mask (pr0 t.mask (k.hash w)) c) (K - c)).j := by rw [onj, show c + (K - c) = K by omega]
        rw [from', e2]
        exact probed
      rw [asked]
      dsimp only
      refine wpAny_pure (no fun mem => ?_)
      obtain ⟨p0, m0, ek⟩ := List.mem_map.mp mem
      obtain ⟨i0, lt0, e0⟩ := List.getElem_of_mem m0
      have g0 : L[i0]? = some p0 := by rw [List.getElem?_eq_getElem lt0, e0]
      obtain ⟨c', l1, l2, g2⟩ := ahead i0 p0 g0 ek
      exact none_ (c' - c) i0 (by omega) (by rw [onj, show c + (c' - c) = c' by omega]; exact g2) ((hashed i0 p0 g0).trans (congrArg (NestedKey.hash w) ek))
theorem seek_from (R : SetNAt w s.heap a L es ep t) (tup : ∀ p ∈ L, IsN s.heap p.2 p.1) {x : Addr} {k : NestedKey} {adding : Bool} (hx : IsN s.heap k x) (room : A.units + 9 < cLine) {Q : SetFound → Shared → Prop}
    (yes : k ∈ L.map (·.2) → ∀ r, Q (.there r) s)
    (no : ∀ K, k ∉ L.map (·.2) → way t.mask (k.hash w) K ∉ t.place.toList → (∀ c, c < K → way t.mask (k.hash w) c ∈ t.place.toList) → Q (.free (way t.mask (k.hash w) K) false) s) :
    wpAny (model P w) A (setSearch a (.ref x) (k.hash w) adding) Q E s := by
  have rm := R.room
  obtain ⟨K, bound, free, taken⟩ := R.tab.first (by simp only [hashN, List.length_map]; omega) (k.hash w)
  have small : K < 100000 := by
    have : 10 * SetTable.turns t.mask ≤ 1420 := by
      unfold SetTable.turns
      rcases R.tab.mok with e | e | e <;> omega
    omega
  unfold setSearch
  refine seek_key R tup hx room bound free taken yes (fun n => no K n free taken) 100000 0 none rfl (Nat.zero_le _) (by omega) fun i p g ek => ?_
  have gh : (hashN w L)[i]? = some (k.hash w) := by rw [hashN, List.getElem?_map, g, ← ek]; rfl
  have il : i < t.place.toList.length := by
    have q1 : i < L.length := (List.getElem?_eq_some_iff.mp g).1
    have q2 : t.place.size = L.length := by rw [R.tab.sz]; simp [hashN]
    rw [Array.length_toList]
    omega
  have gj := List.getElem?_eq_getElem il
  obtain ⟨c, lt, e⟩ := R.tab.before free gh gj
  exact ⟨c, Nat.zero_le _, lt, by rw [gj, e]⟩
end
end Gx

set_option maxRecDepth 100000
set_option maxHeartbeats 4000000
namespace Gx
open PySem PySem.Spec PyProof.Rows L2
section
variable {P : Program} {w : World} {A : Around} {E : Value → Shared → Prop} {s : Shared} {a : Addr} {L : NMs} {es : Array (Int × Value)} {ep : Nat} {t : SetTable}
theorem IsN.but {h h' : Heap} {k : NestedKey} {a b : Addr} {ob : Obj} {es : Array (Int × Value)} {ep : Nat} {t : SetTable} (x : IsN h k b) (here : h.get? a = some ob) (dt : ob.data = .set es ep t) (sb : Heap.SameBut a h h') : IsN h' k b :=
  x.keep fun c o its n e d => (sb.2 c (by
    rintro rfl
    rw [here] at e
    cases e
    rw [dt] at d
    exact nomatch d)).trans e
/-- rows taken in another order -/
theorem reorder : ∀ (l : List Nat) (L : NMs) (es : Array (Int × Value)), es.toList = rowsN w L → (∀ i ∈ l, i < L.length) →
    l.filterMap (fun i => es[i]?) = rowsN w (l.filterMap fun i => L[i]?) ∧ (hashN w (l.filterMap fun i => L[i]?)) = l.map fun i => (es.map (·.1)).getD i 0
  | [], _, _, _, _ => ⟨rfl, rfl⟩
  | i :: l, L, es, e, lt => by
    have li := lt i List.mem_cons_self
    obtain ⟨q1, q2⟩ := reorder l L es e fun j m => lt j (List.mem_cons_of_mem _ m)
    have g : L[i]? = some L[i] := List.getElem?_eq_getElem li
    have ge := rowsN_get e g
    constructor
    · rw [List.filterMap_cons_some ge, List.filterMap_cons_some g, q1]
      rfl
    · rw [List.filterMap_cons_some g]
      show L[i].2.hash w :: hashN w _ = _ :: _
      rw [q2]
      have h1 : (es.map (·.1)).getD i 0 = L[i].2.hash w := by
        have h2 : (es.map (·.1))[i]? = some (L[i].2.hash w) := by rw [Array.getElem?_map, ge]; rfl
        simp [Array.getD_eq_getD_getElem?, h2]
      exact congrArg (· :: _) h1.symm
theorem all_places : ∀ (n : Nat) (L : NMs), n ≤ L.length → (List.range n).filterMap (fun i => L[i]?) = L.take n
  | 0, _, _ => rfl
  | n + 1, L, le => by
    rw [List.range_succ, List.filterMap_append, all_places n L (Nat.le_of_lt le), List.take_succ, List.getElem?_eq_getElem le, List.filterMap_cons_some (List.getElem?_eq_getElem le)]
    rfl
/-- the table is laid anew, larger -/
theorem relayN {ob : Obj} (here : s.heap.get? a = some ob) (ex : ob.ExactSet) (dt : ob.data = .set es ep t) (rows : es.toList = rowsN w L) (sz : t.place.size = es.size) (dum : t.dummies = #[]) (fl : es.size ≤ t.mask)
    (once : (L.map (·.2)).Nodup) (led : w.params.followText "set-order" = true ∨ t.led = true) (few : L.length < 64) {wanted M : Nat}
    (size : SetTable.sizeAbove wanted - 1 = M) (ok : MaskOk M) (upto : SetTable.sizeAbove wanted ≤ 128) (room : L.length * 5 < M * 3) {Q : Unit → Shared → Prop}
    (hQ : ∀ h' L' es' ep' t', Heap.SameBut a s.heap h' → SetNAt w h' a L' es' ep' t' → L'.Perm L → Q () { s with heap := h' }) : wpAny (model P w) A (setRelay a wanted) Q E s := by
  have len := rowsN_len rows
  have ft : t.fits es.size = true := by
    simp only [SetTable.fits, SetTable.fill, dum, Bool.and_eq_true, beq_iff_eq, decide_eq_true_eq]
    show t.place.size = es.size ∧ t.place.size + 0 ≤ t.mask
    omega
  obtain ⟨t2, order, laid, pm, T, em, el, _, _⟩ := relaid_ok t (hs := es.map (·.1)) (wanted := wanted) size ok (by rw [Array.size_map, len]; omega)
  rw [Array.size_map, len] at pm
  obtain ⟨r1, r3⟩ := reorder (w := w) order.toList L es rows fun i m => List.mem_range.mp (pm.mem_iff.mp m)
  have r2 : (order.toList.filterMap fun i => L[i]?).Perm L := by
    have q := pm.filterMap fun i => L[i]?
    rw [all_places L.length L (Nat.le_refl _), List.take_length] at q
    exact q
  have r1' : (order.filterMap (es[·]?)).toList = rowsN w (order.toList.filterMap fun i => L[i]?) := by first | (rw [Array.toList_filterMap]; exact r1) | simpa using r1
  rw [← r3] at T
  generalize order.toList.filterMap (fun i => L[i]?) = L2 at r1' r2 T
  have sz2 : (order.filterMap (es[·]?)).size = es.size := by rw [rowsN_len r1', r2.length_eq, len]
  rw [setRelay_eq]
  refine wpAny_bind <| wpAny_setState_of here dt ft ?_
  dsimp only
  refine wp_if_neg (by rw [sizeLine_eq]; omega) ?_
  try refine wpAny_bind (wpAny_pure ?_)
  rw [laid]
  dsimp only
  refine wpAny_bind ?_
  refine wp_if_neg (by rw [sz2]; simp) ?_
  try refine wpAny_bind (wpAny_pure ?_)
  refine wpAny_pure ?_
  dsimp only
  refine wpAny_storeSet_of here dt ?_ (by rw [sz2, len, sizeLine_eq]; omega)
  refine hQ _ L2 (order.filterMap (es[·]?)) (ep + 1) t2 (Heap.SameBut.update ..) ⟨⟨_, store_at here dt, ⟨ex.1, ex.2.1, ex.2.2⟩, rfl⟩, r1', T, (r2.map (·.2)).nodup_iff.mpr once, by rw [el]; exact led, ?_, by rw [r2.length_eq]; exact few⟩ r2
  rw [r2.length_eq, em]
  exact room
theorem addN (R : SetNAt w s.heap a L es ep t) (tup : ∀ p ∈ L, IsN s.heap p.2 p.1) {x : Addr} {k : NestedKey} (hx : IsN s.heap k x) (units : A.units + 9 < cLine) (more : L.length + 1 < 64) {Q : Bool → Shared → Prop}
    (hQ : ∀ b h' L' es' ep' t', Heap.SameBut a s.heap h' → SetNAt w h' a L' es' ep' t' → (k ∈ L.map (·.2) → L' = L) → (k ∉ L.map (·.2) → L'.Perm ((x, k) :: L)) → Q b { s with heap := h' }) :
    wpAny (model P w) A (setAddHashed a (.ref x) (k.hash w)) Q E s := by
  obtain ⟨ob, here, ex, dt⟩ := R.here
  have len := rowsN_len R.rows
  have rm := R.room
  unfold setAddHashed
  refine wpAny_holding ?_
  rw [show (100000 : Nat) = 99999 + 1 from rfl, setAddHashedIn_succ]
  refine wpAny_bind <| wpAny_setState_of here dt R.ft ?_
  dsimp only
  refine wp_if_neg (by simp [byScan, Value.scannable]) ?_
  try refine wpAny_bind (wpAny_pure ?_)
  refine wpAny_bind <| seek_from R tup hx units (fun m r => ?_) fun K m free taken => ?_
  · dsimp only
    exact wpAny_pure (hQ false s.heap L es ep t (Heap.SameBut.refl a s.heap) R (fun _ => rfl) fun z => absurd m z)
  dsimp only
  refine wpAny_bind <| wpAny_setState_of here dt R.ft ?_
  dsimp only
  obtain ⟨q1, q2, q3, q4, q5, q6, q7, q8, q9⟩ := R.tab.put free taken
  generalize t.put (way t.mask (k.hash w) K) = pt at q1 q3 q4 q5 q6 q7 q8 q9 ⊢
  obtain ⟨t1, at_⟩ := pt
  dsimp only at q1 q3 q4 q5 q6 q7 q8 q9 ⊢
  subst q1
  have rows1 : (SetTable.insertAt es (SetTable.below t.place (way t.mask (k.hash w) K)) (k.hash w, Value.ref x)).toList = rowsN w (L.take (SetTable.below t.place (way t.mask (k.hash w) K)) ++ (x, k) :: L.drop (SetTable.below t.place (way t.mask (k.hash w) K))) := by
    rw [SetTable.toList_insertAt, R.rows]
    simp [rowsN, List.map_take, List.map_drop]
  generalize SetTable.below t.place (way t.mask (k.hash w) K) = at_ at q2 q3 rows1 ⊢
  have pm := put_perm L at_ (x, k)
  have hashed : hashN w (L.take at_ ++ (x, k) :: L.drop at_) = (hashN w L).take at_ ++ k.hash w :: (hashN w L).drop at_ := by simp [hashN, List.map_take, List.map_drop]
  rw [← hashed] at q3
  have one : ((L.take at_ ++ (x, k) :: L.drop at_).map (·.2)).Nodup := (pm.map (·.2)).nodup_iff.mpr (by
    rw [List.map_cons]
    exact List.nodup_cons.mpr ⟨m, R.once⟩)
  have len1 := rowsN_len rows1
  rw [pm.length_eq, List.length_cons] at len1
  generalize SetTable.insertAt es at_ (k.hash w, Value.ref x) = es1 at rows1 len1 ⊢
  generalize L.take at_ ++ (x, k) :: L.drop at_ = L1 at pm q3 one rows1
  have lenL1 : L1.length = L.length + 1 := by rw [pm.length_eq, List.length_cons]
  have full9 : t1.fill = L.length + 1 := by rw [q9]; simp [hashN]
  -- whichever the word on its hash is
  have go : ∀ t3 : SetTable, t3.place = t1.place → t3.dummies = t1.dummies → t3.mask = t1.mask → t3.led = t1.led → t3.fill = t1.fill → t3.tooFull = t1.tooFull → TabOk t3 (hashN w L1) →
      wpAny (model P w) A (do
        storeSet a es1 t3
        if (!false && t3.tooFull) = true then setRelay a (SetTable.grown (es.size + 1))
        return true) Q E s := by
    intro t3 e1 e2 e3 e4 e5 e6 T3
    refine wpAny_bind <| wpAny_storeSet_of here dt ?_ (by rw [len1, sizeLine_eq]; omega)
    have sb : Heap.SameBut a s.heap (s.heap.update a (Obj.putSet es1 t3)) := Heap.SameBut.update ..
    have here1 := store_at (es' := es1) (t' := t3) here dt
    generalize s.heap.update a (Obj.putSet es1 t3) = h1 at sb here1 ⊢
    have led1 : w.params.followText "set-order" = true ∨ t3.led = true := by rw [e4, q5]; exact R.led
    by_cases full : t3.tooFull = true
    · first
        | (refine wpAny_bind ?_; refine wp_if_pos (by simp [full]) ?_)
        | (refine wp_if_pos (by simp [full]) ?_; refine wpAny_bind ?_)
      have much : (L.length + 1) * 5 ≥ t.mask * 3 := by
        have z := full
        rw [SetTable.tooFull, decide_eq_true_eq, e5, full9, e3, q4] at z
        exact z
      rw [len]
      have size1 : t3.place.size = es1.size := by rw [T3.sz, len1]; simp [hashN, lenL1]
      have two : (t.mask = 7 ∧ L.length = 4) ∨ (t.mask = 31 ∧ L.length = 18) := by
        rcases R.tab.mok with e | e | e <;> rw [e] at rm much
        · exact .inl ⟨e, by omega⟩
        · exact .inr ⟨e, by omega⟩
        · omega
      have next : ∀ M, SetTable.sizeAbove (SetTable.grown (L.length + 1)) - 1 = M → MaskOk M → SetTable.sizeAbove (SetTable.grown (L.length + 1)) ≤ 128 → (L.length + 1) * 5 < M * 3 →
          wpAny (model P w) A (setRelay a (SetTable.grown (L.length + 1))) (fun _ st => wpAny (model P w) A (pure true) Q E st) E { s with heap := h1 } := by
        intro M m1 m2 m3 m4
        refine relayN (s := { s with heap := h1 }) here1 ⟨ex.1, ex.2.1, ex.2.2⟩ rfl rows1 size1 T3.dm (by rw [len1, e3, q4]; rcases two with ⟨z, z2⟩ | ⟨z, z2⟩ <;> omega) one led1 (by rw [lenL1]; exact more) m1 m2 m3 (by rw [lenL1]; exact m4) ?_
        intro h2 L2 es2 ep2 t2 sb2 R2 pm2
        exact wpAny_pure (hQ true h2 L2 es2 ep2 t2 (sb.trans sb2) R2 (fun z => absurd z m) fun _ => pm2.trans pm)
      rcases two with ⟨_, z⟩ | ⟨_, z⟩
      · exact next 31 (by rw [z, size_20]) (.inr (.inl rfl)) (by rw [z, size_20]; decide) (by omega)
      · exact next 127 (by rw [z, size_76]) (.inr (.inr rfl)) (by rw [z, size_76]; decide) (by omega)
    · first
        | refine wp_if_neg (by simp [full]) ?_
        | (refine wpAny_bind ?_; refine wp_if_neg (by simp [full]) ?_; refine wpAny_pure ?_)
      refine wpAny_pure (hQ true h1 L1 es1 (ep + 1) t3 sb ⟨⟨_, here1, ⟨ex.1, ex.2.1, ex.2.2⟩, rfl⟩, rows1, T3, one, led1, ?_, by rw [lenL1]; exact more⟩ (fun z => absurd z m) fun _ => pm)
      have z := full
      rw [SetTable.tooFull, decide_eq_true_eq, e5, full9] at z
      rw [lenL1]
      omega
  by_cases pl : t1.plain = true
  · first
      | (refine wpAny_bind ?_; refine wp_if_pos pl ?_; refine sayable_key k _ 8 s hx.1 hx.2 _ _ _ fun b => ?_)
      | refine wp_if_pos pl (wpAny_bind (sayable_key k _ 8 s hx.1 hx.2 _ _ _ fun b => ?_))
    cases b
    · exact go { t1 with plain := false } rfl rfl rfl rfl rfl rfl ⟨q3.ris, q3.dm, q3.sz, q3.mok, q3.bd, q3.reach⟩
    · exact go t1 rfl rfl rfl rfl rfl rfl q3
  · first
      | (refine wpAny_bind ?_; refine wp_if_neg pl ?_; refine wpAny_pure ?_)
      | (refine wp_if_neg pl ?_; refine wpAny_bind (wpAny_pure ?_))
    exact go t1 rfl rfl rfl rfl rfl rfl q3
end
end Gx

set_option maxRecDepth 100000
set_option maxHeartbeats 4000000
namespace Gx
open PySem PySem.Spec PyProof.Rows L2
/-- what the set has of the first i keys of ks -/
structure GotN (ks : NMs) (i : Nat) (L : NMs) : Prop where
  old : ∀ p ∈ L, p ∈ ks.take i
  new : ∀ p ∈ ks.take i, p.2 ∈ L.map (·.2)
  len : L.length ≤ i
theorem GotN.more {ks L L' : NMs} {i : Nat} {x : Addr × NestedKey} (g : GotN ks i L) (e : ks[i]? = some x) (c1 : x.2 ∈ L.map (·.2) → L' = L) (c2 : x.2 ∉ L.map (·.2) → L'.Perm (x :: L)) : GotN ks (i + 1) L' := by
  have tk : ks.take (i + 1) = ks.take i ++ [x] := by rw [List.take_add_one, e]; rfl
  by_cases c : x.2 ∈ L.map (·.2)
  · rw [c1 c]
    refine ⟨fun p m => by rw [tk]; exact List.mem_append_left _ (g.old p m), fun p m => ?_, Nat.le_succ_of_le g.len⟩
    rw [tk, List.mem_append, List.mem_singleton] at m
    rcases m with m | rfl
    · exact g.new p m
    · exact c
  · have pm := c2 c
    refine ⟨fun p m => ?_, fun p m => ?_, by rw [pm.length_eq, List.length_cons]; exact Nat.succ_le_succ g.len⟩
    · rw [tk, List.mem_append, List.mem_singleton]
      rcases List.mem_cons.mp (pm.mem_iff.mp m) with z | z
      · exact .inr z
      · exact .inl (g.old p z)
    · rw [(pm.map (·.2)).mem_iff, List.map_cons, List.mem_cons]
      rw [tk, List.mem_append, List.mem_singleton] at m
      rcases m with m | rfl
      · exact .inr (g.new p m)
      · exact .inl rfl
section
variable {P : Program} {w : World} {A : Around} {E : Value → Shared → Prop} {s : Shared}
theorem SetNAt.at {h h' : Heap} {a : Addr} {L : NMs} {es : Array (Int × Value)} {ep : Nat} {t : SetTable} (R : SetNAt w h a L es ep t) (k : ∀ o, h.get? a = some o → h'.get? a = some o) : SetNAt w h' a L es ep t := by
  obtain ⟨ob, here, more⟩ := R.here
  exact ⟨⟨ob, k ob here, more⟩, R.rows, R.tab, R.once, R.led, R.room, R.few⟩
theorem setN_fresh {h : Heap} {a : Addr} (e : h.get? a = some { cls := .type "set", dict := none, data := .set #[] 0 (.fresh 0 0 (!w.params.followText "set-order")) }) : SetNAt w h a [] #[] 0 (.fresh 0 0 (!w.params.followText "set-order")) where
  here := ⟨_, e, ⟨rfl, rfl, rfl⟩, rfl⟩
  rows := rfl
  tab := ⟨List.Pairwise.nil, rfl, rfl, .inl rfl, (fun x m => nomatch m), (fun i h j g => by simp [hashN] at g)⟩
  once := List.nodup_nil
  led := by
    show _ ∨ (!w.params.followText "set-order") = true
    cases w.params.followText "set-order"
    · exact .inr rfl
    · exact .inl rfl
  room := show 0 * 5 < 7 * 3 by decide
  few := show 0 < 64 by decide
/-- all keys of an iterator put into the set at S -/
theorem loopN {I : Addr} {fp wr : List Addr} {G : Array GenState → Array GenState → Prop} {n : Nat} {Pv : Nat → Value → Prop} {St : Nat → Shared → Prop} {R : Result → Shared → Prop}
    (W : WalksS P w A.in1 I fp wr G n Pv St) (S : Addr) (off : S ∉ fp) (ks : NMs) (len : n = ks.length) (few : ks.length < 64) (val : ∀ i v, Pv i v → ∃ p, ks[i]? = some p ∧ v = .ref p.1)
    (h0 : Heap) (kept : ∀ p ∈ ks, IsN h0 p.2 p.1) (noS : h0.get? S = none) (noW : ∀ b ∈ wr, h0.get? b = none) (units : A.in1.units + 9 < cLine) :
    ∀ (k i : Nat) (s : Shared), n - i = k → i ≤ n → St i s → (∀ b o, h0.get? b = some o → s.heap.get? b = some o) → (∃ L es ep t, SetNAt w s.heap S L es ep t ∧ GotN ks i L) →
      (∀ s' L es ep t, Moved (S :: wr) G s s' → SetNAt w s'.heap S L es ep t → GotN ks n L → (∀ b o, h0.get? b = some o → s'.heap.get? b = some o) → R (.ok (.ret .none)) s') →
      codeAny (model P w) A (.builtin "set.update.loop" ⟨[.ref S, .ref I], []⟩) R s := by
  have offW : S ∉ wr := fun z => off (W.sub _ z)
  have sub : ∀ b ∈ wr, b ∈ S :: wr := fun b m => List.mem_cons_of_mem _ m
  have goes : ∀ {s s' : Shared}, Moved wr G s s' → (∀ b o, h0.get? b = some o → s.heap.get? b = some o) → ∀ b o, h0.get? b = some o → s'.heap.get? b = some o := fun mv kp b o e =>
    mv.heap b o (fun m => by rw [noW b m] at e; cases e) (kp b o e)
  have still : ∀ {s : Shared}, (∀ b o, h0.get? b = some o → s.heap.get? b = some o) → ∀ p ∈ ks, IsN s.heap p.2 p.1 := fun kp p m => (kept p m).keep fun c o _ _ e _ => kp c o e
  intro k
  induction k with
  | zero =>
    intro i s ek le st kp got end_
    obtain ⟨L, es, ep, t, hS, g⟩ := got
    obtain rfl : i = n := by omega
    refine codeAny_builtin F.entry_set_update_loop ?_
    rw [Around.under_plainId F.plain_set_update_loop _]
    show wpAny _ A.in1 (pyNext (.ref I) >>= _) _ _ s
    refine wpAny_bind (W.done s _ _ st fun s' mv => ?_)
    show wpAny _ A.in1 (ret Value.none) _ _ s'
    exact wpAny_pure (end_ s' L es ep t (mv.mono sub) (hS.at fun o e => mv.heap S o offW e) g (goes mv kp))
  | succ k ih =>
    intro i s ek le st kp got end_
    obtain ⟨L, es, ep, t, hS, g⟩ := got
    have lt : i < n := by omega
    refine codeAny_builtin F.entry_set_update_loop ?_
    rw [Around.under_plainId F.plain_set_update_loop _]
    show wpAny _ A.in1 (pyNext (.ref I) >>= _) _ _ s
    refine wpAny_bind (W.item i s _ _ lt st fun v s' pv st' mv => ?_)
    obtain ⟨p, gp, rfl⟩ := val i v pv
    have kp1 := goes mv kp
    have sub1 : ∀ q ∈ L, q ∈ ks := fun q m => List.mem_of_mem_take (g.old q m)
    have hS1 : SetNAt w s'.heap S L es ep t := hS.at fun o e => mv.heap S o offW e
    have hx := still kp1 p (List.mem_of_getElem? gp)
    show wpAny _ A.in1 (holding [Value.ref p.1] (setAdd S (.ref p.1)) >>= _) _ _ s'
    refine wpAny_bind (wpAny_holding ?_)
    unfold setAdd
    refine wpAny_holding ?_
    refine wpAny_bind <| pyHash_key p.2 _ _ _ _ hx.1 (by have := hx.2; omega) ?_
    refine addN (s := { s' with toks := s'.toks + p.2.draws }) hS1 (fun q m => still kp1 q (sub1 q m)) hx units (by have := g.len; omega) fun b h' L2 es2 ep2 t2 sb hS2 c1 c2 => ?_
    have kp2 : ∀ b o, h0.get? b = some o → h'.get? b = some o := fun b o e => (sb.2 b (fun z => by rw [z, noS] at e; cases e)).trans (kp1 b o e)
    refine wpAny_pure ⟨plainId_quiet F.plain_set_update_loop _, ih (i + 1) _ (by omega) lt (W.frame _ s' _ _ st' (Nat.le_add_right _ _) fun b m o e => ?_) kp2 ⟨L2, es2, ep2, t2, hS2, g.more gp c1 c2⟩ fun s'' L3 es3 ep3 t3 mv2 hS3 g3 kp3 => ?_⟩
    · rw [sb.2 b (fun z : b = S => off (z ▸ m))]
      exact e
    · refine end_ s'' L3 es3 ep3 t3 (Moved.trans W.gtrans ((mv.mono sub).then_heap (Nat.le_add_right _ _) fun b o m e => ?_) mv2) hS3 g3 kp3
      rw [sb.2 b (fun z : b = S => m (by rw [z]; exact List.mem_cons_self))]
      exact e
set_option maxHeartbeats 6400000 in
/-- set(list of keys) -/
theorem call_setN {l : Addr} {items : Array Value} (ks : NMs) {Q : Value → Shared → Prop} (hh : A.handled = none) (hl : s.heap.IsList l items) (its : items.toList = ks.map fun p => Value.ref p.1)
    (kept : ∀ p ∈ ks, IsN s.heap p.2 p.1) (few : ks.length < 64) (units : A.units + 12 < cLine)
    (h : ∀ (h' : Heap) (tk : Nat) L es ep t, SetNAt w h' s.heap.objs.size L es ep t → GotN ks ks.length L → (∀ b o, s.heap.get? b = some o → h'.get? b = some o) → Q (.ref s.heap.objs.size) { s with heap := h', toks := tk }) :
    wpAny (model P w) A (call (.type "set") [.ref l]) Q E s := by
  have size : items.size = ks.length := by simpa using congrArg List.length its
  obtain ⟨c, tl, hmro⟩ := PySem.F.called_set.mro
  have hmade := PySem.F.called_set.made
  have hsub := PySem.F.called_set.sub
  refine wpAny_call (codeAny_of_tree ?_)
  show wpAny _ _ (callAny (.type "set") _) _ _ _
  refine wpAny_pure ⟨Code.quiet_builtin _ (by decide +kernel), codeAny_builtin PySem.F.entry_type_call ?_⟩
  rw [Around.under_plain (weight_type_call_type "set" [.ref l] []) rfl]
  have h1 := PySem.F.called_set.notType
  have h2 := PySem.F.called_set.canCreate
  have hct := PySem.F.typeCall_set_1 (.ref l)
  repeat (any_goals (first | assumption | wp_step))
  refine codeAny_mono (code_set_led1 (.ref l) (E := E) (Q₁ := fun obj s₁ => obj = .ref s.heap.objs.size ∧ s₁ = { s with heap := s.heap.push { cls := .type "set", dict := none, data := .set #[] 0 (.fresh 0 0 (!w.params.followText "set-order")) } }) ⟨rfl, rfl⟩) fun r s₁ hr => ?_
  have hS : (s.heap.push { cls := .type "set", dict := none, data := .set #[] 0 (.fresh 0 0 (!w.params.followText "set-order")) }).get? s.heap.objs.size = some { cls := .type "set", dict := none, data := .set #[] 0 (.fresh 0 0 (!w.params.followText "set-order")) } := Heap.get?_push_size _ rfl
  cases r with
  | error e => exact hr
  | ok fl =>
    cases fl with
    | ret obj =>
      obtain ⟨rfl, rfl⟩ := hr
      have hT : Shared.TypeIs { s with heap := s.heap.push ({ cls := .type "set", dict := none, data := .set #[] 0 (.fresh 0 0 (!w.params.followText "set-order")) } : Obj) } (.ref s.heap.objs.size) "set" := ⟨_, hS, rfl⟩
      have hli := PySem.F.called_set.init.lookup
      have hbi := PySem.F.called_set.init.bind (.ref s.heap.objs.size)
      repeat (any_goals (first | assumption | wp_step))
      refine codeAny_mono (codeAny_call_builtin (R := wants (fun r s₂ => r = .none ∧ ∃ h' tk L es ep t, s₂ = { s with heap := h', toks := tk } ∧ SetNAt w h' s.heap.objs.size L es ep t ∧ GotN ks ks.length L ∧
          (∀ b o, s.heap.get? b = some o → h'.get? b = some o)) E) PySem.F.called_set.init.plain PySem.F.entry_set_init (check_set_init_1 hT ?_)) fun r₂ s₂ hr₂ => ?_
      · obtain ⟨ol, hol, hcl, nl, hdl⟩ := hl
        obtain ⟨ocls, odict, odata, oslots⟩ := ol
        simp only at hcl hdl
        subst hcl; subst hdl
        have hol' : (s.heap.push ({ cls := .type "set", dict := none, data := .set #[] 0 (.fresh 0 0 (!w.params.followText "set-order")) } : Obj)).get? l = some { cls := .type "list", dict := odict, data := .seq items nl, slots := oslots } := Heap.get?_push_of_some _ hol
        have hsls := PySem.F.sub_list_set
        have hslf := PySem.F.sub_list_frozenset
        have hne : (Value.type "list" == Value.type "dict") = false := by decide
        have hl1 : (s.heap.push ({ cls := .type "set", dict := none, data := .set #[] 0 (.fresh 0 0 (!w.params.followText "set-order")) } : Obj)).IsList l items := ⟨_, hol', rfl, nl, rfl⟩
        unfold Builtin.«set.__init__» noKeywords Builtin.Frozenset.updateFrom
        generalize hPI : pyIter = PI
        wp_walk
        subst hPI
        refine wpAny_pyIter_list hl1 ?_
        refine wpAny_bind (wpAny_runValue ?_)
        have hlS : l < s.heap.objs.size := Heap.lt_size hol
        have hh3 : A.in1.in1.in1.handled = none := by simp [hh]
        have szp : (s.heap.push ({ cls := .type "set", dict := none, data := .set #[] 0 (.fresh 0 0 (!w.params.followText "set-order")) } : Obj)).objs.size = s.heap.objs.size + 1 := Heap.size_push _ _
        have hneI : l ≠ (s.heap.push ({ cls := .type "set", dict := none, data := .set #[] 0 (.fresh 0 0 (!w.params.followText "set-order")) } : Obj)).objs.size := by rw [szp]; exact Nat.ne_of_lt (Nat.lt_succ_of_lt hlS)
        have offS : s.heap.objs.size ∉ [(s.heap.push ({ cls := .type "set", dict := none, data := .set #[] 0 (.fresh 0 0 (!w.params.followText "set-order")) } : Obj)).objs.size, l] := by
          rw [szp]
          simp only [List.mem_cons, List.not_mem_nil, or_false, not_or]
          exact ⟨Nat.ne_of_lt (Nat.lt_succ_self _), Nat.ne_of_gt hlS⟩
        have val : ∀ (i : Nat) (v : Value), items[i]? = some v → ∃ p, ks[i]? = some p ∧ v = .ref p.1 := fun i v e => by
          rw [← Array.getElem?_toList, its, List.getElem?_map] at e
          obtain ⟨p, e1, e2⟩ := Option.map_eq_some_iff.mp e
          exact ⟨p, e1, e2.symm⟩
        have none_of : ∀ b, s.heap.objs.size ≤ b → s.heap.get? b = none := fun b le => by
          cases e : s.heap.get? b with
          | none => rfl
          | some o => exact absurd (Heap.lt_size e) (Nat.not_lt_of_le le)
        refine loopN ((Walks.list hh3 _ l hneI items).toS) s.heap.objs.size offS ks size few val s.heap kept (none_of _ (Nat.le_refl _)) (fun b m => none_of b (by
            rw [List.mem_singleton.mp m, szp]
            exact Nat.le_succ _)) (by simp only [Around.in1_units]; omega) (items.size - 0) 0 _ (by omega) (Nat.zero_le _) ⟨⟨_, Heap.get?_push_size _ rfl, rfl, rfl⟩, (hl1.push _)⟩
          (fun b o e => Heap.get?_push_of_some _ (Heap.get?_push_of_some _ e)) ⟨[], #[], 0, _, setN_fresh (Heap.get?_push_of_some _ hS), ⟨(fun p m => nomatch m), (fun p m => by simp at m), Nat.le_refl _⟩⟩ ?hR
        case hR =>
          intro s' L es ep t mv hS' g' kp
          obtain ⟨h', g2, d', tk', os'⟩ := s'
          obtain rfl : g2 = s.gens := mv.gens
          obtain rfl : d' = s.drawn := mv.drawn
          obtain rfl : os' = s.os := mv.os
          show wpAny _ _ _ _ _ _
          refine wpAny_pure ?_
          show wpAny _ _ (ret Value.none) _ _ _
          rw [size] at g'
          exact wpAny_pure ⟨rfl, h', tk', L, es, ep, t, rfl, hS', g', kp⟩
      · cases r₂ with
        | error e => exact hr₂
        | ok fl₂ =>
          cases fl₂ with
          | ret r =>
            obtain ⟨rfl, h', tk, L, es, ep, t, rfl, hS', g', hk'⟩ := hr₂
            repeat (any_goals (first | assumption | wp_step))
            exact h _ _ _ _ _ _ hS' g' hk'
          | _ => exact hr₂.elim
    | _ => exact hr.elim
end
end Gx

set_option maxRecDepth 100000
set_option maxHeartbeats 4000000
namespace Gx
open PySem PySem.W PySem.Calls PyProof.Rows PySem.SeqAt
/-! ### lists of tuples, also empty ones, sorted -/
section
variable {prog : Program} {w : World} {A : Around} {E : Value → Shared → Prop} {s : Shared}
theorem call_tup_lt {Q : Value → Shared → Prop} {l b : Addr} {is js : Array Value} {e r : Nat → Bool} (hl : s.heap.IsTuple l is) (hb : s.heap.IsTuple b js)
    (he : ∀ j (h1 : j < is.size) (h2 : j < js.size), EqAt A.in1 s is[j] js[j] (e j)) (hr : ∀ j (h1 : j < is.size) (h2 : j < js.size), e j = false → RcLt A.in1 s is[j] js[j] (r j))
    (q : Q (.bool (firstLt e r (decide (is.size < js.size)) (List.range (min is.size js.size)))) s) :
    wpAny (model prog w) A (call (.builtin "tuple.__lt__") [.ref l, .ref b]) Q E s := by
  obtain ⟨⟨c1, d1, x1, z1⟩, at1, e1, n1, y1⟩ := hl
  obtain ⟨⟨c2, d2, x2, z2⟩, at2, e2, n2, y2⟩ := hb
  dsimp only at e1 y1 e2 y2
  subst e1 y1 e2 y2
  exact call_meets PySem.F.slot_tuple_lt ⟨_, at1, rfl⟩ PySem.F.entry_tuple_lt (PySem.F.args_tuple_lt_2 _ _) (tuple_ltAt l b is js n1 n2 d1 d2 z1 z2 e r) ⟨at1, at2, he, hr, q⟩
theorem oneLt_tup {f : Bool} {xs ys : List PyData} {a b : Value} {as bs : List Addr} {Q : Bool → Shared → Prop} (ra : Reads s.heap a (.tuple xs) as) (rb : Reads s.heap b (.tuple ys) bs) (al : alikeAll xs ys = true)
    (hu : A.units + min (PyData.tuple xs).depth (PyData.tuple ys).depth < cLine) (q : Q (dataLt (.tuple xs) (.tuple ys)) s) : wpAny (model prog w) A (oneLt' f a b) Q E s := by
  cases f with
  | false => exact oneLt_alike (fun e => nomatch e) ra rb (by simpa [alike] using al) (fun e => nomatch e) hu q
  | true =>
    cases ra with
    | @tuple l o vs n _ as₁ h1 h2 h3 h4 =>
      cases rb with
      | @tuple l' o' vs' n' _ bs₁ k1 k2 k3 k4 =>
        have n1 : vs.size = xs.length := by simpa using ReadsAll.length _ _ _ h4
        have n2 : vs'.size = ys.length := by simpa using ReadsAll.length _ _ _ k4
        rw [dataLt_tuple, ← firstLt_toks xs ys al, ← n1, ← n2] at q
        rw [oneLt'_eq]
        simp only [if_true]
        refine wpAny_bind <| wpAny_cRoomFor (room_here hu) ?_
        refine wpAny_bind <| wpAny_callSpecialIfBound?_slot (T := "tuple") ⟨_, h1, h2⟩ PySem.F.slot_tuple_lt <| call_tup_lt (e := pairEq xs ys) (r := fun j => dataLt (xs.getD j .none) (ys.getD j .none)) ⟨_, h1, h2, _, h3⟩ ⟨_, k1, k2, _, k3⟩ (fun j j1 j2 => ?_) (fun j j1 j2 hj => ?_) ?_
        · have z := eqAt_alikeAll xs ys A.in1 s vs.toList vs'.toList _ _ h4 k4 al (room_in hu) j (by simpa using j1) (by simpa using j2)
          simpa using z
        · have z := rcLt_alikeAll xs ys A.in1 s vs.toList vs'.toList _ _ h4 k4 al (room_in hu) j (by simpa using j1) (by simpa using j2) hj
          simpa using z
        · exact wpAny_truthy_bool q
/-- the first item of a tuple, if any -/
theorem firsts_tups {M : Model} : ∀ (vs : List Value) (ds : List PyData) {Q : List (Option Value) → Shared → Prop}, EachIs (fun v d => ∃ as, Reads s.heap v d as) vs ds → (∀ d ∈ ds, ∃ xs, d = .tuple xs) →
    (∀ fs : List (Option Value), EachIs (fun f d => f.isSome = true ↔ d ≠ PyData.tuple []) fs ds → Q fs s) → wpAny M A (vs.mapM firstOfTuple') Q E s
  | _, _, Q, .nil, _, q => by rw [List.mapM_nil]; exact wpAny_pure (q [] .nil)
  | _, _, Q, .cons (b := d) (as := vs) (bs := ds) ⟨as, r⟩ t, tup, q => by
    obtain ⟨xs, rfl⟩ := tup d List.mem_cons_self
    rw [List.mapM_cons]
    refine wpAny_bind ?_
    cases r with
    | @tuple a o its n _ _ ho hc hd hr =>
      rw [kas_first_eq]
      refine wpAny_bind <| Looks.here (show Looks M s.heap (typeOf (.ref a)) o.cls from (Looks.ld ho).andThen .now) ?_
      rw [hc, if_neg (by first | decide | simp)]
      refine wpAny_bind <| listItems_at ho hd <| wpAny_pure ?_
      refine wpAny_bind <| firsts_tups vs ds t (fun d m => tup d (List.mem_cons_of_mem _ m)) fun fs h => wpAny_pure (q _ (.cons ?_ h))
      have len : its.size = xs.length := by simpa using ReadsAll.length _ _ _ hr
      cases xs with
      | nil =>
        have : its[0]? = none := Array.getElem?_eq_none (by simp [len])
        simp [this]
      | cons x xs =>
        have lt : 0 < its.size := by simp [len]
        simp [Array.getElem?_eq_getElem lt]
theorem type_tups {M : Model} {v : Value} {xs : List PyData} {as : List Addr} (r : Reads s.heap v (.tuple xs) as) : Looks M s.heap (typeOf v) (.type "tuple") := looks_reads r
theorem each_idx {α β : Type} {R : α → β → Prop} : ∀ {as : List α} {bs : List β}, EachIs R as bs → (∃ b ∈ bs, ∀ a, R a b → False) → False
  | _, _, .nil, ⟨b, m, _⟩ => nomatch m
  | _, _, .cons h t, ⟨b, m, n⟩ => by
    rcases List.mem_cons.mp m with rfl | m
    · exact n _ h
    · exact each_idx t ⟨b, m, n⟩
theorem all_some {fs : List (Option Value)} {ds : List PyData} (h : EachIs (fun f d => f.isSome = true ↔ d ≠ PyData.tuple []) fs ds) (e : PyData.tuple [] ∈ ds) : ¬ fs.toArray.all (·.isSome) = true := by
  intro c
  rw [List.all_toArray, List.all_eq_true] at c
  have all : ∀ {fs : List (Option Value)} {ds : List PyData}, EachIs (fun f d => f.isSome = true ↔ d ≠ PyData.tuple []) fs ds → (∀ f ∈ fs, f.isSome = true) → PyData.tuple [] ∈ ds → False := by
    intro fs ds h
    induction h with
    | nil => intro _ m; exact nomatch m
    | @cons f d fs ds h t ih =>
      intro c m
      rcases List.mem_cons.mp m with e | m
      · exact h.mp (c f List.mem_cons_self) e.symm
      · exact ih (fun g m => c g (List.mem_cons_of_mem _ m)) m
  exact all h c e
/-- values that read as tuples, whichever, can be sorted -/
theorem sortsTups {vs : List Value} {ds : List PyData} (e : EachIs (fun v d => ∃ as, Reads s.heap v d as) vs ds) (al : AllAlike ds) (tup : ∀ d ∈ ds, ∃ xs, d = PyData.tuple xs) (hu : ∀ d, d ∈ ds → A.units + d.depth < cLine) : SortsAt prog w A s (dataKind s.heap ds) vs := by
  by_cases some : PyData.tuple [] ∈ ds
  · have room : ∀ {d d' : PyData}, d ∈ ds → A.units + min d.depth d'.depth < cLine := fun {d d'} m => Nat.lt_of_le_of_lt (Nat.add_le_add_left (Nat.min_le_left _ _) _) (hu d m)
    have lt : ∀ f : Bool, ∀ (E : Value → Shared → Prop) (x y : Value) (a b : (dataKind s.heap ds).α) {Q : Bool → Shared → Prop}, (dataKind s.heap ds).keyOf x = Option.some a → (dataKind s.heap ds).keyOf y = Option.some b → Q ((dataKind s.heap ds).blt a b) s → wpAny (model prog w) A (oneLt' f x y) Q E s := by
      intro f E x y a b Q ha hb q
      obtain ⟨d, as, m, ra, rfl⟩ := dataKind_inv ha
      obtain ⟨d', as', m', rb, rfl⟩ := dataKind_inv hb
      have dd := al d m d' m'
      have rm := room (d' := d') m
      obtain ⟨xs, rfl⟩ := tup d m
      obtain ⟨ys, rfl⟩ := tup d' m'
      exact oneLt_tup ra rb (by simpa [alike] using dd) rm q
    have one : ∃ f : Bool, (2 ≤ vs.length → ∀ (E : Value → Shared → Prop) {Q : SortKind → Shared → Prop}, Q (if f = true then oneType' else general') s → wpAny (model prog w) A (keyKind' vs.toArray) Q E s) := by
      match vs, ds, e with
      | _, _, .nil => exact nomatch some
      | v :: vs, d :: ds, .cons h t =>
        by_cases first : d = .tuple []
        · refine ⟨true, fun _ E Q q => ?_⟩
          rw [if_pos rfl] at q
          rw [kat_kind_eq, List.mapM_toArray, map_eq_pure_bind]
          refine wpAny_bind <| wpAny_bind <| firsts_tups (v :: vs) (d :: ds) (.cons h t) tup fun fs hfs => wpAny_pure ?_
          rw [if_neg (all_some hfs some)]
          cases hfs with
          | @cons f _ fs _ hf _ =>
            have nf : f = none := by
              cases f with
              | none => rfl
              | some x => exact absurd first (hf.mp rfl)
            subst nf
            rw [if_neg (by simp)]
            rw [oneTypeOnly'_eq, List.mapM_toArray, map_eq_pure_bind]
            refine wpAny_bind <| wpAny_bind <| wpAny_bind <| kas_mapM (r := Value.type "tuple") _ (fun u m Q' q' => ?_) (wpAny_pure ?_)
            · obtain ⟨d', m', as, r⟩ := (EachIs.cons h t).left u m
              obtain ⟨xs, rfl⟩ := tup d' m'
              exact (type_tups r).here q'
            · have every : ((List.map (fun _ => Value.type "tuple") (v :: vs)).toArray.all fun x => x == Value.type "tuple") = true := by
                simp only [List.all_toArray, List.all_map, List.all_eq_true]
                intro _ _
                rfl
              have zero : (List.map (fun _ => Value.type "tuple") (v :: vs)).toArray[0]? = Option.some (Value.type "tuple") := by simp
              rw [zero]
              simp only [every, if_true]
              exact wpAny_pure (wpAny_pure q)
        · refine ⟨false, fun _ E Q q => ?_⟩
          rw [if_neg (by decide)] at q
          rw [kat_kind_eq, List.mapM_toArray, map_eq_pure_bind]
          refine wpAny_bind <| wpAny_bind <| firsts_tups (v :: vs) (d :: ds) (.cons h t) tup fun fs hfs => wpAny_pure ?_
          rw [if_neg (all_some hfs some)]
          cases hfs with
          | @cons f _ fs _ hf _ =>
            have z := hf.mpr first
            cases f with
            | none => exact nomatch z
            | some x =>
              rw [if_pos (by simp)]
              exact wpAny_pure q
    refine ⟨fun v m => ?_, ?_⟩
    · obtain ⟨d, dm, as, r⟩ := e.left v m
      exact ⟨_, dataKind_some al dm r⟩
    · obtain ⟨f, kind⟩ := one
      refine ⟨if f = true then oneType' else general', ?_, kind⟩
      intro E x y a b Q ha hb q
      cases f with
      | true => exact lt true E x y a b ha hb q
      | false => exact lt false E x y a b ha hb q
  · refine SortsAt.data e al (.inl fun d m => ?_) hu
    obtain ⟨xs, rfl⟩ := tup d m
    cases xs with
    | nil => exact absurd m some
    | cons x xs => exact ⟨x, xs, rfl⟩
end
end Gx

set_option maxRecDepth 100000
set_option maxHeartbeats 4000000
namespace Kl
open PySem PySem.Spec PyProof.Rows L2 Gx Mx
/-! ### sets of tuples over the hand layer: set(list), sorted(set) -/
def SetNp (w : World) (a : Addr) (L : NMs) (h : Heap) : Prop := ∃ es ep t, SetNAt w h a L es ep t
/-- the set with the members L stands at a -/
def SetNO (w : World) (a : Addr) (L : NMs) : HO := .ext (SetNp w a L)
theorem setNO_ok {P : Program} {w : World} {H : Hp} {h : Heap} {a : Addr} {L : NMs} (R : SetNp w a L h) : ObjOk P w H h a (SetNO w a L) := by
  obtain ⟨es, ep, t, r⟩ := id R
  obtain ⟨ob, here, _⟩ := r.here
  refine ⟨R, ⟨ob, here⟩, fun h1 h2 p k => ?_⟩
  obtain ⟨es, ep, t, r⟩ := p
  exact ⟨es, ep, t, r.at k⟩
theorem back_of {α β : Type} {f : α → β} {M : List α} : ∀ {L0 : List β}, (∀ p ∈ L0, p ∈ M.map f) → ∃ L : List α, L0 = L.map f ∧ ∀ p ∈ L, p ∈ M
  | [], _ => ⟨[], rfl, fun p m => nomatch m⟩
  | x :: L0, h => by
    obtain ⟨y, ym, e⟩ := List.mem_map.mp (h x List.mem_cons_self)
    obtain ⟨L, e2, h2⟩ := back_of fun p m => h p (List.mem_cons_of_mem _ m)
    refine ⟨y :: L, by rw [List.map_cons, e, e2], fun p m => ?_⟩
    rcases List.mem_cons.mp m with rfl | m
    · exact ym
    · exact h2 p m
theorem perm_back {α β : Type} {f : α → β} {ys zs : List β} (h : ys.Perm zs) : ∀ {L : List α}, zs = L.map f → ∃ L' : List α, L'.Perm L ∧ ys = L'.map f := by
  induction h with
  | nil =>
    intro L e
    exact ⟨L, .refl _, e⟩
  | cons x _ ih =>
    intro L e
    match L, e with
    | a :: L, e =>
      rw [List.map_cons] at e
      obtain ⟨rfl, e2⟩ := List.cons.inj e
      obtain ⟨L', p, rfl⟩ := ih e2
      exact ⟨a :: L', p.cons a, rfl⟩
  | swap x y l =>
    intro L e
    match L, e with
    | a :: b :: L, e =>
      rw [List.map_cons, List.map_cons] at e
      obtain ⟨rfl, e2⟩ := List.cons.inj e
      obtain ⟨rfl, rfl⟩ := List.cons.inj e2
      exact ⟨b :: a :: L, .swap .., rfl⟩
  | trans _ _ ih1 ih2 =>
    intro L e
    obtain ⟨L1, p1, rfl⟩ := ih2 e
    obtain ⟨L2, p2, rfl⟩ := ih1 rfl
    exact ⟨L2, p2.trans p1, rfl⟩
/-- keys that are data and have an order -/
structure SrtK (κ : Type) (key : κ → NestedKey) (enc : κ → PyData) (lt : κ → κ → Bool) : Prop where
  tup : ∀ p, ∃ xs, enc p = .tuple xs
  alike : ∀ p q, PySem.W.alike (enc p) (enc q) = true
  lts : ∀ p q, PySem.W.dataLt (enc p) (enc q) = lt p q
  asym : ∀ {p q}, lt p q = true → lt q p = false
  le : ∀ {p q r}, lt q p = false → lt r q = false → lt r p = false
  depth : ∀ p, (enc p).depth ≤ 8
  dp : ∀ {K : PySem.W.Frag} {H : Hp} {a : Addr} {p : κ}, KeyA K H a (key p) → Dp K H (.ref a) (enc p)
def keyT (xs : List Str) : NestedKey := .tup (xs.map .text)
theorem keyT_at {K : PySem.W.Frag} {H : Hp} {a : Addr} {xs : List Str} : KeyA K H a (keyT xs) ↔ SqT K H a (xs.map V.str) := by
  constructor
  · rintro ⟨h, _⟩
    unfold keyT at h
    cases h with
    | tup h1 h2 =>
      rw [keyT_inv h2] at h1
      exact h1
  · intro h
    refine ⟨.tup h (keyT_all xs), ?_⟩
    unfold keyT
    rw [NestedKey.depth, depth_keyT]
    omega
theorem keyT_inj {xs ys : List Str} (e : keyT xs = keyT ys) : xs = ys := by
  unfold keyT at e
  injection e with e
  exact texts_injK e
def encT (xs : List Str) : PyData := .tuple (tD xs)
theorem srtT : SrtK (List Str) keyT encT ltT where
  tup := fun p => ⟨_, rfl⟩
  alike := fun p q => by
    unfold encT
    simp only [PySem.W.alike]
    exact alike_texts _ _
  lts := fun p q => lt_texts p q
  asym := ltT_asym
  le := fun h1 h2 => leT_trans h1 h2
  depth := fun p => by
    have := depth_texts p
    unfold encT
    simp only [PyData.depth]
    omega
  dp := fun h => .tup (keyT_at.mp h) (dp_texts _)
theorem srtKW : SrtK KW keyK encK ltK where
  tup := fun p => ⟨_, rfl⟩
  alike := alike_keys
  lts := lt_keys
  asym := ltK_asym
  le := fun h1 h2 => leK_trans h1 h2
  depth := fun p => by
    have := depth_texts p.2
    unfold encK
    simp only [PyData.depth, PyData.depthAll]
    omega
  dp := key_dp
abbrev mem1 {κ : Type} (key : κ → NestedKey) (L : List (Addr × κ)) : NMs := L.map fun q => (q.1, key q.2)
section
variable {X : Cx} {w : World} {K : PySem.W.Frag} {κ : Type} {key : κ → NestedKey} {enc : κ → PyData} {lt : κ → κ → Bool}
theorem refs_back : ∀ {L : List (Addr × κ)} {us : List Value}, Vals (L.map fun p => V.ref p.1) us → us = L.map fun p => Value.ref p.1
  | [], _, .nil => rfl
  | p :: L, _, .cons r t => by
    cases r
    rw [refs_back t]
    rfl
theorem refs_vals : ∀ {L : List (Addr × κ)} {us : List Value}, PySem.W.EachIs (fun v (b : Addr × κ) => v = Value.ref b.1) us L → Vals (L.map fun p => V.ref p.1) us
  | [], _, .nil => .nil
  | _ :: _, _, .cons h t => .cons h (refs_vals t)
theorem refs_each : ∀ (L : List (Addr × κ)), PySem.W.EachIs (fun v (b : Addr × κ) => v = Value.ref b.1) (L.map fun p => Value.ref p.1) L
  | [] => .nil
  | _ :: L => .cons rfl (refs_each L)
/-- set(xs), xs a list of keys -/
def rSetN (key : κ → NestedKey) (K : PySem.W.Frag) (w : World) : List V → Hp → VK → Prop := fun vs H Q => ∃ (l : Addr) (M : List (Addr × κ)), vs = [V.ref l] ∧ SqL K H l (M.map fun p => V.ref p.1) ∧ (∀ p ∈ M, KeyA K H p.1 (key p.2)) ∧ M.length < 64 ∧
  ∀ (a : Addr) (L : List (Addr × κ)), H a = none → (∀ p ∈ L, p ∈ M) → (∀ p ∈ M, key p.2 ∈ L.map fun q => key q.2) → (L.map fun q => key q.2).Nodup → Q (.ref a) (upd H a (SetNO w a (mem1 key L)))
theorem cr_setN (hx : X.w = w ∧ X.K = K) (hc : X.calm = true) (hu : X.A.units + 64 < cLine) : CallR X (.type "set") (rSetN key K w) := by
  obtain ⟨rfl, rfl⟩ := hx
  intro pins s σ H vs us Q I r h
  obtain ⟨l, M, rfl, hl, hk, few, q⟩ := h
  rw [Vals.ref1 r]
  obtain ⟨its, rv, pl, hz⟩ := I.list hl
  have none' : H s.heap.objs.size = none := I.hok.fresh (Nat.le_refl _)
  have eits := refs_back rv
  refine call_setN (P := X.prog) (w := X.w) (mem1 key M) (I.ok.hd hc) pl.isList (by rw [eits]; simp [mem1]) (fun p m => ?_) (by simpa [mem1] using few) (by omega) fun h' tk L0 es ep t R g k => ?_
  · obtain ⟨q0, m0, rfl⟩ := List.mem_map.mp m
    exact nkey_of I (hk q0 m0)
  · obtain ⟨L, rfl, sub⟩ := back_of (M := M) (f := fun q : Addr × κ => (q.1, key q.2)) (L0 := L0) fun p m => by
      have := List.mem_of_mem_take (g.old p m)
      exact this
    refine ⟨.ref s.heap.objs.size, upd H s.heap.objs.size (SetNO X.w s.heap.objs.size (mem1 key L)), I.laid (t' := tk) k (Nat.le_refl _) (setNO_ok ⟨es, ep, t, R⟩), rfl, q _ L none' sub (fun p m => ?_) ?_⟩
    · have z := g.new (p.1, key p.2) (by rw [List.take_length]; exact List.mem_map.mpr ⟨p, m, rfl⟩)
      simpa [List.map_map, Function.comp_def] using z
    · have z := R.once
      rw [List.map_map] at z
      exact z
/-- sorted(xs), xs a set of keys -/
def rSortSet (key : κ → NestedKey) (lt : κ → κ → Bool) (K : PySem.W.Frag) (w : World) : List V → Hp → VK → Prop := fun vs H Q => ∃ (a : Addr) (L : List (Addr × κ)), vs = [V.ref a] ∧ H a = some (SetNO w a (mem1 key L)) ∧ (∀ p ∈ L, KeyA K H p.1 (key p.2)) ∧
  ∀ (L' : List (Addr × κ)) (p : Addr), L'.Perm L → L'.Pairwise (fun a b => lt b.2 a.2 = false) → H p = none → Q (.ref p) (upd H p (.lst (L'.map fun q => V.ref q.1)))
theorem cr_sortSet (O : SrtK κ key enc lt) (hx : X.w = w ∧ X.K = K) (hc : X.calm = true) (hu : X.A.units + 64 < cLine) : CallR X (.builtin "sorted") (rSortSet key lt K w) := by
  obtain ⟨rfl, rfl⟩ := hx
  intro pins s σ H vs us Q I r h
  obtain ⟨a, L, rfl, ha, hk, q⟩ := h
  rw [Vals.ref1 r]
  obtain ⟨es, ep, t, R⟩ : SetNp X.w a (mem1 key L) s.heap := (I.hok a _ ha).1
  obtain ⟨ob, here, ex, dt⟩ := R.here
  have few : L.length < 64 := by simpa [mem1] using R.few
  have size := rowsN_len R.rows
  have sizeL : es.size = L.length := by simpa [mem1] using size
  refine Calls.call_function_entry kind_sorted plain_sorted entry_sorted (args_sorted1 _) ?_
  unfold Builtin.«sorted»
  refine wpAny_bind (m := checkCount "sorted" 1 1 _) (wpAny_pure ?_)
  refine wpAny_bind <| collect_set (A := X.A.in1) (I.ok.hd hc) ⟨ob, here, ex.1, dt⟩ R.ft (by unfold scanBound; omega) R.tab.ris R.led fun s1 us1 k1 hz g1 o1 pm => ?_
  have rows : es.toList.map (·.2) = L.map fun q => Value.ref q.1 := by
    rw [R.rows]
    simp [rowsN, mem1, List.map_map, Function.comp_def]
  rw [rows] at pm
  obtain ⟨L1, p1, rfl⟩ := perm_back pm rfl
  have len1 : (L1.map fun q => Value.ref q.1).length ≤ sizeLine := by
    rw [List.length_map, p1.length_eq, sizeLine_eq]
    omega
  refine wpAny_bind <| wpAny_newList ?_ len1
  have hoL : (s1.heap.push (seqObj "list" (L1.map fun q => Value.ref q.1).toArray 0)).get? s1.heap.objs.size = some (seqObj "list" (L1.map fun q => Value.ref q.1).toArray 0) := Heap.get?_push_size _ rfl
  have old : ∀ b o, s.heap.get? b = some o → (PySem.W.sortingHeap (s1.heap.push (seqObj "list" (L1.map fun q => Value.ref q.1).toArray 0)) s1.heap.objs.size (L1.map fun q => Value.ref q.1)).get? b = some o := fun b o e => by
    have e1 := k1 b o e
    have lt := Heap.lt_size e1
    exact PySem.W.sortingHeap_old (Nat.ne_of_lt lt) (Heap.get?_push_of_some _ e1)
  have er : PySem.W.EachIs (fun v (b : Addr × κ) => ∃ as, PySem.Reads (PySem.W.sortingHeap (s1.heap.push (seqObj "list" (L1.map fun q => Value.ref q.1).toArray 0)) s1.heap.objs.size (L1.map fun q => Value.ref q.1)) v (enc b.2) as) (L1.map fun p => Value.ref p.1) L1 := by
    refine (PySem.W.each_mem (refs_each L1)).mono fun v b x => ?_
    obtain ⟨e, m⟩ := x
    obtain ⟨as, rd⟩ := Dp.reads I (enc b.2) (.ref b.1) v (O.dp (hk b (p1.mem_iff.mp m))) e
    exact ⟨as, PyProof.Rows.Reads.keeps old rd⟩
  have al : PySem.W.AllAlike (L1.map fun b => enc b.2) := PySem.W.AllAlike.of fun b b' => O.alike b.2 b'.2
  refine wpAny_bind <| wpAny_holding <| wpAny_call_entry slot_list_sort ⟨_, hoL, rfl⟩ entry_list_sort
    (PySem.W.list_sort_vals (κ := PySem.W.dataKind (PySem.W.sortingHeap (s1.heap.push (seqObj "list" (L1.map fun q => Value.ref q.1).toArray 0)) s1.heap.objs.size (L1.map fun q => Value.ref q.1)) (L1.map fun b => enc b.2)) (s := { s1 with heap := s1.heap.push (seqObj "list" (L1.map fun q => Value.ref q.1).toArray 0) }) hoL
      (sortsTups (s := { s1 with heap := PySem.W.sortingHeap (s1.heap.push (seqObj "list" (L1.map fun q => Value.ref q.1).toArray 0)) s1.heap.objs.size (L1.map fun q => Value.ref q.1) }) (PySem.W.each_map (R := fun v d => ∃ as, PySem.Reads (PySem.W.sortingHeap (s1.heap.push (seqObj "list" (L1.map fun q => Value.ref q.1).toArray 0)) s1.heap.objs.size (L1.map fun q => Value.ref q.1)) v d as) (fun b : Addr × κ => enc b.2) er) al
        (fun d m => by obtain ⟨b, _, rfl⟩ := List.mem_map.mp m; exact O.tup b.2) (fun d m => by
          obtain ⟨b, _, rfl⟩ := List.mem_map.mp m
          have := O.depth b.2
          simp only [Around.in1_units]
          omega)) len1 ⟨.none, rfl, ?_⟩) (args_list_sort _)
  have out := PySem.W.sortVals_data false (refs_each L1) er al
  obtain ⟨c, hc'⟩ := sortedHeap_at (vs := L1.map fun q => Value.ref q.1) (out := (PySem.W.sortVals (PySem.W.dataKind (PySem.W.sortingHeap (s1.heap.push (seqObj "list" (L1.map fun q => Value.ref q.1).toArray 0)) s1.heap.objs.size (L1.map fun q => Value.ref q.1)) (L1.map fun b => enc b.2)) false (L1.map fun q => Value.ref q.1) (L1.map fun q => Value.ref q.1)).toArray) hoL
  generalize PySem.W.sortVals (PySem.W.dataKind (PySem.W.sortingHeap (s1.heap.push (seqObj "list" (L1.map fun q => Value.ref q.1).toArray 0)) s1.heap.objs.size (L1.map fun q => Value.ref q.1)) (L1.map fun b => enc b.2)) false (L1.map fun q => Value.ref q.1) (L1.map fun q => Value.ref q.1) = ws at out hc' ⊢
  have ele : ∀ a b : Addr × κ, PySem.W.dataLe false (fun b : Addr × κ => enc b.2) a b = !lt b.2 a.2 := fun a b => by
    rw [PySem.W.dataLe_eq]
    show (!PySem.W.dataLt (enc b.2) (enc a.2)) = _
    rw [O.lts]
  have perm := List.mergeSort_perm L1 (PySem.W.dataLe false fun b : Addr × κ => enc b.2)
  have srt := List.pairwise_mergeSort (le := PySem.W.dataLe false fun b : Addr × κ => enc b.2) (fun a b c h1 h2 => by
    rw [ele, Bool.not_eq_true'] at h1 h2 ⊢
    exact O.le h1 h2) (fun a b => by
    rw [ele, ele]
    cases e : lt b.2 a.2 with
    | false => rfl
    | true => rw [O.asym e]; rfl) L1
  generalize L1.mergeSort (PySem.W.dataLe false fun b : Addr × κ => enc b.2) = L' at out perm srt
  have kp : ∀ b o, s.heap.get? b = some o → (sortedHeap (s1.heap.push (seqObj "list" (L1.map fun q => Value.ref q.1).toArray 0)) s1.heap.objs.size (L1.map fun q => Value.ref q.1) ws.toArray).get? b = some o := fun b o e => by
    have e1 := k1 b o e
    have lt := Heap.lt_size e1
    rw [sortedHeap_old (Nat.ne_of_lt lt) (by rw [size_push']; exact Nat.lt_succ_of_lt lt)]
    exact Heap.get?_push_of_some _ e1
  have none' : H s1.heap.objs.size = none := I.hok.fresh hz
  have len2 : (L'.map fun q => V.ref q.1).length ≤ sizeLine := by
    rw [List.length_map, perm.length_eq, p1.length_eq, sizeLine_eq]
    omega
  generalize sortedHeap (s1.heap.push (seqObj "list" (L1.map fun q => Value.ref q.1).toArray 0)) s1.heap.objs.size (L1.map fun q => Value.ref q.1) ws.toArray = h2 at hc' kp ⊢
  obtain ⟨h1, g', d', t', o'⟩ := s1
  dsimp only at *
  subst g1 o1
  have J : Inv X pins σ (upd H h1.objs.size (.lst (L'.map fun q => V.ref q.1))) { heap := h2, gens := s.gens, drawn := d', toks := t', os := s.os } :=
    I.call (ch := []) (Un.laid kp hz none') (I.hok.laid kp hz ⟨len2, ws, c, refs_vals out, by simpa using hc'⟩) I.bare (fun _ z => nomatch z)
  exact wpAny_pure ⟨_, rfl, ⟨.ref h1.objs.size, _, J, rfl, q L' _ (perm.trans p1) (srt.imp fun {a b} h => by rw [ele] at h; simpa using h) none'⟩⟩
end
end Kl

set_option maxRecDepth 100000
set_option maxHeartbeats 4000000
namespace Kl
open PySem PySem.Spec PyProof.Rows L2 Gx Mx
/-! ### the digits of a reader -/
/-- the members of l, each once, ascending -/
def IsDg (l ys : List (List Str)) : Prop := ys.Pairwise (fun a b => ltT b a = false) ∧ ys.Nodup ∧ ∀ z, z ∈ ys ↔ z ∈ l
theorem IsDg.unique {l xs ys : List (List Str)} (h : IsDg l xs) (g : IsDg l ys) : xs = ys :=
  List.Perm.eq_of_pairwise (le := fun a b => ltT b a = false) (fun a b _ _ h1 h2 => by
    rcases ltT_total a b with q | q | q
    · rw [q] at h2; cases h2
    · exact q
    · rw [q] at h1; cases h1) h.1 g.1 ((List.perm_ext_iff_of_nodup h.2.1 g.2.1).mpr fun z => (h.2.2 z).trans (g.2.2 z).symm)
theorem IsDg.of {l l' ys : List (List Str)} (h : IsDg l ys) (e : ∀ z, z ∈ l ↔ z ∈ l') : IsDg l' ys := ⟨h.1, h.2.1, fun z => (h.2.2 z).trans (e z)⟩
abbrev TsAt (K : PySem.W.Frag) (H : Hp) (L : List (Addr × List Str)) : Prop := ∀ p ∈ L, SqT K H p.1 (p.2.map V.str)
theorem set_sortT {K : PySem.W.Frag} {w : World} {H : Hp} {D : Addr} {M : List (Addr × List Str)} {Q : VK} (hD : SqL K H D (M.map fun p => V.ref p.1)) (hM : TsAt K H M) (few : M.length < 64)
    (q : ∀ (L : List (Addr × List Str)) (l : Addr) (H' : Hp), IsDg (M.map (·.2)) (L.map (·.2)) → L.length ≤ M.length → TsAt K H' L → Same H H' → H l = none → H' l = some (.lst (L.map fun p => V.ref p.1)) → Q (.ref l) H') :
    rSetN keyT K w [V.ref D] H (fun v H1 => rSortSet keyT ltT K w [v] H1 Q) := by
  refine ⟨D, M, rfl, hD, fun p m => keyT_at.mpr (hM p m), few, fun a L na sub all nd => ?_⟩
  have s1 := same_new (o := SetNO w a (mem1 keyT L)) (Same.refl H) na
  refine ⟨a, L, rfl, upd_same, fun p m => keyT_at.mpr (sqT_same s1 (hM p (sub p m))), fun L' l pm srt nl => ?_⟩
  have s2 := s1.trans (same_new (o := .lst (L'.map fun p => V.ref p.1)) (Same.refl _) nl)
  have nd2 : (L.map (·.2)).Nodup := by
    refine List.Pairwise.of_map keyT (fun x y (n : keyT x ≠ keyT y) (e : x = y) => n (congrArg keyT e)) ?_
    rw [List.map_map]
    exact nd
  have mem : ∀ z, z ∈ L'.map (·.2) ↔ z ∈ M.map (·.2) := fun z => by
    rw [(pm.map (·.2)).mem_iff]
    constructor
    · intro h
      obtain ⟨p, m, rfl⟩ := List.mem_map.mp h
      exact List.mem_map.mpr ⟨p, sub p m, rfl⟩
    · intro h
      obtain ⟨p, m, rfl⟩ := List.mem_map.mp h
      obtain ⟨p2, m2, e⟩ := List.mem_map.mp (all p m)
      exact List.mem_map.mpr ⟨p2, m2, keyT_inj e⟩
  have nd' := (pm.map (·.2)).nodup_iff.mpr nd2
  refine q L' l _ ⟨by rw [List.pairwise_map]; exact srt, nd', mem⟩ ?_ (fun p m => sqT_same s2 (hM p (sub p (pm.mem_iff.mp m)))) s2 (s1.free nl) upd_same
  have le : (L'.map (·.2)).length ≤ (M.map (·.2)).length := List.Nodup.length_le_of_subset nd' fun z hz => (mem z).mp hz
  rw [List.length_map, List.length_map] at le
  exact le
theorem take_dig {R : Rds} {M : List (Addr × List Str)} {j : Nat} {r : KW × Str} (e : M.map (·.2) = (R.take j).map fun r => r.1.2) (hr : R[j]? = some r) (g : Addr) : (M ++ [(g, r.1.2)]).map (·.2) = (R.take (j + 1)).map fun r => r.1.2 := by
  rw [List.map_append, e, List.take_add_one, hr, List.map_append]
  rfl
section
variable {P : Program} {w : World} {K : PySem.W.Frag} {mg : Str → Option Value} {base : Heap}
def spRDigs (P : Program) (w : World) (K : PySem.W.Frag) (C : Addr) : Sp := fun vs H Q _ => ∃ (x : Addr) (first : Str) (ends : List Str) (R : Rds), vs = [.ref x] ∧ RdrAt P w K C H x first ends R ∧ R.length < 64 ∧
  ∀ (L : List (Addr × List Str)) (t : Addr) (H' : Hp), IsDg (R.map fun r => r.1.2) (L.map (·.2)) → L.length ≤ R.length → TsAt K H' L → Same H H' → H t = none → H' t = some (.tup (L.map fun p => V.ref p.1)) → Q (.ref t) H'
theorem ok_rdigs {C f : Addr} {fd : FuncData} (F : Fun K "digits" "Reader.digits" s_Reader_digits f fd) (T : Top K mg) (TC : Cl_Reader K mg C) : FnOk P w K mg base CX0 1 f fd ["self"] (spRDigs P w K C) := by
  refine F.ok sc_Reader_digits (fun vs H Q E h => ?_) (fun cdv A outer s H vs Q E hr h => ?_)
  · obtain ⟨x, first, ends, R, rfl, _⟩ := h
    rfl
  · obtain ⟨x, first, ends, R, rfl, ⟨dx, e, d, st, sp, ys, M0, hx, he, ⟨L, hd, hk, hL⟩, _⟩, few, q⟩ := h
    refine ⟨_, pss_one (ps_ret (pe_callTy call_tuple_of (by rfl) T.b_tuple (by decide +kernel) (pa_cons (pe_callB (cr_sortSet srtT (w := w) (K := K) (by exact ⟨rfl, rfl⟩) rfl (by exact hr.units)) (by rfl) T.b_sorted (by decide +kernel) (pa_cons
        (pe_callTy (cr_setN (key := keyT) (w := w) (K := K) (by exact ⟨rfl, rfl⟩) rfl (by exact hr.units)) (by rfl) T.b_set (by decide +kernel) (pa_cons
          (pe_lock (pe_lc (own := [("_", 1), ("digit", 2)]) (g := gTup K 2 (gCons (gName 1) (gCons (gName 2) gNil))) (tt := tYes) rfl sc_Reader_digits.nd (pi_keysN (P := P) (w := w) (K := K) (by exact ⟨rfl, rfl, rfl⟩) (pe_fld (pv 0) rfl))
            (blkOk_by (N := ["self", "_", "digit"]) (sc := defScope s_Reader_digits) (by decide +kernel))
            (fun _ _ _ _ _ => pg_tup rfl (pgs_cons (pg_name (i := 1) sc_Reader_digits.nd rfl (.inl rfl)) (pgs_cons (pg_name (i := 2) sc_Reader_digits.nd rfl (.inl rfl)) pgs_nil))) (fun _ _ _ _ _ => pts_nil) (fun _ _ _ _ _ => pv 2))) pa_nil)) pa_nil)) pa_nil))), ?_⟩
    have hlen := prM_len hL
    have nxd : x ≠ d := fun z => by rw [z, hd] at hx; cases hx
    refine ⟨d, _, hd, True.intro, fun od => ⟨_, rfl, x, C, dx, _, _, rfl, by rw [upd_ne nxd]; exact hx, TC.cl, TC.n_reads, rf_reads _ _ _ _ _, d, od, toN L, rfl, upd_same, fun D hD => ?_⟩⟩
    have hDd : D ≠ d := fun z => by rw [z, upd_same] at hD; cases hD
    have hD0 : H D = none := by rw [upd_ne hDd] at hD; exact hD
    refine lc_it (walk_keysN (P := P) (w := w) (d := d) (o := od) (L := toN L)) (fun j G => ∃ M : List (Addr × List Str), G D = some (.lst (M.map fun p => V.ref p.1)) ∧ M.map (·.2) = ((R.take j).map fun r => r.1.2) ∧ TsAt K H M ∧ Lkd P w H G d od (toN L))
      ⟨[], upd_same, rfl, fun _ m => (nomatch m), Lkd.of.more (same_new (Same.refl _) hD)⟩ (fun j G _ hP => by obtain ⟨_, _, _, _, k⟩ := hP; exact k.at_) (fun j u Gx G hj hP hy => ?_) (fun G hP => ?_)
    · obtain ⟨M, eD, eM, hM, lk⟩ := hP
      obtain ⟨rfl, e0, he0, rfl⟩ := hy
      obtain ⟨x0, hx0, rfl⟩ := toN_at he0
      obtain ⟨r, hr0, er1, er2⟩ := prM_at hL hx0
      obtain ⟨g, hg1, hg2⟩ := keyK_at.mp (hk x0 (List.mem_of_getElem? hx0))
      rw [er1] at hg1 hg2
      refine ⟨x0.2.1, _, rfl, lk.sq hd hg1, rfl, _, _, rfl, _, _, rfl, rfl, rfl, _, rfl, _, eD, ?_, M ++ [(g, r.1.2)], ?_, take_dig eM hr0 g, fun p m => ?_, ?_⟩
      · have := congrArg List.length eM
        rw [List.length_map, List.length_map, List.length_take] at this
        rw [List.length_map, this]
        exact Nat.lt_of_le_of_lt (show min j R.length ≤ 1000 by omega) (by decide)
      · rw [upd_same, List.map_append]
        rfl
      · rcases List.mem_append.mp m with m | m
        · exact hM p m
        · obtain rfl := List.mem_singleton.mp m
          exact hg2
      · exact ⟨by rw [upd_ne (Ne.symm hDd)]; exact lk.at_, fun b u n e => by rw [upd_ne (ne_of_none e hD0)]; exact lk.sm b u n e⟩
    · obtain ⟨M, eD, eM, hM, lk⟩ := hP
      rw [toN_len, hlen, List.take_length] at eM
      have bk := lk.back hd
      have lM : M.length = R.length := by
        have := congrArg List.length eM
        rw [List.length_map, List.length_map] at this
        exact this
      refine ⟨lk.at_, set_sortT (Q := fun u H2 => ∃ p ys, [u] = [V.ref p] ∧ ((SqL K H2 p ys ∧ ∀ l, H2 l = none → Q (.ref l) (upd H2 l (.tup ys))) ∨ (SqT K H2 p ys ∧ Q (.ref p) H2))) (.inl (.inl (by rw [upd_ne hDd]; exact eD))) (fun p m => sqT_same bk (hM p m)) (by omega) fun L' l H' hdg hle hts sm nl el => ?_⟩
      refine ⟨l, _, rfl, .inl ⟨.inl (.inl el), fun t nt => ?_⟩⟩
      rw [eM] at hdg
      have sm2 := same_new (o := .tup (L'.map fun p => V.ref p.1)) (Same.refl H') nt
      exact q L' t _ hdg (by omega) (fun p m => sqT_same sm2 (hts p m)) ((bk.trans sm).trans sm2) ((bk.trans sm).free nt) upd_same
def spRDg (P : Program) (w : World) (K : PySem.W.Frag) : Sp := fun vs H Q _ => ∃ (p el rd : Addr) (first : Str) (ends : List Str) (R : Rds), vs = [.ref p] ∧ PlainAt P w K H p el rd first ends R ∧ R.length < 64 ∧
  ∀ (L : List (Addr × List Str)) (t : Addr) (H' : Hp), IsDg (R.map fun r => r.1.2) (L.map (·.2)) → L.length ≤ R.length → TsAt K H' L → Same H H' → H t = none → H' t = some (.lst (L.map fun p => V.ref p.1)) → Q (.ref t) H'
theorem ok_rdg {f : Addr} {fd : FuncData} (F : Fun K "_law_reader_digits" "_law_reader_digits" s_law_reader_digits f fd) (T : Top K mg) : FnOk P w K mg base CX0 1 f fd ["_law_plain"] (spRDg P w K) := by
  refine F.ok sc_law_reader_digits (fun vs H Q E h => ?_) (fun cdv A outer s H vs Q E hr h => ?_)
  · obtain ⟨p, el, rd, first, ends, R, rfl, _⟩ := h
    rfl
  · obtain ⟨p, el, rd, first, ends, R, rfl, ⟨hp, he, ⟨L, hd, hk, hL⟩⟩, few, q⟩ := h
    refine ⟨_, pss_one (ps_ret (pe_callB (cr_sortSet srtT (w := w) (K := K) (by exact ⟨rfl, rfl⟩) rfl (by exact hr.units)) (by rfl) T.b_sorted (by decide +kernel) (pa_cons
        (pe_callTy (cr_setN (key := keyT) (w := w) (K := K) (by exact ⟨rfl, rfl⟩) rfl (by exact hr.units)) (by rfl) T.b_set (by decide +kernel) (pa_cons
          (pe_lock (pe_lc (own := [("_law_state", 1), ("_law_digit", 2)]) (g := gTup K 2 (gCons (gName 1) (gCons (gName 2) gNil))) (tt := tYes) rfl sc_law_reader_digits.nd (pi_keysN (P := P) (w := w) (K := K) (by exact ⟨rfl, rfl, rfl⟩) (pe_dget (hu' hr) (pv 0) pe_str (fun _ _ => rfl)))
            (blkOk_by (N := ["_law_plain", "_law_state", "_law_digit"]) (sc := defScope s_law_reader_digits) (by decide +kernel))
            (fun _ _ _ _ _ => pg_tup rfl (pgs_cons (pg_name (i := 1) sc_law_reader_digits.nd rfl (.inl rfl)) (pgs_cons (pg_name (i := 2) sc_law_reader_digits.nd rfl (.inl rfl)) pgs_nil))) (fun _ _ _ _ _ => pts_nil) (fun _ _ _ _ _ => pv 2))) pa_nil)) pa_nil))), ?_⟩
    have hlen := prM_len hL
    have npr : p ≠ rd := fun z => by rw [z, hd] at hp; cases hp
    refine ⟨rd, _, hd, True.intro, fun od => ⟨_, rfl, p, _, rfl, pg3 (by rw [upd_ne npr]; exact hp), rd, od, toN L, rfl, upd_same, fun D hD => ?_⟩⟩
    have hDd : D ≠ rd := fun z => by rw [z, upd_same] at hD; cases hD
    have hD0 : H D = none := by rw [upd_ne hDd] at hD; exact hD
    refine lc_it (walk_keysN (P := P) (w := w) (d := rd) (o := od) (L := toN L)) (fun j G => ∃ M : List (Addr × List Str), G D = some (.lst (M.map fun p => V.ref p.1)) ∧ M.map (·.2) = ((R.take j).map fun r => r.1.2) ∧ TsAt K H M ∧ Lkd P w H G rd od (toN L))
      ⟨[], upd_same, rfl, fun _ m => (nomatch m), Lkd.of.more (same_new (Same.refl _) hD)⟩ (fun j G _ hP => by obtain ⟨_, _, _, _, k⟩ := hP; exact k.at_) (fun j u Gx G hj hP hy => ?_) (fun G hP => ?_)
    · obtain ⟨M, eD, eM, hM, lk⟩ := hP
      obtain ⟨rfl, e0, he0, rfl⟩ := hy
      obtain ⟨x0, hx0, rfl⟩ := toN_at he0
      obtain ⟨r, hr0, er1, er2⟩ := prM_at hL hx0
      obtain ⟨g, hg1, hg2⟩ := keyK_at.mp (hk x0 (List.mem_of_getElem? hx0))
      rw [er1] at hg1 hg2
      refine ⟨x0.2.1, _, rfl, lk.sq hd hg1, rfl, _, _, rfl, _, _, rfl, rfl, rfl, _, rfl, _, eD, ?_, M ++ [(g, r.1.2)], ?_, take_dig eM hr0 g, fun p m => ?_, ?_⟩
      · have := congrArg List.length eM
        rw [List.length_map, List.length_map, List.length_take] at this
        rw [List.length_map, this]
        exact Nat.lt_of_le_of_lt (show min j R.length ≤ 1000 by omega) (by decide)
      · rw [upd_same, List.map_append]
        rfl
      · rcases List.mem_append.mp m with m | m
        · exact hM p m
        · obtain rfl := List.mem_singleton.mp m
          exact hg2
      · exact ⟨by rw [upd_ne (Ne.symm hDd)]; exact lk.at_, fun b u n e => by rw [upd_ne (ne_of_none e hD0)]; exact lk.sm b u n e⟩
    · obtain ⟨M, eD, eM, hM, lk⟩ := hP
      rw [toN_len, hlen, List.take_length] at eM
      have bk := lk.back hd
      have lM : M.length = R.length := by
        have := congrArg List.length eM
        rw [List.length_map, List.length_map] at this
        exact this
      refine ⟨lk.at_, set_sortT (.inl (.inl (by rw [upd_ne hDd]; exact eD))) (fun p m => sqT_same bk (hM p m)) (by omega) fun L' l H' hdg hle hts sm nl el => ?_⟩
      rw [eM] at hdg
      exact q L' l H' hdg (by omega) hts (bk.trans sm) (bk.free nl) el
end
end Kl

set_option maxRecDepth 100000
set_option maxHeartbeats 4000000
namespace Gx
open PySem PySem.Spec PyProof.Rows L2
/-! data stay while nothing is changed -/
theorem sqT_st {K : PySem.W.Frag} {H H' : Hp} {a : Addr} {xs : List V} (s : ∀ b o, H b = some o → H' b = some o) (h : SqT K H a xs) : SqT K H' a xs := by
  rcases h with (h | ⟨o, h⟩) | h
  · exact .inl (.inl (s _ _ h))
  · exact .inl (.inr ⟨o, s _ _ h⟩)
  · exact .inr h
theorem sqL_st {K : PySem.W.Frag} {H H' : Hp} {a : Addr} {xs : List V} (s : ∀ b o, H b = some o → H' b = some o) (h : SqL K H a xs) : SqL K H' a xs := by
  rcases h with (h | ⟨o, h⟩) | h
  · exact .inl (.inl (s _ _ h))
  · exact .inl (.inr ⟨o, s _ _ h⟩)
  · exact .inr h
mutual
theorem dp_st {K : PySem.W.Frag} {H H' : Hp} (s : ∀ b o, H b = some o → H' b = some o) : ∀ (d : PyData) (v : V), Dp K H v d → Dp K H' v d
  | .none, _, h => by cases h; exact .non
  | .bool _, _, h => by cases h; exact .bl _
  | .int _, _, h => by cases h; exact .int _
  | .str _, _, h => by cases h; exact .str _
  | .list ds, _, h => by
    cases h with
    | lst e r => exact .lst (sqL_st s e) (dpAll_st s ds _ r)
  | .tuple ds, _, h => by
    cases h with
    | tup e r => exact .tup (sqT_st s e) (dpAll_st s ds _ r)
  | .dict _, _, h => by cases h
theorem dpAll_st {K : PySem.W.Frag} {H H' : Hp} (s : ∀ b o, H b = some o → H' b = some o) : ∀ (ds : List PyData) (vs : List V), DpAll K H vs ds → DpAll K H' vs ds
  | [], _, h => by cases h; exact .nil
  | d :: ds, _, h => by
    cases h with
    | cons a r => exact .cons (dp_st s d _ a) (dpAll_st s ds _ r)
end
theorem _root_.L2.Dp.st {K : PySem.W.Frag} {H H' : Hp} {v : V} {d : PyData} (h : Dp K H v d) (s : ∀ b o, H b = some o → H' b = some o) : Dp K H' v d := dp_st s d v h
theorem _root_.L2.DpAll.st {K : PySem.W.Frag} {H H' : Hp} {vs : List V} {ds : List PyData} (h : DpAll K H vs ds) (s : ∀ b o, H b = some o → H' b = some o) : DpAll K H' vs ds := dpAll_st s ds vs h
end Gx

set_option maxRecDepth 100000
set_option maxHeartbeats 4000000
namespace Kl
open PySem PySem.Spec PyProof.Rows L2 Gx Mx
/-! ### data that are small -/
theorem ok_app (a b : Str) : PyData.strOk (a ++ b) = (PyData.strOk a && PyData.strOk b) := by
  show (a.cps ++ b.cps).all _ = (a.cps.all _ && b.cps.all _)
  rw [Array.all_append]
structure Sm (B k : Nat) (d : PyData) : Prop where
  lay : d.canLay0 = true
  dp : d.depth ≤ k
  wt : d.weight ≤ B
  sh : d.showable = true
  is : d.intsShort 13 = true
theorem Sm.str {B k : Nat} {s : Str} (h : PyData.strOk s = true) (hl : s.length ≤ B) : Sm B k (.str s) := ⟨h, Nat.zero_le _, hl, rfl, rfl⟩
theorem Sm.up {B B' k k' : Nat} {d : PyData} (h : Sm B k d) (hB : B ≤ B') (hk : k ≤ k') : Sm B' k' d := ⟨h.lay, Nat.le_trans h.dp hk, Nat.le_trans h.wt hB, h.sh, h.is⟩
theorem Sm.all {B k : Nat} : ∀ {ds : List PyData}, (∀ d ∈ ds, Sm B k d) → PyData.canLayAll0 ds = true ∧ PyData.depthAll ds ≤ k ∧ PyData.weightAll ds ≤ ds.length * (B + 1) ∧ PyData.showableAll ds = true ∧ PyData.intsShortAll 13 ds = true
  | [], _ => ⟨rfl, Nat.zero_le _, Nat.zero_le _, rfl, rfl⟩
  | d :: ds, h => by
    obtain ⟨h1, h2, h3, h4, h5⟩ := h d List.mem_cons_self
    obtain ⟨i1, i2, i3, i4, i5⟩ := Sm.all (ds := ds) fun x hx => h x (List.mem_cons_of_mem _ hx)
    refine ⟨?_, ?_, ?_, ?_, ?_⟩
    · rw [PyData.canLayAll0, h1, i1]; rfl
    · rw [PyData.depthAll]; exact Nat.max_le.mpr ⟨h2, i2⟩
    · rw [PyData.weightAll, List.length_cons, Nat.succ_mul]
      omega
    · rw [PyData.showableAll, h4, i4]; rfl
    · rw [PyData.intsShortAll, h5, i5]; rfl
theorem Sm.tup {B k n B' k' : Nat} {ds : List PyData} (h : ∀ d ∈ ds, Sm B k d) (hn : ds.length ≤ n) (hB : n * (B + 1) ≤ B') (hk : k + 1 ≤ k') : Sm B' k' (.tuple ds) := by
  obtain ⟨i1, i2, i3, i4, i5⟩ := Sm.all h
  have hm : ds.length * (B + 1) ≤ n * (B + 1) := Nat.mul_le_mul_right _ hn
  exact ⟨i1, by rw [PyData.depth]; omega, by rw [PyData.weight]; omega, i4, i5⟩
theorem Sm.lst {B k n B' k' : Nat} {ds : List PyData} (h : ∀ d ∈ ds, Sm B k d) (hn : ds.length ≤ n) (hB : n * (B + 1) ≤ B') (hk : k + 1 ≤ k') : Sm B' k' (.list ds) := by
  obtain ⟨i1, i2, i3, i4, i5⟩ := Sm.all h
  have hm : ds.length * (B + 1) ≤ n * (B + 1) := Nat.mul_le_mul_right _ hn
  exact ⟨i1, by rw [PyData.depth]; omega, by rw [PyData.weight]; omega, i4, i5⟩
theorem Sm.int {B k n : Nat} (h : n ≤ 6) (hB : 3 ≤ B) : Sm B k (.int (n : Int)) := by
  have e : (List.range 7).all (fun n => decide (PyData.weight (.int (n : Int)) ≤ 3) && PyData.showable (.int (n : Int)) && PyData.intsShort 13 (.int (n : Int))) = true := by decide +kernel
  have e2 := List.all_eq_true.mp e n (List.mem_range.mpr (by omega))
  rw [Bool.and_eq_true, Bool.and_eq_true] at e2
  exact ⟨rfl, Nat.zero_le _, Nat.le_trans (of_decide_eq_true e2.1.1) hB, e2.1.2, e2.2⟩
/-- what repr asks of data -/
theorem Sm.repr {B k : Nat} {d : PyData} (h : Sm B k d) (hB : B ≤ 1000000) (hk : k ≤ 60) : d.showable = true ∧ d.hasDict = false ∧ d.depth ≤ 60 ∧ d.shown.length ≤ sizeLine := by
  have hl : PyData.layable0 d = true := by
    show (PyData.canLay0 d && decide (PyData.depth d ≤ 64) && decide (PyData.weight d ≤ 2 ^ 20)) = true
    rw [h.lay, decide_eq_true (show d.depth ≤ 64 from Nat.le_trans h.dp (by omega)), decide_eq_true (show d.weight ≤ 2 ^ 20 from Nat.le_trans h.wt (Nat.le_trans hB (by decide)))]
    rfl
  refine ⟨h.sh, PyData.hasDict_of_layable hl, Nat.le_trans h.dp hk, Nat.le_trans (shown_le13 hl h.is) (by decide)⟩
/-- texts -/
theorem sm_texts {B n : Nat} {zs : List Str} (h : ∀ z ∈ zs, PyData.strOk z = true ∧ z.length ≤ B) (hn : zs.length ≤ n) : Sm (n * (B + 1)) 1 (.tuple (tD zs)) := by
  refine Sm.tup (k := 0) (n := n) (fun d hd => ?_) (by unfold tD; rw [List.length_map]; exact hn) (Nat.le_refl _) (Nat.le_refl _)
  obtain ⟨z, hz, rfl⟩ := List.mem_map.mp hd
  exact Sm.str (h z hz).1 (h z hz).2
theorem Sm.intB {B k : Nat} {i : Int} (h : i.natAbs < 10 ^ 12) (hB : 41 ≤ B) : Sm B k (.int i) := by
  have hl : i.natAbs.log2 < 40 := PySem.Flt.log2_lt_of (by decide) (Nat.lt_trans h (by decide))
  refine ⟨rfl, Nat.zero_le _, ?_, decide_eq_true (Nat.lt_trans hl (by decide)), decide_eq_true (PyData.shown_int_le h)⟩
  rw [PyData.weight]
  split
  · exact Nat.zero_le _
  · omega
theorem Sm.bool {B k : Nat} (b : Bool) : Sm B k (.bool b) := ⟨rfl, Nat.zero_le _, Nat.zero_le _, rfl, rfl⟩
theorem Sm.non {B k : Nat} : Sm B k .none := ⟨rfl, Nat.zero_le _, Nat.zero_le _, rfl, rfl⟩
theorem Sm.shaped {B k : Nat} {d : PyData} (h : Sm B k d) (hk : k ≤ 64) : SeqAt.shaped d = true := by
  unfold SeqAt.shaped
  rw [Bool.and_eq_true]
  exact ⟨h.lay, decide_eq_true (Nat.le_trans h.dp hk)⟩
theorem sm_cons {B k : Nat} {d : PyData} {ds : List PyData} (h : Sm B k d) (r : ∀ e ∈ ds, Sm B k e) : ∀ e ∈ d :: ds, Sm B k e := fun e he => by
  rcases List.mem_cons.mp he with rfl | he
  · exact h
  · exact r e he
theorem sm_nil {B k : Nat} : ∀ e ∈ ([] : List PyData), Sm B k e := fun e he => nomatch he
/-! ### what stays while the dice are thrown -/
theorem ins_sx {G G' : Hp} {d a C dx : Addr} {fs : List (Str × V)} (hd : DiceAt G d) (s : SameX d G G') (h : G a = some (.ins C dx fs)) : G' a = some (.ins C dx fs) := by
  obtain ⟨p, q, r, e⟩ := hd
  exact s _ _ (fun z => by rw [z, e] at h; cases h) h
theorem dice_sm {H H' : Hp} {d : Addr} (s : ∀ b o, H b = some o → H' b = some o) (q : DiceAt H d) : DiceAt H' d := by
  obtain ⟨x, b, c, h⟩ := q
  exact ⟨x, b, c, s _ _ h⟩
end Kl

set_option maxRecDepth 100000
set_option maxHeartbeats 4000000
/-! ### sorted of a long list of texts -/
namespace Gx
open PySem PySem.Spec PyProof.Rows L2
section
variable {X : Cx}
def rSortedLS (K : PySem.W.Frag) : List V → Hp → VK → Prop := fun vs H Q => ∃ (a : Addr) (xs : List Str), vs = [V.ref a] ∧ SqL K H a (xs.map V.str) ∧ xs.length ≤ 100000 ∧
  ∀ (ys : List Str) (p : Addr), ys.Perm xs → sortedS ys = true → H p = none → Q (.ref p) (upd H p (.lst (ys.map V.str)))
theorem cr_sortedLS : CallR X (.builtin "sorted") (rSortedLS X.K) := by
  intro pins s σ H vs us Q I r h
  obtain ⟨a, xs, rfl, ht, hz, q⟩ := h
  obtain ⟨its, rv, ⟨o, n, ho, hc, _, hd⟩, _⟩ := I.list ht
  rw [Vals.ref1 r]
  have hln : xs.length = its.length := by
    have e := rv.length
    rw [List.length_map] at e
    exact e
  have hS : StrsAre its xs := rv.strs
  have hL : its.length ≤ sizeLine := Nat.le_trans (by omega) (show 100000 ≤ sizeLine by decide)
  refine Calls.call_function_entry kind_sorted plain_sorted entry_sorted (args_sorted1 _) ?_
  unfold Builtin.«sorted»
  refine wpAny_bind (m := checkCount "sorted" 1 1 _) (wpAny_pure ?_)
  refine wpAny_bind (wpAny_collect_seq a (.inl rfl) ho hc hd (fun h' hk => ?_) (by rw [List.size_toArray]; exact hL))
  have I1 : Inv _ pins σ H { s with heap := h' } := I.kept (t' := s.toks) hk
  rw [List.toList_toArray]
  refine wpAny_bind (wpAny_newList ?_ hL)
  have hoL : (h'.push (seqObj "list" its.toArray 0)).get? h'.objs.size = some (seqObj "list" its.toArray 0) := Heap.get?_push_size _ rfl
  show wpAny _ _ _ _ _ { s with heap := h'.push (seqObj "list" its.toArray 0) }
  refine wpAny_bind (wpAny_holding (wpAny_call_entry slot_list_sort ⟨_, hoL, rfl⟩ entry_list_sort
    (list_sort_treeKAny strKind_oneLt (s := { s with heap := h'.push (seqObj "list" its.toArray 0) }) hoL hS.keysOf (fun v₁ v₂ rest e => keyKind_strs (by rw [← e]; exact hS)) hL fun st' hp hs => ⟨_, rfl, ?_⟩) (args_list_sort _)))
  obtain ⟨ys, g1, g2, g3⟩ := sorted_out_str hS hp hs
  obtain ⟨e', he'⟩ := sortedHeap_at (vs := its) (out := (arrOf st').map (·.2)) hoL
  have hlen : (ys.map V.str).length ≤ sizeLine := by
    rw [List.length_map, g2.length_eq, hln]
    exact hL
  refine wpAny_pure ⟨_, rfl, .ref h'.objs.size, upd H h'.objs.size (.lst (ys.map V.str)), I1.laid (t' := s.toks) (fun b u e => ?_) (Nat.le_refl _)
    (show ObjOk X.prog X.w _ _ _ (.lst (ys.map V.str)) from ⟨hlen, ((arrOf st').map (·.2)).toList, e', vals_of_strs g1, by rw [Array.toArray_toList]; exact he'⟩), rfl, q ys _ g2 g3 (I1.hok.fresh (Nat.le_refl _))⟩
  have hb : b < h'.objs.size := Heap.lt_size e
  rw [sortedHeap_old (Nat.ne_of_lt hb) (by rw [size_push']; exact Nat.lt_succ_of_lt hb)]
  exact Heap.get?_push_of_some _ e
end
end Gx

set_option maxRecDepth 100000
set_option maxHeartbeats 4000000
namespace Kl
open PySem PySem.Spec PyProof.Rows L2 Gx Mx
/-! ### readers: what holds whatever the order of their lines -/
theorem name_sok {z : Str} (h : nameB z = true) : PyData.strOk z = true := by
  unfold nameB at h
  rw [Bool.and_eq_true] at h
  show z.cps.all _ = true
  rw [Array.all_eq_true']
  intro c hc
  have l := List.all_eq_true.mp h.2 c (Array.mem_toList_iff.mpr hc)
  have := isLow_lt l
  exact decide_eq_true (by omega)
theorem RdOk.perm {first : Str} {ends : List Str} {R R' : Rds} (h : RdOk first ends R) (p : R'.Perm R) : RdOk first ends R' where
  ok := fun ys hys => by
    have h1 := h.ok ys ⟨hys.1, hys.2.1, fun z => (hys.2.2 z).trans (states_perm first ends p)⟩
    unfold readerB readsB at h1 ⊢
    rw [p.all_eq, p.all_eq, p.length_eq]
    exact h1
  nd := (p.map (·.1)).nodup_iff.mpr h.nd
  le := h.le
  lr := by rw [p.length_eq]; exact h.lr
  f8 := h.f8
  e8 := h.e8
  r8 := fun r m => h.r8 r (p.mem_iff.mp m)
theorem RdOk.six {first : Str} {ends : List Str} {R : Rds} (h : RdOk first ends R) {ys : List Str} (hys : IsSt (statesL first ends R) ys) : ys.length ≤ 6 := by
  have h1 := h.ok ys hys
  unfold readerB at h1
  simp only [Bool.and_eq_true, decide_eq_true_eq] at h1
  omega
theorem RdOk.names {first : Str} {ends : List Str} {R : Rds} (h : RdOk first ends R) : nameB first = true ∧ (∀ z ∈ ends, nameB z = true) ∧ (∀ r ∈ R, nameB r.1.1 = true ∧ (∀ y ∈ r.1.2, nameB y = true) ∧ nameB r.2 = true) ∧ ends ≠ [] := by
  obtain ⟨ys, hys⟩ := isSt_ex (statesL first ends R)
  have h1 := h.ok ys hys
  unfold readerB ascB readsB at h1
  simp only [Bool.and_eq_true, decide_eq_true_eq, List.all_eq_true] at h1
  obtain ⟨⟨⟨h2, ⟨⟨h3, _⟩, ⟨h5, _⟩⟩, _, h4⟩, _⟩, _⟩ := h1
  refine ⟨h2, h3, fun r m => ?_, fun e => by rw [e] at h5; exact absurd h5 (by simp)⟩
  have q := h4 r m
  unfold lineB digB at q
  simp only [Bool.and_eq_true, decide_eq_true_eq, List.all_eq_true] at q
  exact ⟨q.1.1, q.1.2.2.1, q.2⟩
theorem RdOk.state_sok {first : Str} {ends : List Str} {R : Rds} (h : RdOk first ends R) : ∀ z ∈ statesL first ends R, PyData.strOk z = true ∧ z.length ≤ 8 := by
  obtain ⟨n1, n2, n3, _⟩ := h.names
  intro z m
  unfold statesL at m
  rcases List.mem_cons.mp m with rfl | m
  · exact ⟨name_sok n1, h.f8⟩
  rcases List.mem_append.mp m with m | m
  · exact ⟨name_sok (n2 z m), h.e8 z m⟩
  rcases List.mem_append.mp m with m | m
  · obtain ⟨r, mr, rfl⟩ := List.mem_map.mp m
    exact ⟨name_sok (n3 r mr).1, (h.r8 r mr).1⟩
  · obtain ⟨r, mr, rfl⟩ := List.mem_map.mp m
    exact ⟨name_sok (n3 r mr).2.2, (h.r8 r mr).2.2.2⟩
theorem IsSt.perm {first : Str} {ends : List Str} {R R' : Rds} {ys : List Str} (h : IsSt (statesL first ends R') ys) (p : R'.Perm R) : IsSt (statesL first ends R) ys := ⟨h.1, h.2.1, fun z => (h.2.2 z).trans (states_perm first ends p)⟩
/-- lines that ascend stand in one order alone -/
theorem asc_unique {R S : Rds} (p : R.Perm S) (nd : (S.map (·.1)).Nodup) (h : Asc R) (g : Asc S) : R = S := by
  refine List.Perm.eq_of_pairwise (le := fun a b : KW × Str => ltK b.1 a.1 = false) (fun a b ma mb h1 h2 => ?_) h g p
  have e : a.1 = b.1 := by
    rcases ltK_total a.1 b.1 with q | q | q
    · rw [q] at h2; cases h2
    · exact q
    · rw [q] at h1; cases h1
  obtain ⟨i, hi⟩ := List.mem_iff_getElem?.mp (p.mem_iff.mp ma)
  obtain ⟨j, hj⟩ := List.mem_iff_getElem?.mp mb
  have hi' : (S.map (·.1))[i]? = some a.1 := by rw [List.getElem?_map, hi]; rfl
  have hj' : (S.map (·.1))[j]? = some a.1 := by rw [List.getElem?_map, hj, e]; rfl
  have ij := (List.getElem?_inj (List.getElem?_eq_some_iff.mp hi').1 nd).mp (hi'.trans hj'.symm)
  subst ij
  rw [hi] at hj
  exact Option.some.inj hj
theorem valV_own {R : Rds} (nd : (R.map (·.1)).Nodup) {r : KW × Str} (m : r ∈ R) : valV (R.map fun q => (q.1, V.str q.2)) r.1 = some (V.str r.2) := by
  induction R with
  | nil => cases m
  | cons x R ih =>
    rw [List.map_cons] at nd ⊢
    obtain ⟨n1, n2⟩ := List.nodup_cons.mp nd
    rcases List.mem_cons.mp m with rfl | m
    · exact valV_pos rfl
    · rw [valV_neg (p := (x.1, V.str x.2)) (fun e => n1 (List.mem_map.mpr ⟨r, m, e.symm⟩))]
      exact ih n2 m
theorem eqM_perm {R S : Rds} (p : R.Perm S) (nd : (S.map (·.1)).Nodup) : eqM R S = true := by
  unfold eqM
  rw [p.length_eq, decide_eq_true rfl, Bool.true_and, List.all_eq_true]
  intro r m
  exact decide_eq_true (valV_own nd (p.mem_iff.mp m))
/-- a dict's entries and its lines -/
theorem ml_nodup {L : ML} {R : Rds} (e : prM L = R.map fun r => (r.1, V.str r.2)) (nd : (R.map (·.1)).Nodup) : (L.map (·.1)).Nodup := by
  have q := congrArg (List.map Prod.fst) e
  unfold prM at q
  rw [List.map_map, List.map_map] at q
  have q' : L.map (·.1) = R.map (·.1) := q
  rw [q']
  exact nd
theorem ml_keys {L : ML} {R : Rds} (e : prM L = R.map fun r => (r.1, V.str r.2)) : L.map (·.1) = R.map (·.1) := by
  have q := congrArg (List.map Prod.fst) e
  unfold prM at q
  rw [List.map_map, List.map_map] at q
  exact q
theorem ml_val {L : ML} {R : Rds} (e : prM L = R.map fun r => (r.1, V.str r.2)) {z : KW × Addr × V} (m : z ∈ L) : z.2.2 = V.str (txK z.2.2) := by
  obtain ⟨i, hi⟩ := List.mem_iff_getElem?.mp m
  obtain ⟨r, _, _, e2⟩ := prM_at e hi
  rw [e2]
  rfl
theorem ml_lines {L : ML} {R : Rds} (e : prM L = R.map fun r => (r.1, V.str r.2)) : R = L.map fun z => (z.1, txK z.2.2) := by
  have q := congrArg (List.map fun q : KW × V => (q.1, txK q.2)) e
  unfold prM at q
  rw [List.map_map, List.map_map] at q
  have q2 : R.map ((fun q : KW × V => (q.1, txK q.2)) ∘ fun r => (r.1, V.str r.2)) = R := by
    have : ((fun q : KW × V => (q.1, txK q.2)) ∘ fun r : KW × Str => (r.1, V.str r.2)) = id := by
      funext r
      rfl
    rw [this, List.map_id]
  rw [q2] at q
  exact q.symm
theorem ml_pr {L L' : ML} {R : Rds} (e : prM L = R.map fun r => (r.1, V.str r.2)) (p : L'.Perm L) : ∃ R' : Rds, R'.Perm R ∧ prM L' = R'.map fun r => (r.1, V.str r.2) := by
  refine ⟨L'.map fun z => (z.1, txK z.2.2), ?_, ?_⟩
  · have z := p.map fun z : KW × Addr × V => (z.1, txK z.2.2)
    rw [← ml_lines e] at z
    exact z
  · unfold prM
    rw [List.map_map]
    refine List.map_congr_left fun z hz => ?_
    have q := ml_val e (p.mem_iff.mp hz)
    show (z.1, z.2.2) = (z.1, V.str (txK z.2.2))
    rw [← q]
/-- keys as data -/
theorem dp_keys {K : PySem.W.Frag} {H : Hp} : ∀ {L : ML}, (∀ x ∈ L, KeyA K H x.2.1 (keyK x.1)) → DpAll K H (L.map fun x => V.ref x.2.1) (L.map fun x => encK x.1)
  | [], _ => .nil
  | x :: L, h => .cons (key_dp (h x List.mem_cons_self)) (dp_keys fun y m => h y (List.mem_cons_of_mem _ m))
theorem dp_dgs {K : PySem.W.Frag} {H : Hp} : ∀ {L : List (Addr × List Str)}, TsAt K H L → DpAll K H (L.map fun x => V.ref x.1) ((L.map (·.2)).map encT)
  | [], _ => .nil
  | x :: L, h => .cons (.tup (h x List.mem_cons_self) (dp_texts x.2)) (dp_dgs fun y m => h y (List.mem_cons_of_mem _ m))
theorem sm_key {r : KW} (h1 : PyData.strOk r.1 = true) (h2 : r.1.length ≤ 8) (h3 : ∀ y ∈ r.2, PyData.strOk y = true ∧ y.length ≤ 8) (h4 : r.2.length ≤ 3) : Sm 80 3 (encK r) := by
  refine Sm.tup (B := 27) (k := 1) (n := 2) (sm_cons (Sm.str h1 (by omega)) (sm_cons ((sm_texts (B := 8) (n := 3) h3 h4).up (by omega) (by omega)) sm_nil)) (Nat.le_refl 2) (by omega) (by omega)
theorem RdOk.sm_keys {first : Str} {ends : List Str} {R : Rds} (h : RdOk first ends R) : Sm 4000 4 (.list (R.map fun r => encK r.1)) := by
  obtain ⟨_, _, n3, _⟩ := h.names
  refine Sm.lst (B := 80) (k := 3) (n := 40) (fun d m => ?_) (by rw [List.length_map]; exact h.lr) (by omega) (by omega)
  obtain ⟨r, mr, rfl⟩ := List.mem_map.mp m
  obtain ⟨a1, a2, a3, a4⟩ := h.r8 r mr
  obtain ⟨b1, b2, b3⟩ := n3 r mr
  exact sm_key (name_sok b1) a1 (fun y m => ⟨name_sok (b2 y m), a3 y m⟩) a2
theorem ends_sok : ∀ {e : Str} {zs : List Str}, PyData.strOk e = true → (∀ z ∈ zs, PyData.strOk z = true) → PyData.strOk (Txt.join e zs) = true := by
  intro e zs he h
  rw [TL.join_eq]
  induction zs with
  | nil => show PyData.strOk Str.empty = true; decide +kernel
  | cons x r ih =>
    have hx := h x List.mem_cons_self
    cases r with
    | nil => exact hx
    | cons y r =>
      have i := ih fun z hz => h z (List.mem_cons_of_mem _ hz)
      show PyData.strOk (x ++ e ++ Str.join e (y :: r)) = true
      rw [ok_app, ok_app, hx, he, i]
      rfl
theorem textD_ok {q : List Str} (h : ∀ y ∈ q, PyData.strOk y = true ∧ y.length ≤ 8) (l : q.length ≤ 3) : PyData.strOk (textD q) = true ∧ (textD q).length ≤ 27 := by
  unfold textD
  split
  · exact ⟨by decide +kernel, by show 1 ≤ 27; omega⟩
  · refine ⟨ends_sok (by decide +kernel) fun z m => (h z m).1, ?_⟩
    · have := join_by (e := "+") rfl fun y m => (h y m).2
      omega
theorem RdOk.sm_lines {first : Str} {ends : List Str} {R : Rds} (h : RdOk first ends R) : ∀ z ∈ linesR first ends R, PyData.strOk z = true ∧ z.length ≤ 100 := by
  obtain ⟨n1, n2, n3, _⟩ := h.names
  have k5 : ("read " : Str).length = 5 := rfl
  have k1 : (" " : Str).length = 1 := rfl
  have k6 : ("first " : Str).length = 6 := rfl
  have k4 : ("ends" : Str).length = 4 := rfl
  intro z m
  unfold linesR at m
  rcases List.mem_cons.mp m with rfl | m
  · have := h.f8
    refine ⟨by rw [ok_app, name_sok n1]; decide +kernel, by rw [len_app, k6]; omega⟩
  rcases List.mem_cons.mp m with rfl | m
  · refine ⟨ends_sok (by decide +kernel) fun z m => ?_, ?_⟩
    · rcases List.mem_cons.mp m with rfl | m
      · decide +kernel
      · exact name_sok (n2 z m)
    · have := join_by (e := " ") rfl (m := 8) (zs := "ends" :: ends) fun z m => by
        rcases List.mem_cons.mp m with rfl | m
        · rw [k4]; omega
        · exact h.e8 z m
      rw [List.length_cons] at this
      have := h.le
      omega
  · obtain ⟨r, mr, rfl⟩ := List.mem_map.mp m
    obtain ⟨a1, a2, a3, a4⟩ := h.r8 r mr
    obtain ⟨b1, b2, b3⟩ := n3 r mr
    obtain ⟨t1, t2⟩ := textD_ok (fun y m => ⟨name_sok (b2 y m), a3 y m⟩) a2
    unfold lineR
    refine ⟨?_, ?_⟩
    · have s1 : PyData.strOk ("read " : Str) = true := by decide +kernel
      have s2 : PyData.strOk (" " : Str) = true := by decide +kernel
      rw [ok_app, ok_app, ok_app, ok_app, ok_app, s1, s2, name_sok b1, name_sok b3, t1]
      rfl
    · rw [len_app, len_app, len_app, len_app, len_app, k5, k1]
      omega
/-- what a reader tells, as data -/
def toldRd (first : Str) (ends ys : List Str) (dg : List (List Str)) (R : Rds) : PyData := .tuple [.str first, .tuple (tD ends), .tuple (tD ys), .tuple (dg.map encT), .tuple (tD (linesR first ends R)), .int (ys.length : Nat), .str (strR ys.length R.length)]
theorem num_sok : ∀ n : Fin 301, PyData.strOk ((toString ((n : Nat) : Int) : Str)) = true := by decide +kernel
theorem strR_ok {n m : Nat} (hn : n ≤ 300) (hm : m ≤ 300) : PyData.strOk (strR n m) = true ∧ (strR n m).length ≤ 100 := by
  have a1 := num_sok ⟨n, by omega⟩
  have a2 := num_sok ⟨m, by omega⟩
  have b1 := num_short ⟨n, by omega⟩
  have b2 := num_short ⟨m, by omega⟩
  dsimp only at a1 a2 b1 b2
  have k1 : ("reader with " : Str).length = 12 := rfl
  have k2 : (" states, " : Str).length = 9 := rfl
  have k3 : (" reads" : Str).length = 6 := rfl
  have s1 : PyData.strOk ("reader with " : Str) = true := by decide +kernel
  have s2 : PyData.strOk (" states, " : Str) = true := by decide +kernel
  have s3 : PyData.strOk (" reads" : Str) = true := by decide +kernel
  unfold strR
  refine ⟨by rw [ok_app, ok_app, ok_app, ok_app, s1, s2, s3, a1, a2]; rfl, by rw [len_app, len_app, len_app, len_app, k1, k2, k3]; omega⟩
theorem RdOk.sm_told {first : Str} {ends ys : List Str} {dg : List (List Str)} {R : Rds} (h : RdOk first ends R) (hys : IsSt (statesL first ends R) ys) (hdg : IsDg (R.map fun r => r.1.2) dg) (ld : dg.length ≤ 40) : Sm 100000 10 (toldRd first ends ys dg R) := by
  obtain ⟨n1, n2, n3, _⟩ := h.names
  have six := h.six hys
  have st := h.state_sok
  refine Sm.tup (B := 5000) (k := 4) (n := 7) ?_ (by show 7 ≤ 7; omega) (by omega) (by omega)
  refine sm_cons (Sm.str (name_sok n1) (by have := h.f8; omega)) (sm_cons ((sm_texts (B := 8) (n := 6) (fun z m => ⟨name_sok (n2 z m), h.e8 z m⟩) h.le).up (by omega) (by omega)) (sm_cons ((sm_texts (B := 8) (n := 6) (fun z m => st z ((hys.2.2 z).mp m)) six).up (by omega) (by omega))
    (sm_cons ?_ (sm_cons ((sm_texts (B := 100) (n := 42) h.sm_lines ?_).up (by omega) (by omega)) (sm_cons (Sm.int six (by omega)) (sm_cons (Sm.str (strR_ok (by omega) (by have := h.lr; omega)).1 (Nat.le_trans (strR_ok (by omega) (by have := h.lr; omega)).2 (by omega))) sm_nil))))))
  · refine Sm.tup (B := 27) (k := 1) (n := 40) (fun d m => ?_) (by rw [List.length_map]; exact ld) (by omega) (by omega)
    obtain ⟨q, mq, rfl⟩ := List.mem_map.mp m
    obtain ⟨r, mr, rfl⟩ := List.mem_map.mp ((hdg.2.2 q).mp mq)
    obtain ⟨a1, a2, a3, a4⟩ := h.r8 r mr
    obtain ⟨b1, b2, b3⟩ := n3 r mr
    exact sm_texts (B := 8) (n := 3) (fun y m => ⟨name_sok (b2 y m), a3 y m⟩) a2
  · have := h.lr
    unfold linesR
    rw [List.length_cons, List.length_cons, List.length_map]
    omega
end Kl

set_option maxRecDepth 100000
set_option maxHeartbeats 4000000
namespace Kl
open PySem PySem.Spec PyProof.Rows L2 Gx Mx
theorem ix_listK {X : Cx} {K : PySem.W.Frag} (hk : X.K = K) : IxR X (rIxL K) := by
  subst hk
  exact ix_list
theorem cut_from0 {xs : List V} (n : Nat) : cutV xs (some ((n : Nat) : Int)) none = xs.drop n := by
  unfold cutV
  rw [HT.sIx_nat, HT.sIx_none]
  by_cases h : n ≤ xs.length
  · rw [Nat.min_eq_left h, List.take_of_length_le (by rw [List.length_drop]; omega)]
  · rw [Nat.min_eq_right (by omega), List.drop_of_length_le (Nat.le_refl _), List.drop_of_length_le (show xs.length ≤ n by omega), List.take_nil]
theorem at_word {zs : List Str} {i : Nat} {z : Str} (h : zs[i]? = some z) : atI (zs.map V.str) ((i : Nat) : Int) = some (.str z) := by
  have hi := (List.getElem?_eq_some_iff.mp h).1
  have e1 : ixN (zs.map V.str).length (i : Int) = some i := by
    unfold ixN
    rw [if_pos (Int.natCast_nonneg i), List.length_map]
    simp [hi]
  unfold atI
  rw [e1, Option.bind_some, List.getElem?_map, h]
  rfl
/-! ### _law_all_digits -/
def atD (zs : List Str) (i : Nat) : Str := (zs[i]?).getD ""
def triD (zs : List Str) (i k : Nat) : List (List Str) := [atD zs i, atD zs k] :: (zs.drop k).map fun y => [atD zs i, atD zs k, y]
def rowD (zs : List Str) (i m : Nat) : List (List Str) := [atD zs i] :: (List.range m).flatMap fun k => triD zs i (i + k)
def headD (zs : List Str) (j : Nat) : List (List Str) := [] :: (List.range j).flatMap fun i => rowD zs i (zs.length - i)
def allD (zs : List Str) : List (List Str) := headD zs zs.length
theorem headD_succ (zs : List Str) (j : Nat) : headD zs (j + 1) = headD zs j ++ rowD zs j (zs.length - j) := by
  unfold headD
  rw [List.range_succ, List.flatMap_append, List.flatMap_singleton]
  rfl
theorem rowD_succ (zs : List Str) (i m : Nat) : rowD zs i (m + 1) = rowD zs i m ++ triD zs i (i + m) := by
  unfold rowD
  rw [List.range_succ, List.flatMap_append, List.flatMap_singleton]
  rfl
theorem atD_of {zs : List Str} {i : Nat} {z : Str} (h : zs[i]? = some z) : atD zs i = z := by
  unfold atD
  rw [h]
  rfl
/-- at the addresses of L stand its tuples -/
def TpsAt (K : PySem.W.Frag) (H : Hp) (L : List (Addr × List Str)) : Prop := ∀ q ∈ L, SqT K H q.1 (q.2.map V.str)
theorem TpsAt.same {K : PySem.W.Frag} {H H' : Hp} {L : List (Addr × List Str)} (h : TpsAt K H L) (s : Same H H') : TpsAt K H' L := fun q hq => sqT_same s (h q hq)
theorem TpsAt.upd_ {K : PySem.W.Frag} {G : Hp} {d : Addr} {u : HO} {L : List (Addr × List Str)} (n : ∀ ys, ¬ Rd G d (.tup ys)) (h : TpsAt K G L) : TpsAt K (upd G d u) L := fun q hq => sqT_upd n (h q hq)
theorem TpsAt.app {K : PySem.W.Frag} {H : Hp} {L M : List (Addr × List Str)} (h : TpsAt K H L) (k : TpsAt K H M) : TpsAt K H (L ++ M) := fun q hq => (List.mem_append.mp hq).elim (h q) (k q)
theorem TpsAt.one {K : PySem.W.Frag} {H : Hp} {a : Addr} {ys : List Str} (h : SqT K H a (ys.map V.str)) : TpsAt K H [(a, ys)] := fun q hq => by
  rw [List.mem_singleton.mp hq]
  exact h
section
variable {P : Program} {w : World} {K : PySem.W.Frag} {mg : Str → Option Value} {base : Heap}
def spAD (K : PySem.W.Frag) : Sp := fun vs H Q _ => ∃ (p : Addr) (zs : List Str), vs = [.ref p] ∧ SqL K H p (zs.map V.str) ∧ zs.length ≤ 3 ∧
  ∀ (l : Addr) (L : List (Addr × List Str)) (H' : Hp), Same H H' → H l = none → H' l = some (.lst (L.map fun q => V.ref q.1)) → TpsAt K H' L → L.map (·.2) = allD zs → Q (.ref l) H'
theorem ok_ad {f : Addr} {fd : FuncData} (F : Fun K "_law_all_digits" "_law_all_digits" s_law_all_digits f fd) (T : Top K mg) : FnOk P w K mg base CX0 1 f fd ["_law_names"] (spAD K) := by
  refine F.ok sc_law_all_digits (fun vs H Q E h => ?_) (fun cdv A outer s H vs Q E hr h => ?_)
  · obtain ⟨p, zs, rfl, _⟩ := h
    rfl
  · obtain ⟨p, zs, rfl, hp, hl, q⟩ := h
    refine ⟨_, pss_cut (ps_set (i := 1) sc_law_all_digits.nd rfl (.inl rfl) (pe_lst (pa_cons (pe_tup pa_nil) pa_nil)))
      (pss_cut (ps_for PassesOwn.never rfl (pi_enum (by rfl) T.b_enumerate (pa_cons (pv 0) pa_nil)) (pg_tup (n := 2) rfl (pgs_cons (pg_name (i := 2) sc_law_all_digits.nd rfl (.inl rfl)) (pgs_cons (pg_name (i := 3) sc_law_all_digits.nd rfl (.inr rfl)) pgs_nil)))
        (pss_cut (ps_expr (pe_bm PySem.F.plainAttrs_list PySem.F.slot_list_append PySem.F.type_list_append mt_append (pv 1) (pa_cons (pe_tup (pa_cons (pv 3) pa_nil)) pa_nil)))
        (pss_one (ps_for PassesOwn.never rfl (pi_range2 (by rfl) T.b_range (pa_cons (pv 2) (pa_cons (pe_callB call_len_seq (by rfl) T.b_len PySem.boot_len (pa_cons (pv 0) pa_nil)) pa_nil))) (pg_name (i := 4) sc_law_all_digits.nd rfl (.inr rfl))
          (pss_cut (ps_expr (pe_bm PySem.F.plainAttrs_list PySem.F.slot_list_append PySem.F.type_list_append mt_append (pv 1) (pa_cons (pe_tup (pa_cons (pv 3) (pa_cons (pe_ix ix_list (pv 0) (pv 4) (fun _ _ => rfl)) pa_nil))) pa_nil)))
          (pss_one (ps_expr (pe_bm PySem.F.plainAttrs_list PySem.F.slot_list_extend PySem.F.type_list_extend mt_extend (pv 1) (pa_cons (pe_lc (own := [("_law_more", 5)]) (g := gName 5) (tt := tYes) rfl sc_law_all_digits.nd (pi_list (pe_slice sl_list (pv 0) (po_some (pv 4)) po_none))
              (blkOk_by (N := ["_law_names", "_law_found", "_law_at", "_law_one", "_law_second", "_law_more"]) (sc := defScope s_law_all_digits) (by decide +kernel)) (fun _ _ _ _ _ => pg_name (i := 5) sc_law_all_digits.nd rfl (.inl rfl)) (fun _ _ _ _ _ => pts_nil)
              (fun _ _ _ _ _ => pe_tup (pa_cons (pv 3) (pa_cons (pe_ix (ix_listK (K := K) (by exact rfl)) (pv 0) (pv 4) (fun _ _ => rfl)) (pa_cons (pv 5) pa_nil))))) pa_nil)))))))))
      (pss_one (ps_ret (pv 1)))), ?_⟩
    have big : 100000 ≤ sizeLine := by decide
    refine ⟨fun σ' G => ∃ (l e : Addr), σ' = [some (.ref p), some (.ref l), none, none, none, none] ∧ H l = none ∧ G l = some (.lst [V.ref e]) ∧ SqT K G e [] ∧ Same H G, ?_, ?_⟩
    · refine ⟨Nat.zero_le _, fun e ne => ?_⟩
      have s1 := same_new (o := .tup []) (Same.refl H) ne
      have e1 : (upd H e (.tup [])) e = some (.tup []) := upd_same
      generalize upd H e (.tup []) = G1 at *
      refine ⟨by show 1 ≤ sizeLine; omega, fun l nl => ?_⟩
      have s2 := same_new (o := .lst [V.ref e]) (Same.refl G1) nl
      exact ⟨l, e, rfl, s1.free nl, upd_same, SqT.of (s2 _ _ e1), s1.trans s2⟩
    rintro σ' G1 ⟨l, e, rfl, nl, el, he, s1⟩
    refine ⟨fun σ' G => ∃ (L : List (Addr × List Str)) (t2 t3 t4 t5 : Option V), σ' = [some (.ref p), some (.ref l), t2, t3, t4, t5] ∧ G l = some (.lst (L.map fun q => V.ref q.1)) ∧ TpsAt K G L ∧ L.map (·.2) = allD zs ∧ Same H G, ?_, ?_⟩
    · refine ⟨_, rfl, p, _, rfl, sqL_sameE s1 hp, ?_⟩
      refine for_it (walk_enum (K := K) (a := p) (xs := zs.map V.str)) (fun j σ' G => ∃ (L : List (Addr × List Str)) (t2 t3 t4 t5 : Option V), σ' = [some (.ref p), some (.ref l), t2, t3, t4, t5] ∧ G l = some (.lst (L.map fun q => V.ref q.1)) ∧ TpsAt K G L ∧ L.map (·.2) = headD zs j ∧ Same H G ∧ L.length ≤ 1 + 13 * j)
        ⟨[(e, [])], none, none, none, none, rfl, el, TpsAt.one he, rfl, s1, by show 1 ≤ 1 + 13 * 0; omega⟩ (fun j σ' G _ h => by obtain ⟨_, _, _, _, _, _, _, _, _, s, _⟩ := h; exact sqL_sameE s hp) (fun j v σ' G G2 hj h hy => ?_) (fun σ' G h => ?_)
      · obtain ⟨L, t2, t3, t4, t5, rfl, eF, hT, hL, sm, lL⟩ := h
        obtain ⟨u, x, y, rfl, nu, rfl, hx, hy2⟩ := hy
        cases hx
        have hy2 : (zs.map V.str)[j]? = some y := hy2
        rw [List.getElem?_map] at hy2
        obtain ⟨z, hz, rfl⟩ := Option.map_eq_some_iff.mp hy2
        have hjz : j < zs.length := (List.getElem?_eq_some_iff.mp hz).1
        have s2 := same_new (o := .tup [V.int (j : Nat), V.str z]) (Same.refl G) nu
        have eu : (upd G u (.tup [V.int (j : Nat), V.str z])) u = some (.tup [V.int (j : Nat), V.str z]) := upd_same
        generalize upd G u (.tup [V.int (j : Nat), V.str z]) = G2 at *
        have ejz := atD_of hz
        refine ⟨u, _, rfl, SqT.of eu, rfl, _, _, rfl, _, _, rfl, rfl, ?_⟩
        refine ⟨fun σ' G3 => ∃ L : List (Addr × List Str), σ' = [some (.ref p), some (.ref l), some (.int (j : Nat)), some (.str z), t4, t5] ∧ G3 l = some (.lst (L.map fun q => V.ref q.1)) ∧ TpsAt K G3 L ∧ L.map (·.2) = headD zs j ++ rowD zs j 0 ∧ Same H G3 ∧ L.length ≤ 2 + 13 * j, ?_, ?_⟩
        · refine ⟨_, rfl, ⟨.inl ⟨rfl, _, .inl (.inl (s2 _ _ eF))⟩, ?_⟩⟩
          refine ⟨_, rfl, by show 1 ≤ sizeLine; omega, fun t nt => ?_⟩
          have s3 := same_new (o := .tup [V.str z]) (Same.refl G2) nt
          have et : (upd G2 t (.tup [V.str z])) t = some (.tup [V.str z]) := upd_same
          generalize upd G2 t (.tup [V.str z]) = G3 at *
          have eF3 := s3 _ _ (s2 _ _ eF)
          refine ⟨l, _, _, rfl, rfl, eF3, ?_, L ++ [(t, [z])], rfl, ?_, (((hT.same s2).same s3).upd_ (no_lst eF3)).app (TpsAt.one (sqT_upd (no_lst eF3) (SqT.of et))), ?_, fun b o e => ?_, ?_⟩
          · rw [List.length_map]
            omega
          · rw [upd_same, List.map_append]
            rfl
          · rw [List.map_append, hL]
            unfold rowD
            rw [ejz]
            rfl
          · rw [upd_ne (ne_of_none e nl)]
            exact s3 _ _ (s2 _ _ (sm _ _ e))
          · rw [List.length_append, List.length_singleton]
            omega
        rintro σ' G3 ⟨L3, rfl, eF3, hT3, hL3, sm3, lL3⟩
        refine ⟨_, rfl, _, rfl, p, _, rfl, .inl (sqL_sameE sm3 hp), _, _, rfl, ⟨by omega, by omega, by omega, by rw [List.length_map]; omega⟩, ?_⟩
        have en : (((zs.map V.str).length : Int) - (j : Nat)).toNat = zs.length - j := by rw [List.length_map]; omega
        rw [en]
        refine for_range (lo := (j : Nat)) (fun m σ' G4 => ∃ (L : List (Addr × List Str)) (t4 t5 : Option V), σ' = [some (.ref p), some (.ref l), some (.int (j : Nat)), some (.str z), t4, t5] ∧ G4 l = some (.lst (L.map fun q => V.ref q.1)) ∧ TpsAt K G4 L ∧ L.map (·.2) = headD zs j ++ rowD zs j m ∧ Same H G4 ∧ L.length ≤ 2 + 13 * j + 4 * m)
          ⟨L3, t4, t5, rfl, eF3, hT3, hL3, sm3, by omega⟩ (fun m σ' G4 hm hP => ?_) (fun σ' G4 hP => ?_)
        · obtain ⟨L4, y4, y5, rfl, eF4, hT4, hL4, sm4, lL4⟩ := hP
          have ek : (j : Int) + (m : Nat) = ((j + m : Nat) : Int) := by omega
          rw [ek]
          obtain ⟨y, hy⟩ : ∃ y, zs[j + m]? = some y := ⟨_, List.getElem?_eq_getElem (show j + m < zs.length by omega)⟩
          have ejy := atD_of hy
          have ld : (zs.drop (j + m)).length ≤ 3 := by rw [List.length_drop]; omega
          refine ⟨fun σ' G5 => ∃ L : List (Addr × List Str), σ' = [some (.ref p), some (.ref l), some (.int (j : Nat)), some (.str z), some (.int ((j + m : Nat) : Int)), y5] ∧ G5 l = some (.lst (L.map fun q => V.ref q.1)) ∧ TpsAt K G5 L ∧ L.map (·.2) = headD zs j ++ rowD zs j m ++ [[z, y]] ∧ Same H G5 ∧ L.length ≤ 3 + 13 * j + 4 * m, ?_, ?_⟩
          · refine ⟨_, rfl, ⟨.inl ⟨rfl, _, .inl (.inl eF4)⟩, ?_⟩⟩
            refine ⟨_, rfl, _, rfl, _, rfl, p, _, _, _, rfl, rfl, sqL_sameE sm4 hp, at_word hy, by show 2 ≤ sizeLine; omega, fun t nt => ?_⟩
            have s5 := same_new (o := .tup [V.str z, V.str y]) (Same.refl G4) nt
            have et : (upd G4 t (.tup [V.str z, V.str y])) t = some (.tup [V.str z, V.str y]) := upd_same
            generalize upd G4 t (.tup [V.str z, V.str y]) = G5 at *
            have eF5 := s5 _ _ eF4
            refine ⟨l, _, _, rfl, rfl, eF5, ?_, L4 ++ [(t, [z, y])], rfl, ?_, ((hT4.same s5).upd_ (no_lst eF5)).app (TpsAt.one (sqT_upd (no_lst eF5) (SqT.of et))), ?_, fun b o e => ?_, ?_⟩
            · rw [List.length_map]
              omega
            · rw [upd_same, List.map_append]
              rfl
            · rw [List.map_append, hL4]
              rfl
            · rw [upd_ne (ne_of_none e nl)]
              exact s5 _ _ (sm4 _ _ e)
            · rw [List.length_append, List.length_singleton]
              omega
          rintro σ' G5 ⟨L5, rfl, eF5, hT5, hL5, sm5, lL5⟩
          refine ⟨_, rfl, ⟨.inl ⟨rfl, _, .inl (.inl eF5)⟩, ?_⟩⟩
          refine ⟨_, rfl, _, rfl, _, rfl, p, _, rfl, sqL_sameE sm5 hp, fun k nk => ?_⟩
          rw [cut_from0, ← List.map_drop]
          have s6 := same_new (o := .lst ((zs.drop (j + m)).map V.str)) (Same.refl G5) nk
          have ekl : (upd G5 k (.lst ((zs.drop (j + m)).map V.str))) k = some (.lst ((zs.drop (j + m)).map V.str)) := upd_same
          generalize upd G5 k (.lst ((zs.drop (j + m)).map V.str)) = G6 at *
          have sm6 := sm5.trans s6
          refine ⟨k, rfl, ⟨_, .inl (.inl ekl)⟩, fun D hD => ?_⟩
          have eF6 := s6 _ _ eF5
          have nDl : D ≠ l := fun c => by rw [c, eF6] at hD; cases hD
          refine lc_it (walk_list (K := K) (a := k) (xs := (zs.drop (j + m)).map V.str)) (fun i G7 => ∃ M : List (Addr × List Str), G7 D = some (.lst (M.map fun q => V.ref q.1)) ∧ TpsAt K G7 M ∧ M.map (·.2) = ((zs.drop (j + m)).take i).map (fun x => [z, y, x]) ∧ Same G6 G7)
            ⟨[], upd_same, (fun x hx => nomatch hx), rfl, same_new (Same.refl G6) hD⟩ (fun i G7 _ h => by obtain ⟨_, _, _, _, sm⟩ := h; exact .inl (.inl (sm _ _ ekl))) (fun i v Gx G7 hi h hv => ?_) (fun G7 h => ?_)
          · obtain ⟨M, eD, hM, hMe, s7⟩ := h
            obtain ⟨rfl, hv⟩ := hv
            rw [List.getElem?_map] at hv
            obtain ⟨x, hx, rfl⟩ := Option.map_eq_some_iff.mp hv
            have sm7 := sm6.trans s7
            refine ⟨rfl, _, rfl, _, rfl, _, rfl, p, _, _, _, rfl, rfl, sqL_sameE sm7 hp, at_word hy, _, rfl, by show 3 ≤ sizeLine; omega, fun t nt => ?_⟩
            have s8 := same_new (o := .tup [V.str z, V.str y, V.str x]) (Same.refl G7) nt
            have et : (upd G7 t (.tup [V.str z, V.str y, V.str x])) t = some (.tup [V.str z, V.str y, V.str x]) := upd_same
            generalize upd G7 t (.tup [V.str z, V.str y, V.str x]) = G8 at *
            have eD8 := s8 _ _ eD
            have lM : M.length ≤ 3 := by
              have h4 := congrArg List.length hMe
              rw [List.length_map, List.length_map, List.length_take] at h4
              omega
            refine ⟨_, eD8, by rw [List.length_map]; omega, M ++ [(t, [z, y, x])], ?_, ((hM.same s8).upd_ (no_lst eD8)).app (TpsAt.one (sqT_upd (no_lst eD8) (SqT.of et))), ?_, fun b o e => by rw [upd_ne (ne_of_none e hD)]; exact s8 _ _ (s7 _ _ e)⟩
            · rw [upd_same, List.map_append]
              rfl
            · rw [List.map_append, hMe, List.take_add_one, hx, List.map_append]
              rfl
          · obtain ⟨M, eD, hM, hMe, s7⟩ := h
            rw [List.length_map, List.take_length] at hMe
            have eF7 := s7 _ _ eF6
            have lM : M.length ≤ 3 := by
              have h4 := congrArg List.length hMe
              rw [List.length_map, List.length_map] at h4
              omega
            refine ⟨l, D, _, _, rfl, rfl, eF7, eD, by rw [List.length_map, List.length_map]; omega, L5 ++ M, _, _, rfl, by rw [upd_same, List.map_append], (((hT5.same s6).same s7).app hM).upd_ (no_lst eF7), ?_, fun b o e => ?_, by rw [List.length_append]; omega⟩
            · rw [List.map_append, hL5, hMe, rowD_succ]
              unfold triD
              rw [ejz, ejy, List.append_assoc, List.append_assoc]
              rfl
            · rw [upd_ne (ne_of_none e nl)]
              exact s7 _ _ (sm6 _ _ e)
        · obtain ⟨L4, y4, y5, rfl, eF4, hT4, hL4, sm4, lL4⟩ := hP
          refine ⟨L4, _, _, _, _, rfl, eF4, hT4, ?_, sm4, by omega⟩
          rw [hL4, headD_succ]
      · obtain ⟨L, t2, t3, t4, t5, rfl, eF, hT, hL, sm, lL⟩ := h
        rw [List.length_map] at hL
        exact ⟨L, t2, t3, t4, t5, rfl, eF, hT, hL, sm⟩
    rintro σ' G2 ⟨L, t2, t3, t4, t5, rfl, eF, hT, hL, sm⟩
    exact ⟨_, rfl, q l L G2 sm nl eF hT hL⟩
end
end Kl

set_option maxRecDepth 100000
set_option maxHeartbeats 4000000
namespace Kl
open PySem PySem.Spec PyProof.Rows L2 Gx Mx
/-! ### _law_some_digits -/
def NPOOL : List (List Str) := [["a"], ["a", "b"], ["a", "ab", "b"], ["b", "leaf"], ["zzzzzzzz"]]
def wordB (w : List Str) : Bool := digB w && (decide (w.length ≤ 3) && w.all fun y => decide (y.length ≤ 8) && PyData.strOk y)
theorem npool_ok : NPOOL.all (fun zs => decide (allD zs).Nodup && ((allD zs).all wordB && (decide (zs.length ≤ 3) && decide (2 ≤ (allD zs).length ∧ (allD zs).length ≤ 30)))) = true := by decide +kernel
theorem npool_of {zs : List Str} (h : zs ∈ NPOOL) : (allD zs).Nodup ∧ (∀ w ∈ allD zs, wordB w = true) ∧ zs.length ≤ 3 ∧ 2 ≤ (allD zs).length ∧ (allD zs).length ≤ 30 := by
  have e := List.all_eq_true.mp npool_ok zs h
  simp only [Bool.and_eq_true, decide_eq_true_eq] at e
  exact ⟨e.1, List.all_eq_true.mp e.2.1, e.2.2.1, e.2.2.2.1, e.2.2.2.2⟩
theorem perm_map_inv {α β : Type} {f : α → β} {ys zs : List β} (h : ys.Perm zs) : ∀ {L : List α}, zs = L.map f → ∃ L' : List α, L'.Perm L ∧ ys = L'.map f := by
  induction h with
  | nil =>
    intro L e
    exact ⟨L, .refl _, e⟩
  | cons x h ih =>
    intro L e
    cases L with
    | nil => cases e
    | cons a L =>
      rw [List.map_cons] at e
      obtain ⟨rfl, e2⟩ := List.cons.inj e
      obtain ⟨L', p, rfl⟩ := ih e2
      exact ⟨a :: L', p.cons a, rfl⟩
  | swap x y l =>
    intro L e
    cases L with
    | nil => cases e
    | cons a L =>
      cases L with
      | nil => cases e
      | cons b L =>
        rw [List.map_cons, List.map_cons] at e
        obtain ⟨rfl, e2⟩ := List.cons.inj e
        obtain ⟨rfl, rfl⟩ := List.cons.inj e2
        exact ⟨b :: a :: L, .swap a b L, rfl⟩
  | trans h1 h2 ih1 ih2 =>
    intro L e
    obtain ⟨L1, p1, e1⟩ := ih2 e
    obtain ⟨L2, p2, e2⟩ := ih1 e1
    exact ⟨L2, p2.trans p1, e2⟩
theorem sqT_sx {K : PySem.W.Frag} {G G' : Hp} {d a : Addr} {xs : List V} (hd : DiceAt G d) (s : SameX d G G') (h : SqT K G a xs) : SqT K G' a xs := by
  obtain ⟨x, b, c, e⟩ := hd
  rcases h with (h | ⟨o, h⟩) | h
  · exact .inl (.inl (s _ _ (fun z => by rw [z, e] at h; cases h) h))
  · exact .inl (.inr ⟨o, s _ _ (fun z => by rw [z, e] at h; cases h) h⟩)
  · exact .inr h
theorem TpsAt.sx {K : PySem.W.Frag} {H H' : Hp} {d : Addr} {L : List (Addr × List Str)} (hd : DiceAt H d) (h : TpsAt K H L) (s : SameX d H H') : TpsAt K H' L := fun q hq => sqT_sx hd s (h q hq)
section
variable {P : Program} {w : World} {K : PySem.W.Frag} {mg : Str → Option Value} {base : Heap}
def spSD (K : PySem.W.Frag) : Sp := fun vs H Q _ => ∃ (d : Addr) (n : Nat), vs = [.ref d, .int (n : Nat)] ∧ 0 < n ∧ n ≤ 10 ∧ DiceAt H d ∧
  ∀ (l : Addr) (L : List (Addr × List Str)) (H' : Hp), SameX d H H' → DiceAt H' d → H l = none → H' l = some (.lst (L.map fun q => V.ref q.1)) → TpsAt K H' L → (L.map (·.2)).Nodup → (∀ q ∈ L, wordB q.2 = true) → L.length ≤ n + 1 → Q (.ref l) H'
theorem ok_sd {f : Addr} {fd : FuncData} (F : Fun K "_law_some_digits" "_law_some_digits" s_law_some_digits f fd) (T : Top K mg) : FnOk P w K mg base CX0 3 f fd ["_law_dice_here", "_law_most"] (spSD K) := by
  have cr : Cal P w K mg base 1 "_law_roll" ["_law_dice_here", "_law_total"] spRoll := T.d_law_roll.cal fun f fd F => ok_roll F T
  have cp : Cal P w K mg base 2 "_law_pick" ["_law_dice_here", "_law_items"] (spPick K) := T.d_law_pick.cal fun f fd F => ok_pick F T
  have cm : Cal P w K mg base 2 "_law_mixed" ["_law_dice_here", "_law_items"] (spMixV K) := T.d_law_mixed.cal fun f fd F => ok_mixV F T
  have ca : Cal P w K mg base 1 "_law_all_digits" ["_law_names"] (spAD K) := T.d_law_all_digits.cal fun f fd F => ok_ad F T
  refine F.ok sc_law_some_digits (fun vs H Q E h => ?_) (fun cdv A outer s H vs Q E hr h => ?_)
  · obtain ⟨d, n, rfl, _⟩ := h
    rfl
  · obtain ⟨d, n, rfl, h0, hn, hd, q⟩ := h
    refine ⟨_, pss_cut (ps_set (i := 2) sc_law_some_digits.nd rfl (.inl rfl) (pe_cal cp hr (by rfl) (pa_cons (pv 0) (pa_cons (pe_lst
          (pa_cons (pe_lst (pa_cons pe_str pa_nil)) (pa_cons (pe_lst (pa_cons pe_str (pa_cons pe_str pa_nil))) (pa_cons (pe_lst (pa_cons pe_str (pa_cons pe_str (pa_cons pe_str pa_nil))))
            (pa_cons (pe_lst (pa_cons pe_str (pa_cons pe_str pa_nil))) (pa_cons (pe_lst (pa_cons pe_str pa_nil)) pa_nil)))))) pa_nil))))
      (pss_cut (ps_set (i := 3) sc_law_some_digits.nd rfl (.inl rfl) (pe_cal cm hr (by rfl) (pa_cons (pv 0) (pa_cons (pe_slice sl_list (pe_cal ca (hr.mono (by decide)) (by rfl) (pa_cons (pv 2) pa_nil)) (po_some pe_int) po_none) pa_nil))))
      (pss_one (ps_ret (pe_op op_cat (pe_op op_rep (pe_lst (pa_cons (pe_tup pa_nil) pa_nil)) (pe_callTy call_int1 (by rfl) T.b_int (by decide +kernel) (pa_cons (pe_cmpR op_gt (pe_cal cr (hr.mono (by decide)) (by rfl) (pa_cons (pv 0) (pa_cons pe_int pa_nil))) pe_int (nomark _)) pa_nil)))
        (pe_slice sl_list (pv 3) po_none (po_some (pe_op op_add pe_int (pe_cal cr (hr.mono (by decide)) (by rfl) (pa_cons (pv 0) (pa_cons (pv 1) pa_nil)))))))))), ?_⟩
    have big : 100000 ≤ sizeLine := by decide
    refine ⟨fun σ' G => ∃ (p : Addr) (zs : List Str), σ' = [some (.ref d), some (.int (n : Nat)), some (.ref p), none] ∧ zs ∈ NPOOL ∧ G p = some (.lst (zs.map V.str)) ∧ SameX d H G ∧ DiceAt G d, ?_, ?_⟩
    · refine ⟨_, rfl, ?_⟩
      refine ⟨by show 1 ≤ sizeLine; omega, fun p1 n1 => ?_⟩
      have s1 := same_new (o := .lst [V.str "a"]) (Same.refl H) n1
      have e1 : (upd H p1 (.lst [V.str "a"])) p1 = some (.lst [V.str "a"]) := upd_same
      generalize upd H p1 (.lst [V.str "a"]) = G1 at *
      refine ⟨by show 2 ≤ sizeLine; omega, fun p2 n2 => ?_⟩
      have s2 := same_new (o := .lst [V.str "a", V.str "b"]) (Same.refl G1) n2
      have e2 : (upd G1 p2 (.lst [V.str "a", V.str "b"])) p2 = some (.lst [V.str "a", V.str "b"]) := upd_same
      generalize upd G1 p2 (.lst [V.str "a", V.str "b"]) = G2 at *
      refine ⟨by show 3 ≤ sizeLine; omega, fun p3 n3 => ?_⟩
      have s3 := same_new (o := .lst [V.str "a", V.str "ab", V.str "b"]) (Same.refl G2) n3
      have e3 : (upd G2 p3 (.lst [V.str "a", V.str "ab", V.str "b"])) p3 = some (.lst [V.str "a", V.str "ab", V.str "b"]) := upd_same
      generalize upd G2 p3 (.lst [V.str "a", V.str "ab", V.str "b"]) = G3 at *
      refine ⟨by show 2 ≤ sizeLine; omega, fun p4 n4 => ?_⟩
      have s4 := same_new (o := .lst [V.str "b", V.str "leaf"]) (Same.refl G3) n4
      have e4 : (upd G3 p4 (.lst [V.str "b", V.str "leaf"])) p4 = some (.lst [V.str "b", V.str "leaf"]) := upd_same
      generalize upd G3 p4 (.lst [V.str "b", V.str "leaf"]) = G4 at *
      refine ⟨by show 1 ≤ sizeLine; omega, fun p5 n5 => ?_⟩
      have s5 := same_new (o := .lst [V.str "zzzzzzzz"]) (Same.refl G4) n5
      have e5 : (upd G4 p5 (.lst [V.str "zzzzzzzz"])) p5 = some (.lst [V.str "zzzzzzzz"]) := upd_same
      generalize upd G4 p5 (.lst [V.str "zzzzzzzz"]) = G5 at *
      have s45 := s5
      have s35 := s4.trans s5
      have s25 := s3.trans s35
      have s15 := s2.trans s25
      have s05 := s1.trans s15
      refine ⟨by show 5 ≤ sizeLine; omega, fun pp np => ?_⟩
      have s6 := same_new (o := .lst [V.ref p1, V.ref p2, V.ref p3, V.ref p4, V.ref p5]) (Same.refl G5) np
      have e6 : (upd G5 pp (.lst [V.ref p1, V.ref p2, V.ref p3, V.ref p4, V.ref p5])) pp = some (.lst [V.ref p1, V.ref p2, V.ref p3, V.ref p4, V.ref p5]) := upd_same
      generalize upd G5 pp (.lst [V.ref p1, V.ref p2, V.ref p3, V.ref p4, V.ref p5]) = G6 at *
      have s06 := s05.trans s6
      obtain ⟨x0, b0, c0, e0⟩ := id hd
      have e06 := s06 _ _ e0
      have ndl : ∀ {a : Addr} {xs : List V}, G6 a = some (.lst xs) → (∀ i j k : Int, xs ≠ [V.int i, V.int j, V.int k]) → a ≠ d := fun {a} {xs} e n c => by
        rw [c, e06] at e
        exact n _ _ _ (HO.lst.inj (Option.some.inj e)).symm
      refine ⟨d, _, _, rfl, ⟨_, _, _, e06⟩, .inl ⟨pp, rfl, ndl e6 (fun i j k c => by cases c), .inl (.inl (.inl e6))⟩, (fun c => by cases c), by show 5 ≤ 100000; omega, fun v x b c hv => ?_⟩
      have fin : ∀ (r : Addr) (zs : List Str), zs ∈ NPOOL → G6 r = some (.lst (zs.map V.str)) → ∃ (p : Addr) (zs : List Str), [some (.ref d), some (.int (n : Nat)), some (V.ref r), none] = [some (.ref d), some (.int (n : Nat)), some (.ref p), none] ∧ zs ∈ NPOOL ∧ (upd G6 d (.lst [V.int x, V.int b, V.int c])) p = some (.lst (zs.map V.str)) ∧ SameX d H (upd G6 d (.lst [V.int x, V.int b, V.int c])) ∧ DiceAt (upd G6 d (.lst [V.int x, V.int b, V.int c])) d := fun r zs hz er => by
        have nr : r ≠ d := fun c => by
          rw [c, e06] at er
          have e := HO.lst.inj (Option.some.inj er)
          cases zs with
          | nil => cases e
          | cons y ys => cases e
        exact ⟨r, zs, rfl, hz, by rw [upd_ne nr]; exact er, (SameX.of s06).atd, ⟨_, _, _, upd_same⟩⟩
      have m1 : (["a"] : List Str) ∈ NPOOL := by decide +kernel
      have m2 : (["a", "b"] : List Str) ∈ NPOOL := by decide +kernel
      have m3 : (["a", "ab", "b"] : List Str) ∈ NPOOL := by decide +kernel
      have m4 : (["b", "leaf"] : List Str) ∈ NPOOL := by decide +kernel
      have m5 : (["zzzzzzzz"] : List Str) ∈ NPOOL := by decide +kernel
      simp only [List.mem_cons, List.not_mem_nil, or_false] at hv
      rcases hv with rfl | rfl | rfl | rfl | rfl
      · exact fin p1 _ m1 (s6 _ _ (s15 _ _ e1))
      · exact fin p2 _ m2 (s6 _ _ (s25 _ _ e2))
      · exact fin p3 _ m3 (s6 _ _ (s35 _ _ e3))
      · exact fin p4 _ m4 (s6 _ _ (s45 _ _ e4))
      · exact fin p5 _ m5 (s6 _ _ e5)
    rintro σ' G1 ⟨p, zs, rfl, hz, ep, sx1, hd1⟩
    obtain ⟨ndA, okA, lz, lA2, lA⟩ := npool_of hz
    refine ⟨fun σ' G => ∃ (o : Addr) (L : List (Addr × List Str)), σ' = [some (.ref d), some (.int (n : Nat)), some (.ref p), some (.ref o)] ∧ G o = some (.lst (L.map fun q => V.ref q.1)) ∧ TpsAt K G L ∧ (L.map (·.2)).Perm ((allD zs).drop 1) ∧ SameX d H G ∧ DiceAt G d, ?_, ?_⟩
    · refine ⟨_, rfl, _, rfl, p, zs, rfl, .inl (.inl ep), lz, fun l L G2 s2 nl el hL eL => ?_⟩
      refine ⟨_, rfl, l, _, rfl, .inl (.inl el), fun k nk => ?_⟩
      have ec : cutV (L.map fun q => V.ref q.1) (some 1) none = (L.drop 1).map fun q => V.ref q.1 := by
        rw [List.map_drop]
        exact cut_from0 1
      rw [ec]
      have s3 := same_new (o := .lst ((L.drop 1).map fun q => V.ref q.1)) (Same.refl G2) nk
      have ek : (upd G2 k (.lst ((L.drop 1).map fun q => V.ref q.1))) k = some (.lst ((L.drop 1).map fun q => V.ref q.1)) := upd_same
      generalize upd G2 k (.lst ((L.drop 1).map fun q => V.ref q.1)) = G3 at *
      have s13 := s2.trans s3
      have hd3 : DiceAt G3 d := by
        obtain ⟨x, b, c, e⟩ := hd1
        exact ⟨x, b, c, s13 _ _ e⟩
      have nk1 : G1 k = none := s2.free nk
      have nkd : k ≠ d := dice_ne hd1 nk1
      have lLL : L.length ≤ 30 := by
        have := congrArg List.length eL
        rw [List.length_map] at this
        omega
      refine ⟨d, k, _, rfl, hd3, .inl (.inl (.inl ek)), by rw [List.length_map, List.length_drop]; omega, fun o G4 ys hperm no eo sx4 hd4 => ?_⟩
      obtain ⟨L', pL, rfl⟩ := perm_map_inv hperm rfl
      refine ⟨o, L', rfl, eo, ?_, ?_, (sx1.trans (SameX.of s13)).trans sx4, hd4⟩
      · have h3 : TpsAt K G3 L := hL.same s3
        exact fun q hq => sqT_sx hd3 sx4 (h3 q (List.mem_of_mem_drop (pL.mem_iff.mp hq)))
      · have e := pL.map (·.2)
        rw [List.map_drop, eL] at e
        exact e
    rintro σ' G2 ⟨o, L, rfl, eo, hL, pL, sx2, hd2⟩
    have lL : L.length ≤ 30 := by
      have := pL.length_eq
      rw [List.length_map, List.length_drop] at this
      omega
    refine ⟨Nat.zero_le _, fun e ne => ?_⟩
    have s3 := same_new (o := .tup []) (Same.refl G2) ne
    have ee : (upd G2 e (.tup [])) e = some (.tup []) := upd_same
    generalize upd G2 e (.tup []) = G3 at *
    refine ⟨by show 1 ≤ sizeLine; omega, fun t nt => ?_⟩
    have s4 := same_new (o := .lst [V.ref e]) (Same.refl G3) nt
    have et : (upd G3 t (.lst [V.ref e])) t = some (.lst [V.ref e]) := upd_same
    generalize upd G3 t (.lst [V.ref e]) = G4 at *
    have s24 := s3.trans s4
    have hd4 : DiceAt G4 d := by
      obtain ⟨x, b, c, e⟩ := hd2
      exact ⟨x, b, c, s24 _ _ e⟩
    have ntd : t ≠ d := by
      obtain ⟨x, b, c, e0⟩ := hd4
      intro c
      rw [c, e0] at et
      cases HO.lst.inj (Option.some.inj et)
    have nod : o ≠ d := by
      obtain ⟨x, b, c, e0⟩ := hd2
      intro c
      rw [c, e0] at eo
      have := HO.lst.inj (Option.some.inj eo)
      cases L with
      | nil => cases this
      | cons q L => cases this
    refine ⟨_, rfl, d, 4, rfl, hd4, by decide, by decide, fun r x b c r0 r1 => ?_⟩
    refine ⟨_, _, rfl, rfl, .inr ⟨_, rfl, ?_⟩⟩
    obtain ⟨m, hm, em⟩ : ∃ m : Nat, m ≤ 1 ∧ (if decide (0 < r) = true then (1 : Int) else 0) = (m : Nat) := by
      by_cases c : 0 < r
      · exact ⟨1, by omega, by rw [decide_eq_true c]; rfl⟩
      · exact ⟨0, by omega, by rw [decide_eq_false c]; rfl⟩
    rw [em]
    have ef : (List.replicate ((m : Nat) : Int).toNat [V.ref e]).flatten = (List.replicate m (e, ([] : List Str))).map fun q => V.ref q.1 := by
      rcases (show m = 0 ∨ m = 1 by omega) with rfl | rfl
      · rfl
      · rfl
    have hd5 : DiceAt (upd G4 d (.lst [V.int x, V.int b, V.int c])) d := ⟨_, _, _, upd_same⟩
    have sx5 : SameX d G4 (upd G4 d (.lst [V.int x, V.int b, V.int c])) := (SameX.refl d G4).atd
    have et5 := sx5 _ _ ntd et
    generalize upd G4 d (.lst [V.int x, V.int b, V.int c]) = G5 at *
    refine ⟨t, _, _, rfl, rfl, et5, by omega, by omega, ?_, fun l1 n1 => ?_⟩
    · show 1 * ((m : Nat) : Int).toNat ≤ sizeLine
      omega
    rw [ef]
    have s6 := same_new (o := .lst ((List.replicate m (e, ([] : List Str))).map fun q => V.ref q.1)) (Same.refl G5) n1
    have e16 : (upd G5 l1 (.lst ((List.replicate m (e, ([] : List Str))).map fun q => V.ref q.1))) l1 = some (.lst ((List.replicate m (e, ([] : List Str))).map fun q => V.ref q.1)) := upd_same
    have n1d : l1 ≠ d := dice_ne hd5 n1
    generalize upd G5 l1 (.lst ((List.replicate m (e, ([] : List Str))).map fun q => V.ref q.1)) = G6 at *
    have hd6 : DiceAt G6 d := by
      obtain ⟨x, b, c, e⟩ := hd5
      exact ⟨x, b, c, s6 _ _ e⟩
    refine ⟨_, rfl, _, rfl, _, rfl, d, _, rfl, hd6, by omega, log2_small (by omega), fun r2 x2 b2 c2 h20 h21 => ?_⟩
    obtain ⟨k2, rfl⟩ := Int.eq_ofNat_of_zero_le h20
    have hd7 : DiceAt (upd G6 d (.lst [V.int x2, V.int b2, V.int c2])) d := ⟨_, _, _, upd_same⟩
    have sx7 : SameX d G6 (upd G6 d (.lst [V.int x2, V.int b2, V.int c2])) := (SameX.refl d G6).atd
    generalize upd G6 d (.lst [V.int x2, V.int b2, V.int c2]) = G7 at *
    have sx47 : SameX d G4 G7 := (sx5.trans (SameX.of s6)).trans sx7
    have eo7 := sx47 _ _ nod (s24 _ _ eo)
    refine ⟨_, _, rfl, rfl, _, rfl, o, _, rfl, .inl (.inl eo7), fun l2 n2 => ?_⟩
    have ec : cutV (L.map fun q => V.ref q.1) none (some (1 + (k2 : Int))) = (L.take (1 + k2)).map fun q => V.ref q.1 := by
      rw [List.map_take, show (1 : Int) + (k2 : Int) = ((1 + k2 : Nat) : Int) by omega]
      exact cut_to0 (1 + k2)
    rw [ec]
    have n2d : l2 ≠ d := dice_ne hd7 n2
    have s8 := same_new (o := .lst ((L.take (1 + k2)).map fun q => V.ref q.1)) (Same.refl G7) n2
    have e28 : (upd G7 l2 (.lst ((L.take (1 + k2)).map fun q => V.ref q.1))) l2 = some (.lst ((L.take (1 + k2)).map fun q => V.ref q.1)) := upd_same
    generalize upd G7 l2 (.lst ((L.take (1 + k2)).map fun q => V.ref q.1)) = G8 at *
    have e18 := s8 _ _ (sx7 _ _ n1d e16)
    have hd8 : DiceAt G8 d := by
      obtain ⟨x, b, c, e⟩ := hd7
      exact ⟨x, b, c, s8 _ _ e⟩
    have sx48 : SameX d G4 G8 := sx47.trans (SameX.of s8)
    have lt : (L.take (1 + k2)).length ≤ n := by
      rw [List.length_take]
      omega
    refine ⟨l1, l2, _, _, rfl, rfl, e18, e28, by rw [List.length_map, List.length_map, List.length_replicate]; omega, fun l3 n3 => ?_⟩
    rw [← List.map_append]
    have s9 := same_new (o := .lst ((List.replicate m (e, ([] : List Str)) ++ L.take (1 + k2)).map fun q => V.ref q.1)) (Same.refl G8) n3
    have hsx : SameX d H G8 := (sx2.trans (SameX.of s24)).trans sx48
    have n3d : l3 ≠ d := dice_ne hd8 n3
    refine q l3 (List.replicate m (e, ([] : List Str)) ++ L.take (1 + k2)) _ (hsx.trans (SameX.of s9)) (by obtain ⟨x, b, c, e⟩ := hd8; exact ⟨x, b, c, s9 _ _ e⟩) (hsx.free n3d n3) upd_same ?_ ?_ ?_ ?_
    · refine TpsAt.app (fun q0 hq => ?_) (fun q0 hq => ?_)
      · rw [List.eq_of_mem_replicate hq]
        exact sqT_same s9 (sqT_sx hd4 sx48 (SqT.of (s4 _ _ ee)))
      · exact sqT_same s9 (sqT_sx hd4 sx48 (sqT_same s24 (hL q0 (List.mem_of_mem_take hq))))
    · have nd1 : ((allD zs).drop 1).Nodup := ndA.sublist (List.drop_sublist _ _)
      have ndL : (L.map (·.2)).Nodup := pL.nodup_iff.mpr nd1
      have n0 : ([] : List Str) ∉ L.map (·.2) := fun hc => by
        have h1 := pL.mem_iff.mp hc
        exact (List.nodup_cons.mp ndA).1 h1
      rcases (show m = 0 ∨ m = 1 by omega) with rfl | rfl
      · show ((L.take (1 + k2)).map (·.2)).Nodup
        rw [List.map_take]
        exact ndL.sublist (List.take_sublist _ _)
      · show ([] :: (L.take (1 + k2)).map (·.2)).Nodup
        rw [List.map_take]
        exact List.nodup_cons.mpr ⟨fun hc => n0 (List.mem_of_mem_take hc), ndL.sublist (List.take_sublist _ _)⟩
    · intro q0 hq
      rcases List.mem_append.mp hq with hq | hq
      · rw [List.eq_of_mem_replicate hq]
        exact okA [] List.mem_cons_self
      · exact okA _ (List.mem_of_mem_drop (pL.mem_iff.mp (List.mem_map.mpr ⟨q0, List.mem_of_mem_take hq, rfl⟩)))
    · rw [List.length_append, List.length_replicate]
      omega
end
end Kl

set_option maxRecDepth 100000
set_option maxHeartbeats 4000000
namespace Kl
open PySem PySem.Spec PyProof.Rows L2 Gx Mx
/-! ### the drawn plain reader is one -/
theorem ten_name {z : Str} (h : z ∈ TENS) : nameB z = true := List.all_eq_true.mp tens_ok z h
theorem ten_len {z : Str} (h : z ∈ TENS) : z.length ≤ 8 := of_decide_eq_true (List.all_eq_true.mp tens_short z h)
/-- what a draw gives of a line -/
def LineOk (first : Str) (sm ends : List Str) (r : KW × Str) : Prop := r.1.1 ∈ first :: sm ∧ wordB r.1.2 = true ∧ r.2 ∈ sm ∧ (r.1.2 = [] → r.2 ∉ ends)
theorem rdOk_of {first : Str} {sm ends : List Str} {R : Rds} (nd : (first :: sm).Nodup) (ten : ∀ z ∈ first :: sm, z ∈ TENS) (l6 : sm.length ≤ 5) (es : sortedS ends = true) (en : ends.Nodup) (e0 : ends ≠ []) (esub : ∀ z ∈ ends, z ∈ sm)
    (rn : (R.map (·.1)).Nodup) (rl : R.length ≤ 40) (rk : ∀ r ∈ R, LineOk first sm ends r) : RdOk first ends R := by
  have word : ∀ r ∈ R, digB r.1.2 = true ∧ r.1.2.length ≤ 3 ∧ ∀ y ∈ r.1.2, y.length ≤ 8 := fun r hr => by
    have h := (rk r hr).2.1
    unfold wordB at h
    simp only [Bool.and_eq_true, decide_eq_true_eq, List.all_eq_true] at h
    exact ⟨h.1, h.2.1, fun y hy => (h.2.2 y hy).1⟩
  have hsm : ∀ z ∈ sm, z ∈ TENS := fun z hz => ten z (List.mem_cons_of_mem _ hz)
  have nf : first ∉ sm := (List.nodup_cons.mp nd).1
  refine ⟨fun ys hys => ?_, rn, ?_, rl, ten_len (ten _ List.mem_cons_self), fun z hz => ten_len (hsm z (esub z hz)), fun r hr => ?_⟩
  · have ly : ys.length ≤ (first :: sm).length := nodup_le hys.2.1 fun z hz => by
      have h := (hys.2.2 z).mp hz
      unfold statesL at h
      rcases List.mem_cons.mp h with rfl | h
      · exact List.mem_cons_self
      rcases List.mem_append.mp h with h | h
      · exact List.mem_cons_of_mem _ (esub z h)
      rcases List.mem_append.mp h with h | h
      · obtain ⟨r, hr, rfl⟩ := List.mem_map.mp h
        exact (rk r hr).1
      · obtain ⟨r, hr, rfl⟩ := List.mem_map.mp h
        exact List.mem_cons_of_mem _ (rk r hr).2.2.1
    rw [List.length_cons] at ly
    have ha : ascB ends = true := by
      unfold ascB
      have h1 : ends.all nameB = true := List.all_eq_true.mpr fun z hz => ten_name (hsm z (esub z hz))
      have h2 : 0 < ends.length := List.length_pos_iff.mpr e0
      rw [h1, es, decide_eq_true h2, decide_eq_true en]
      rfl
    have hr : readsB R = true := by
      unfold readsB
      have h1 : R.all lineB = true := List.all_eq_true.mpr fun r hr => by
        unfold lineB
        rw [ten_name (ten _ (rk r hr).1), (word r hr).1, ten_name (hsm _ (rk r hr).2.2.1)]
        rfl
      rw [h1, decide_eq_true (show (R.length : Int) ≤ 40 by omega)]
      rfl
    have hg : R.all (goodB first ends) = true := List.all_eq_true.mpr fun r hr => by
      obtain ⟨_, _, k3, k4⟩ := rk r hr
      unfold goodB
      have h1 : decide (r.2 = first) = false := decide_eq_false fun c => nf (c ▸ k3)
      have h2 : (decide (r.2 ∈ ends) && r.1.2.isEmpty) = false := by
        cases c : r.1.2 with
        | nil => rw [decide_eq_false (k4 c)]; rfl
        | cons y ys => exact Bool.and_false _
      rw [h1, h2]
      rfl
    unfold readerB
    rw [ten_name (ten _ List.mem_cons_self), ha, hr, hg, decide_eq_false (fun c => nf (esub _ c)), decide_eq_true (show (ys.length : Int) ≤ 6 by omega)]
    rfl
  · have := nodup_le en esub
    omega
  · obtain ⟨k1, _, k3, _⟩ := rk r hr
    exact ⟨ten_len (ten _ k1), (word r hr).2.1, (word r hr).2.2, ten_len (hsm _ k3)⟩
end Kl

set_option maxRecDepth 100000
set_option maxHeartbeats 4000000
namespace Kl
open PySem PySem.Spec PyProof.Rows L2 Gx Mx
/-! ### _law_plain_reader -/
theorem merge_new : ∀ (more kvs : List (Key × V)), (more.map (·.1)).Nodup → (∀ k ∈ more.map (·.1), valV kvs k = none) → mergeK kvs more = kvs ++ more
  | [], kvs, _, _ => by unfold mergeK; rw [List.foldl_nil, List.append_nil]
  | p :: r, kvs, nd, hn => by
    rw [List.map_cons, List.nodup_cons] at nd
    have e : mergeK kvs (p :: r) = mergeK (putK kvs p.1 p.2) r := rfl
    have e0 : valV kvs p.1 = none := hn _ (by rw [List.map_cons]; exact List.mem_cons_self)
    rw [e, putK_new _ e0, merge_new r _ nd.2 fun k hk => ?_, List.append_assoc]
    · rfl
    · have hk0 := hn k (by rw [List.map_cons]; exact List.mem_cons_of_mem _ hk)
      rw [valV_snoc _ _ _ _ e0, if_neg (fun (q : k = p.1) => nd.1 (by rw [← q]; exact hk)), hk0]
theorem merge_nil {more : List (Key × V)} (nd : (more.map (·.1)).Nodup) : mergeK [] more = more := merge_new more [] nd fun _ _ => rfl
theorem tens_sok : TENS.all PyData.strOk = true := by decide +kernel
theorem ten_sok {z : Str} (h : z ∈ TENS) : PyData.strOk z = true := List.all_eq_true.mp tens_sok z h
/-- all but d and rd stays -/
def Two (d rd : Addr) (H H' : Hp) : Prop := ∀ b u, b ≠ d → b ≠ rd → H b = some u → H' b = some u
theorem sqT_two {K : PySem.W.Frag} {G G' : Hp} {d rd a : Addr} {xs : List V} (hd : DiceAt G d) (nr : ∀ ys, ¬ Rd G rd (.tup ys)) (t : Two d rd G G') (h : SqT K G a xs) : SqT K G' a xs := by
  obtain ⟨x, b, c, e⟩ := hd
  rcases h with (h | ⟨o, h⟩) | h
  · exact .inl (.inl (t _ _ (fun z => by rw [z, e] at h; cases h) (fun z => nr xs (z ▸ .inl h)) h))
  · exact .inl (.inr ⟨o, t _ _ (fun z => by rw [z, e] at h; cases h) (fun z => nr xs (z ▸ .inr ⟨o, h⟩)) h⟩)
  · exact .inr h
theorem no_dn {P : Program} {w : World} {G : Hp} {d : Addr} {L : NL} (e : G d = some (DN P w d L)) : ∀ ys, ¬ Rd G d (.tup ys) := fun ys h => by
  rcases h with h | ⟨o, h⟩
  · rw [e] at h; cases h
  · rw [e] at h; cases h
theorem RDict.two {P : Program} {w : World} {K : PySem.W.Frag} {G G' : Hp} {d rd : Addr} {R : Rds} (h : RDict P w K G rd R) (hd : DiceAt G d) (t : SameX d G G') (n : rd ≠ d) : RDict P w K G' rd R := by
  obtain ⟨M, h1, h2, h3⟩ := h
  exact ⟨M, t _ _ n h1, fun x hx => (h2 x hx).mono fun _ _ z => sqT_sx hd t z, h3⟩
abbrev NPR : List Str := ["_law_dice_here", "_law_states", "_law_digits", "_law_names", "_law_some", "_law_reads", "_law_ends", "_law_calm", "_law_state", "_law_digit", "_law_pool"]
section
variable {P : Program} {w : World} {K : PySem.W.Frag} {mg : Str → Option Value} {base : Heap}
def spPR (P : Program) (w : World) (K : PySem.W.Frag) : Sp := fun vs H Q _ => ∃ (d g : Addr) (L : List (Addr × List Str)), vs = [.ref d, .int 6, .ref g] ∧ DiceAt H d ∧ H g = some (.lst (L.map fun q => V.ref q.1)) ∧ TpsAt K H L ∧ (L.map (·.2)).Nodup ∧ (∀ q ∈ L, wordB q.2 = true) ∧ L.length ≤ 5 ∧
  ∀ (p el rd : Addr) (first : Str) (ends : List Str) (R : Rds) (H' : Hp), SameX d H H' → DiceAt H' d → PlainAt P w K H' p el rd first ends R → RdOk first ends R → (∀ r ∈ R, ∀ y ∈ r.1.2, PyData.strOk y = true) → (∀ z ∈ statesL first ends R, z ∈ TENS) → Q (.ref p) H'
theorem ok_pr {f : Addr} {fd : FuncData} (F : Fun K "_law_plain_reader" "_law_plain_reader" s_law_plain_reader f fd) (T : Top K mg) : FnOk P w K mg base CX0 4 f fd ["_law_dice_here", "_law_states", "_law_digits"] (spPR P w K) := by
  have cr : Cal P w K mg base 1 "_law_roll" ["_law_dice_here", "_law_total"] spRoll := T.d_law_roll.cal fun f fd F => ok_roll F T
  have cp : Cal P w K mg base 2 "_law_pick" ["_law_dice_here", "_law_items"] (spPick K) := T.d_law_pick.cal fun f fd F => ok_pick F T
  have cs : Cal P w K mg base 3 "_law_state_names" ["_law_dice_here", "_law_many"] spSN := T.d_law_state_names.cal fun f fd F => ok_sn F T
  refine F.ok sc_law_plain_reader (fun vs H Q E h => ?_) (fun cdv A outer s H vs Q E hr h => ?_)
  · obtain ⟨d, g, L, rfl, _⟩ := h
    rfl
  · obtain ⟨d, g, L, rfl, hd, eg, hL, ndL, okL, lL, q⟩ := h
    refine ⟨_, pss_cut (ps_set (i := 3) sc_law_plain_reader.nd rfl (.inl rfl) (pe_cal cs hr (by rfl) (pa_cons (pv 0) (pa_cons (pe_op op_add pe_int (pe_cal cr (hr.mono (by decide)) (by rfl) (pa_cons (pv 0) (pa_cons (pe_op op_sub (pv 1) pe_int) pa_nil)))) pa_nil))))
      (pss_cut (ps_par (i := 4) (j := 5) rfl sc_law_plain_reader.nd rfl rfl (by decide) rfl rfl (pa_cons (pe_slice sl_list (pv 3) (po_some pe_int) po_none) (pa_cons (pe_nnew (P := P) (w := w) (K := K) (by exact ⟨rfl, rfl, rfl⟩)) pa_nil)) rfl)
      (pss_cut (ps_set (i := 6) sc_law_plain_reader.nd rfl (.inr rfl) (pe_callB cr_sortedS (by rfl) T.b_sorted (by decide +kernel) (pa_cons (pe_lc (own := [("_law_state", 8)]) (g := gName 8) rfl sc_law_plain_reader.nd (pi_list (pv 4))
          (blkOk_by (N := NPR) (sc := defScope s_law_plain_reader) (by decide +kernel)) (fun _ _ _ _ _ => pg_name (i := 8) sc_law_plain_reader.nd rfl (.inl rfl))
          (fun _ _ _ _ _ => pts_one (pt_cmpR op_eq (pe_cal cr (hr.mono (by decide)) (by rfl) (pa_cons (pv 0) (pa_cons pe_int pa_nil))) pe_int (nomark _))) (fun _ _ _ _ _ => pv 8)) pa_nil)))
      (pss_cut (ps_set (i := 6) sc_law_plain_reader.nd rfl (.inr rfl) (pe_ifExp (pt_cmpR (op_neD hr.units) (pv 6) (pe_lst pa_nil) (nomark _)) (pv 6) (pe_slice sl_list (pv 4) po_none (po_some pe_int))))
      (pss_cut (ps_setLc (i := 7) (own := [("_law_state", 8)]) (g := gName 8) (by rfl) sc_law_plain_reader.nd rfl rfl (sw_true rfl rfl rfl (by decide +kernel)) (pi_list (pv 4))
          (blkOk_by (N := NPR) (sc := defScope s_law_plain_reader) (by decide +kernel)) (fun _ _ _ _ _ => pg_name (i := 8) sc_law_plain_reader.nd rfl (.inl rfl))
          (fun _ _ _ _ _ => pts_one (pt_cmpR (op_notInK (K := K) (by exact rfl)) (pv 8) (pv 6) (by rfl))) (fun _ _ _ _ _ => pv 8))
      (pss_cut (ps_for PassesOwn.never rfl (pi_list (pv 3)) (pg_name (i := 8) sc_law_plain_reader.nd rfl (.inl rfl))
        (pss_one (ps_for PassesOwn.never rfl (pi_list (pv 2)) (pg_name (i := 9) sc_law_plain_reader.nd rfl (.inl rfl))
          (pss_cut (ps_set (i := 10) sc_law_plain_reader.nd rfl (.inl rfl) (pe_ifExp (pt_cmpR (op_neD hr.units) (pv 9) (pe_tup pa_nil) (nomark _)) (pv 4) (pv 7)))
          (pss_one (ps_if (PW.pt (pw_and (pt_cmpR (op_neD hr.units) (pv 10) (pe_lst pa_nil) (nomark _)) (pw_and1 (pt_cmpR op_gt (pe_cal cr (hr.mono (by decide)) (by rfl) (pa_cons (pv 0) (pa_cons pe_int pa_nil))) pe_int (nomark _)))))
            (pss_one (ps_nput (P := P) (w := w) (K := K) (by exact ⟨rfl, rfl, rfl⟩) (by exact hr.units) (pv 5) (pe_tup (pa_cons (pv 8) (pa_cons (pv 9) pa_nil))) (pe_cal cp (hr.mono (by decide)) (by rfl) (pa_cons (pv 0) (pa_cons (pv 10) pa_nil))) rfl)) pss_nil))))))
      (pss_one (ps_ret (pe_disp (pps_cons pe_str (pe_ix ix_list (pv 3) pe_int (fun _ _ => rfl)) (pps_cons pe_str (pv 6) (pps_cons pe_str (pv 5) pps_nil))) rfl rfl (by decide) (by decide))))))))), ?_⟩
    have big : 100000 ≤ sizeLine := by decide
    -- the names
    refine ⟨fun σ' G => ∃ (nl : Addr) (first : Str) (sm : List Str), σ' = [some (.ref d), some (.int 6), some (.ref g), some (.ref nl), none, none, none, none, none, none, none] ∧ G nl = some (.lst ((first :: sm).map V.str)) ∧ nl ≠ d ∧ (first :: sm).Nodup ∧ (∀ z ∈ first :: sm, z ∈ TENS) ∧ 1 ≤ sm.length ∧ sm.length ≤ 5 ∧ SameX d H G ∧ DiceAt G d, ?_, ?_⟩
    · refine ⟨_, rfl, _, rfl, _, rfl, _, _, rfl, rfl, d, _, rfl, hd, by decide, by decide, fun r x b c r0 r1 => ?_⟩
      obtain ⟨k, rfl⟩ := Int.eq_ofNat_of_zero_le r0
      have hd1 : DiceAt (upd H d (.lst [V.int x, V.int b, V.int c])) d := ⟨_, _, _, upd_same⟩
      have sx1 : SameX d H (upd H d (.lst [V.int x, V.int b, V.int c])) := (SameX.refl d H).atd
      generalize upd H d (.lst [V.int x, V.int b, V.int c]) = G1 at *
      refine ⟨_, _, rfl, rfl, d, 2 + k, ?_, by omega, hd1, fun p zs G2 sx2 hd2 np ep nd ten len => ?_⟩
      · show [V.ref d, V.int (2 + (k : Int))] = [V.ref d, V.int ((2 + k : Nat) : Int)]
        rw [show (2 : Int) + (k : Int) = ((2 + k : Nat) : Int) by omega]
      cases zs with
      | nil => rw [List.length_nil] at len; omega
      | cons first sm =>
        rw [List.length_cons] at len
        exact ⟨p, first, sm, rfl, ep, dice_ne hd1 np, nd, ten, by omega, by omega, sx1.trans sx2, hd2⟩
    rintro σ' G1 ⟨nl, first, sm, rfl, en, nnd, nd, ten, l1, l5, sx1, hd1⟩
    have nsm : sm.Nodup := (List.nodup_cons.mp nd).2
    -- the others, no lines yet
    refine ⟨fun σ' G => ∃ (sl rd : Addr), σ' = [some (.ref d), some (.int 6), some (.ref g), some (.ref nl), some (.ref sl), some (.ref rd), none, none, none, none, none] ∧ G sl = some (.lst (sm.map V.str)) ∧ sl ≠ d ∧ G rd = some (DN P w rd []) ∧ rd ≠ d ∧ G1 rd = none ∧ Same G1 G, ?_, ?_⟩
    · refine ⟨_, rfl, _, rfl, nl, _, rfl, .inl (.inl en), fun sl nsl => ?_⟩
      have ec : cutV ((first :: sm).map V.str) (some 1) none = sm.map V.str := cut_from0 1
      rw [ec]
      have s2 := same_new (o := .lst (sm.map V.str)) (Same.refl G1) nsl
      have e2 : (upd G1 sl (.lst (sm.map V.str))) sl = some (.lst (sm.map V.str)) := upd_same
      have nd2 := dice_ne hd1 nsl
      generalize upd G1 sl (.lst (sm.map V.str)) = G2 at *
      refine fun rd nrd => ?_
      have s3 := same_new (o := DN P w rd []) (Same.refl G2) nrd
      have nr1 : G1 rd = none := s2.free nrd
      exact ⟨_, _, rfl, sl, rd, rfl, s3 _ _ e2, nd2, upd_same, dice_ne hd1 nr1, nr1, s2.trans s3⟩
    rintro σ' G2 ⟨sl, rd, rfl, esl, nsd, erd, nrd, nr1, s2⟩
    have hd2 : DiceAt G2 d := by
      obtain ⟨x, b, c, e⟩ := hd1
      exact ⟨x, b, c, s2 _ _ e⟩
    have en2 := s2 _ _ en
    have sx2 : SameX d H G2 := sx1.trans (SameX.of s2)
    -- the ends drawn
    refine ⟨fun σ' G => ∃ (el : Addr) (es : List Str), σ' = [some (.ref d), some (.int 6), some (.ref g), some (.ref nl), some (.ref sl), some (.ref rd), some (.ref el), none, none, none, none] ∧ G el = some (.lst (es.map V.str)) ∧ el ≠ d ∧ sortedS es = true ∧ es.Nodup ∧ (∀ z ∈ es, z ∈ sm) ∧ SameX d G2 G ∧ DiceAt G d, ?_, ?_⟩
    · refine ⟨_, rfl, sl, rfl, ⟨_, .inl (.inl esl)⟩, fun D hD => ?_⟩
      have nDd : D ≠ d := dice_ne hd2 hD
      refine lc_it (g := gName 8) (vs := [8]) (walk_list (K := K) (a := sl) (xs := sm.map V.str)) (fun j G => ∃ fs : List Str, G D = some (.lst (fs.map V.str)) ∧ fs.Sublist (sm.take j) ∧ SameX d G2 G ∧ DiceAt G d) ⟨[], upd_same, List.nil_sublist _, (SameX.refl d G2).at hD, by obtain ⟨x, b, c, e⟩ := hd2; exact ⟨x, b, c, by rw [upd_ne (Ne.symm nDd)]; exact e⟩⟩ (fun j G _ h => by obtain ⟨_, _, _, sx, _⟩ := h; exact .inl (.inl (sx _ _ nsd esl))) (fun j v Gx G hj h hy => ?_) (fun G h => ?_)
      · obtain ⟨fs, eD, hfs, sx, hd3⟩ := h
        obtain ⟨rfl, hv⟩ := hy
        rw [List.getElem?_map] at hv
        obtain ⟨y, hy, rfl⟩ := Option.map_eq_some_iff.mp hv
        have et : sm.take (j + 1) = sm.take j ++ [y] := by rw [List.take_add_one, hy]; rfl
        refine ⟨rfl, _, rfl, d, 2, rfl, hd3, by decide, by decide, fun r x b c r0 r1 => ?_⟩
        have hd4 : DiceAt (upd G d (.lst [V.int x, V.int b, V.int c])) d := ⟨_, _, _, upd_same⟩
        have sx4 : SameX d G (upd G d (.lst [V.int x, V.int b, V.int c])) := (SameX.refl d G).atd
        generalize upd G d (.lst [V.int x, V.int b, V.int c]) = G4 at *
        have eD4 := sx4 _ _ nDd eD
        refine ⟨rfl, _, rfl, ite2 (fun c0 => ?_) (fun c0 => ?_)⟩
        · have lfs : fs.length ≤ 5 := by
            have := hfs.length_le
            rw [List.length_take] at this
            omega
          refine ⟨_, rfl, _, eD4, by rw [List.length_map]; omega, fs ++ [y], ?_, ?_, ?_, ?_⟩
          · rw [upd_same, List.map_append]
            rfl
          · rw [et]
            exact hfs.append (List.Sublist.refl _)
          · exact fun b' u n e => by rw [upd_ne (ne_of_none e hD)]; exact sx4 _ _ n (sx _ _ n e)
          · obtain ⟨x, b, c, e⟩ := hd4
            exact ⟨x, b, c, by rw [upd_ne (Ne.symm nDd)]; exact e⟩
        · exact ⟨fs, eD4, by rw [et]; exact hfs.trans (List.sublist_append_left _ _), sx.trans sx4, hd4⟩
      · obtain ⟨fs, eD, hfs, sx, hd3⟩ := h
        rw [List.length_map, List.take_length] at hfs
        have lfs := hfs.length_le
        refine ⟨D, fs, rfl, .inl (.inl eD), by omega, fun es el hp hs nel => ?_⟩
        have ned := dice_ne hd3 nel
        have s5 := same_new (o := .lst (es.map V.str)) (Same.refl G) nel
        exact ⟨el, es, rfl, upd_same, ned, hs, hp.nodup_iff.mpr (nsm.sublist hfs), fun z hz => hfs.subset (hp.mem_iff.mp hz), sx.trans (SameX.of s5), by obtain ⟨x, b, c, e⟩ := hd3; exact ⟨x, b, c, s5 _ _ e⟩⟩
    rintro σ' G3 ⟨e1, es1, rfl, ee1, nee1, hs1, hn1, hsub1, sx3, hd3⟩
    have en3 := sx3 _ _ nnd en2
    have esl3 := sx3 _ _ nsd esl
    have erd3 := sx3 _ _ nrd erd
    -- .. or the first
    refine ⟨fun σ' G => ∃ (el : Addr) (es : List Str), σ' = [some (.ref d), some (.int 6), some (.ref g), some (.ref nl), some (.ref sl), some (.ref rd), some (.ref el), none, none, none, none] ∧ G el = some (.lst (es.map V.str)) ∧ el ≠ d ∧ sortedS es = true ∧ es.Nodup ∧ es ≠ [] ∧ (∀ z ∈ es, z ∈ sm) ∧ Same G3 G, ?_, ?_⟩
    · refine ⟨_, rfl, Nat.zero_le _, fun t nt => ?_⟩
      have s4 := same_new (o := .lst []) (Same.refl G3) nt
      have et : (upd G3 t (.lst [])) t = some (.lst []) := upd_same
      generalize upd G3 t (.lst []) = G4 at *
      refine ⟨.list (tD es1), .list (tD []), .lst (.inl (.inl (s4 _ _ ee1))) (dp_texts es1), .lst (.inl (.inl et)) (dp_texts []), ?_, ?_, _, rfl, ?_⟩
      · exact shaped_texts fun z hz => ten_sok (ten z (List.mem_cons_of_mem _ (hsub1 z hz)))
      · exact shaped_texts fun z hz => nomatch hz
      rw [PyData.eqv, eqv_texts]
      by_cases c : es1 = []
      · rw [decide_eq_true c]
        refine ite2 (fun c1 => by cases c1) (fun _ => ?_)
        refine ⟨_, rfl, _, rfl, sl, _, rfl, .inl (.inl (s4 _ _ esl3)), fun l nl1 => ?_⟩
        have ec : cutV (sm.map V.str) none (some 1) = (sm.take 1).map V.str := by
          rw [List.map_take]
          exact cut_to0 1
        rw [ec]
        have s5 := same_new (o := .lst ((sm.take 1).map V.str)) (Same.refl G4) nl1
        refine ⟨l, sm.take 1, rfl, upd_same, ?_, ?_, nsm.sublist (List.take_sublist _ _), ?_, fun z hz => List.mem_of_mem_take hz, s4.trans s5⟩
        · exact dice_ne hd3 (s4.free nl1)
        · cases sm with
          | nil => rfl
          | cons y ys => rfl
        · cases sm with
          | nil => rw [List.length_nil] at l1; omega
          | cons y ys => intro c2; cases c2
      · rw [decide_eq_false c]
        refine ite2 (fun _ => ?_) (fun c1 => absurd rfl c1)
        exact ⟨_, rfl, e1, es1, rfl, s4 _ _ ee1, nee1, hs1, hn1, c, hsub1, s4⟩
    rintro σ' G4 ⟨el, es, rfl, eel, neel, hs, hn, hne, hsub, s4⟩
    -- the calm
    refine ⟨fun σ' G => ∃ (cl : Addr) (cs : List Str), σ' = [some (.ref d), some (.int 6), some (.ref g), some (.ref nl), some (.ref sl), some (.ref rd), some (.ref el), some (.ref cl), none, none, none] ∧ G cl = some (.lst (cs.map V.str)) ∧ cl ≠ d ∧ cs.length ≤ 5 ∧ (∀ z ∈ cs, z ∈ sm ∧ z ∉ es) ∧ Same G4 G, ?_, ?_⟩
    · refine ⟨_, rfl, sl, rfl, ⟨_, .inl (.inl (s4 _ _ esl3))⟩, fun D hD => ?_⟩
      have hd4 : DiceAt G4 d := by
        obtain ⟨x, b, c, e⟩ := hd3
        exact ⟨x, b, c, s4 _ _ e⟩
      have nDd : D ≠ d := dice_ne hd4 hD
      refine lc_it (g := gName 8) (vs := [8]) (walk_list (K := K) (a := sl) (xs := sm.map V.str)) (fun j G => ∃ fs : List Str, G D = some (.lst (fs.map V.str)) ∧ fs.length ≤ j ∧ (∀ z ∈ fs, z ∈ sm ∧ z ∉ es) ∧ Same G4 G) ⟨[], upd_same, Nat.zero_le _, (fun z hz => nomatch hz), same_new (Same.refl G4) hD⟩ (fun j G _ h => by obtain ⟨_, _, _, _, sm0⟩ := h; exact .inl (.inl (sm0 _ _ (s4 _ _ esl3)))) (fun j v Gx G hj h hy => ?_) (fun G h => ?_)
      · obtain ⟨fs, eD, lfs, hfs, sm0⟩ := h
        obtain ⟨rfl, hv⟩ := hy
        rw [List.getElem?_map] at hv
        obtain ⟨y, hy, rfl⟩ := Option.map_eq_some_iff.mp hv
        have hj5 : j < 5 := by rw [List.length_map] at hj; omega
        refine ⟨rfl, _, rfl, _, rfl, el, _, rfl, .inl (.inl (.inl (sm0 _ _ eel))), rfl, flat_tx es, !decide (y ∈ es), congrArg V.bl (by rw [← inV_tx y es]; rfl), ?_⟩
        by_cases c : y ∈ es
        · rw [decide_eq_true c]
          refine ite2 (fun c1 => by cases c1) (fun _ => ?_)
          exact ⟨fs, eD, by omega, hfs, sm0⟩
        · rw [decide_eq_false c]
          refine ite2 (fun _ => ?_) (fun c1 => absurd rfl c1)
          refine ⟨_, rfl, _, eD, by rw [List.length_map]; omega, fs ++ [y], ?_, ?_, ?_, fun b u e => by rw [upd_ne (ne_of_none e hD)]; exact sm0 b u e⟩
          · rw [upd_same, List.map_append]
            rfl
          · rw [List.length_append, List.length_singleton]
            omega
          · intro z hz
            rcases List.mem_append.mp hz with hz | hz
            · exact hfs z hz
            · rw [List.mem_singleton.mp hz]
              exact ⟨List.mem_of_getElem? hy, c⟩
      · obtain ⟨fs, eD, lfs, hfs, sm0⟩ := h
        rw [List.length_map] at lfs
        exact ⟨D, fs, rfl, eD, nDd, by omega, hfs, sm0⟩
    rintro σ' G5 ⟨cl, cs', rfl, ecl, ncl, lcs, hcs, s5⟩
    have s35 := s4.trans s5
    have hd5 : DiceAt G5 d := by
      obtain ⟨x, b, c, e⟩ := hd3
      exact ⟨x, b, c, s35 _ _ e⟩
    have sx5 : SameX d H G5 := (sx2.trans sx3).trans (SameX.of s35)
    have ngd : g ≠ d := by
      obtain ⟨x, b, c, e0⟩ := hd
      intro c
      rw [c, e0] at eg
      have := HO.lst.inj (Option.some.inj eg)
      cases L with
      | nil => cases this
      | cons q L => cases this
    have eg5 := sx5 _ _ ngd eg
    have hL5 : TpsAt K G5 L := hL.sx hd sx5
    have en5 := s35 _ _ en3
    have esl5 := s35 _ _ esl3
    have erd5 := s35 _ _ erd3
    have eel5 := s5 _ _ eel
    have nrl : ∀ {a : Addr} {xs : List V}, G5 a = some (.lst xs) → a ≠ rd := fun {a} {xs} e z => by
      rw [z, erd5] at e
      cases e
    -- the lines
    refine ⟨fun σ' G => ∃ (R : Rds) (t8 t9 t10 : Option V), σ' = [some (.ref d), some (.int 6), some (.ref g), some (.ref nl), some (.ref sl), some (.ref rd), some (.ref el), some (.ref cl), t8, t9, t10] ∧ RDict P w K G rd R ∧ (R.map (·.1)).Nodup ∧ R.length ≤ 30 ∧ (∀ r ∈ R, LineOk first sm es r) ∧ Two d rd G5 G ∧ DiceAt G d, ?_, ?_⟩
    · refine ⟨_, rfl, nl, rfl, ⟨_, .inl (.inl en5)⟩, ?_⟩
      refine for_it (walk_list (K := K) (a := nl) (xs := (first :: sm).map V.str)) (fun i σ' G => ∃ (R : Rds) (t8 t9 t10 : Option V), σ' = [some (.ref d), some (.int 6), some (.ref g), some (.ref nl), some (.ref sl), some (.ref rd), some (.ref el), some (.ref cl), t8, t9, t10] ∧ RDict P w K G rd R ∧ (R.map (·.1)).Nodup ∧ R.length ≤ 5 * i ∧ (∀ r ∈ R, LineOk first sm es r) ∧ Two d rd G5 G ∧ DiceAt G d ∧ (∀ r ∈ R, ∃ i', i' < i ∧ (first :: sm)[i']? = some r.1.1))
        ⟨[], none, none, none, rfl, ⟨[], erd5, (fun x hx => nomatch hx), rfl⟩, List.nodup_nil, Nat.zero_le _, (fun r hr => nomatch hr), (fun _ _ _ _ e => e), hd5, (fun r hr => nomatch hr)⟩ (fun i σ' G _ h => by obtain ⟨_, _, _, _, _, _, _, _, _, tw, _⟩ := h; exact .inl (.inl (tw _ _ nnd (nrl en5) en5))) (fun i v σ' G G' hi h hy => ?_) (fun σ' G h => ?_)
      · obtain ⟨R, t8, t9, t10, rfl, hR, hRn, hRl, hRo, tw, hdG, hRi⟩ := h
        obtain ⟨rfl, hv⟩ := hy
        rw [List.getElem?_map] at hv
        obtain ⟨z, hz, rfl⟩ := Option.map_eq_some_iff.mp hv
        refine ⟨_, rfl, g, rfl, ⟨_, .inl (.inl (tw _ _ ngd (nrl eg5) eg5))⟩, ?_⟩
        refine for_it (walk_list (K := K) (a := g) (xs := L.map fun q => V.ref q.1)) (fun j σ' G => ∃ (R : Rds) (t9 t10 : Option V), σ' = [some (.ref d), some (.int 6), some (.ref g), some (.ref nl), some (.ref sl), some (.ref rd), some (.ref el), some (.ref cl), some (.str z), t9, t10] ∧ RDict P w K G rd R ∧ (R.map (·.1)).Nodup ∧ R.length ≤ 5 * i + j ∧ (∀ r ∈ R, LineOk first sm es r) ∧ Two d rd G5 G ∧ DiceAt G d ∧ (∀ r ∈ R, (∃ i', i' < i ∧ (first :: sm)[i']? = some r.1.1) ∨ (r.1.1 = z ∧ ∃ j', j' < j ∧ (L.map (·.2))[j']? = some r.1.2)))
          ⟨R, t9, t10, rfl, hR, hRn, hRl, hRo, tw, hdG, fun r hr => .inl (hRi r hr)⟩ (fun j σ' G _ h => by obtain ⟨_, _, _, _, _, _, _, _, tw, _⟩ := h; exact .inl (.inl (tw _ _ ngd (nrl eg5) eg5))) (fun j v σ' G G' hj h hy => ?_) (fun σ' G h => ?_)
        · obtain ⟨R, t9, t10, rfl, hR, hRn, hRl, hRo, tw, hdG, hRi⟩ := h
          obtain ⟨rfl, hv⟩ := hy
          rw [List.getElem?_map] at hv
          obtain ⟨q0, hq0, rfl⟩ := Option.map_eq_some_iff.mp hv
          obtain ⟨ad, wd⟩ := q0
          have mq := List.mem_of_getElem? hq0
          have okw : wordB wd = true := okL _ mq
          have sok : ∀ y ∈ wd, PyData.strOk y = true := fun y hy => by
            unfold wordB at okw
            simp only [Bool.and_eq_true, List.all_eq_true] at okw
            exact (okw.2.2 y hy).2
          have hi6 : i < 6 := by rw [List.length_map, List.length_cons] at hi; omega
          have hj5 : j < 5 := by rw [List.length_map] at hj; omega
          have had : SqT K G' ad (wd.map V.str) := sqT_two hd5 (no_dn erd5) tw (hL5 _ mq)
          refine ⟨fun σ' G => ∃ (pl : Addr) (ps : List Str), σ' = [some (.ref d), some (.int 6), some (.ref g), some (.ref nl), some (.ref sl), some (.ref rd), some (.ref el), some (.ref cl), some (.str z), some (.ref ad), some (.ref pl)] ∧ G pl = some (.lst (ps.map V.str)) ∧ pl ≠ d ∧ ps.length ≤ 5 ∧ (∀ y ∈ ps, y ∈ sm ∧ (wd = [] → y ∉ es)) ∧ Same G' G, ?_, ?_⟩
          · refine ⟨_, rfl, Nat.zero_le _, fun t nt => ?_⟩
            have s6 := same_new (o := .tup []) (Same.refl G') nt
            have et : (upd G' t (.tup [])) t = some (.tup []) := upd_same
            generalize upd G' t (.tup []) = G6 at *
            refine ⟨.tuple (tD wd), .tuple (tD []), .tup (sqT_same s6 had) (dp_texts wd), .tup (SqT.of et) (dp_texts []), shaped_textsT sok, shaped_textsT (fun z hz => nomatch hz), _, rfl, ?_⟩
            rw [PyData.eqv, eqv_texts]
            by_cases c : wd = []
            · rw [decide_eq_true c]
              refine ite2 (fun c1 => by cases c1) (fun _ => ?_)
              exact ⟨_, rfl, cl, cs', rfl, s6 _ _ (tw _ _ ncl (nrl ecl) ecl), ncl, lcs, fun y hy => ⟨(hcs y hy).1, fun _ => (hcs y hy).2⟩, s6⟩
            · rw [decide_eq_false c]
              refine ite2 (fun _ => ?_) (fun c1 => absurd rfl c1)
              exact ⟨_, rfl, sl, sm, rfl, s6 _ _ (tw _ _ nsd (nrl esl5) esl5), nsd, l5, fun y hy => ⟨hy, fun e => absurd e c⟩, s6⟩
          rintro σ' G6 ⟨pl, ps, rfl, epl, npl, lps, hps, s6⟩
          have hR6 : RDict P w K G6 rd R := hR.same s6
          have tw6 : Two d rd G5 G6 := fun b u n1 n2 e => s6 _ _ (tw b u n1 n2 e)
          have hd6 : DiceAt G6 d := by
            obtain ⟨x, b, c, e⟩ := hdG
            exact ⟨x, b, c, s6 _ _ e⟩
          refine ⟨_, rfl, Nat.zero_le _, fun t nt => ?_⟩
          have s7 := same_new (o := .lst []) (Same.refl G6) nt
          have et : (upd G6 t (.lst [])) t = some (.lst []) := upd_same
          generalize upd G6 t (.lst []) = G7 at *
          have epl7 := s7 _ _ epl
          have hR7 : RDict P w K G7 rd R := hR6.same s7
          have tw7 : Two d rd G5 G7 := fun b u n1 n2 e => s7 _ _ (tw6 b u n1 n2 e)
          have hd7 : DiceAt G7 d := by
            obtain ⟨x, b, c, e⟩ := hd6
            exact ⟨x, b, c, s7 _ _ e⟩
          have had7 : SqT K G7 ad (wd.map V.str) := sqT_same s7 (sqT_same s6 had)
          have keep : ∀ G8 : Hp, RDict P w K G8 rd R → Two d rd G5 G8 → DiceAt G8 d → ∃ (R : Rds) (t9 t10 : Option V), [some (.ref d), some (.int 6), some (.ref g), some (.ref nl), some (.ref sl), some (.ref rd), some (.ref el), some (.ref cl), some (.str z), some (.ref ad), some (.ref pl)] = [some (.ref d), some (.int 6), some (.ref g), some (.ref nl), some (.ref sl), some (.ref rd), some (.ref el), some (.ref cl), some (.str z), t9, t10] ∧ RDict P w K G8 rd R ∧ (R.map (·.1)).Nodup ∧ R.length ≤ 5 * i + (j + 1) ∧ (∀ r ∈ R, LineOk first sm es r) ∧ Two d rd G5 G8 ∧ DiceAt G8 d ∧ (∀ r ∈ R, (∃ i', i' < i ∧ (first :: sm)[i']? = some r.1.1) ∨ (r.1.1 = z ∧ ∃ j', j' < j + 1 ∧ (L.map (·.2))[j']? = some r.1.2)) := fun G8 h1 h2 h3 => by
            refine ⟨R, _, _, rfl, h1, hRn, by omega, hRo, h2, h3, fun r hr => ?_⟩
            rcases hRi r hr with h | ⟨h, j', k1, k2⟩
            · exact .inl h
            · exact .inr ⟨h, j', by omega, k2⟩
          refine ⟨.list (tD ps), .list (tD []), .lst (.inl (.inl epl7)) (dp_texts ps), .lst (.inl (.inl et)) (dp_texts []), shaped_texts (fun y hy => ten_sok (ten y (List.mem_cons_of_mem _ (hps y hy).1))), shaped_texts (fun z hz => nomatch hz), _, rfl, ?_⟩
          rw [PyData.eqv, eqv_texts]
          by_cases c : ps = []
          · rw [decide_eq_true c]
            refine ite2 (fun c1 => by cases c1) (fun _ => ?_)
            exact ite2 (fun c1 => by cases c1) (fun _ => keep G7 hR7 tw7 hd7)
          rw [decide_eq_false c]
          refine ite2 (fun _ => ?_) (fun c1 => absurd rfl c1)
          refine ⟨_, rfl, d, 5, rfl, hd7, by decide, by decide, fun r x b c0 r0 r1 => ?_⟩
          have hd8 : DiceAt (upd G7 d (.lst [V.int x, V.int b, V.int c0])) d := ⟨_, _, _, upd_same⟩
          have sx8 : SameX d G7 (upd G7 d (.lst [V.int x, V.int b, V.int c0])) := (SameX.refl d G7).atd
          generalize upd G7 d (.lst [V.int x, V.int b, V.int c0]) = G8 at *
          have hR8 : RDict P w K G8 rd R := hR7.two hd7 sx8 nrd
          have tw8 : Two d rd G5 G8 := fun b u n1 n2 e => sx8 _ _ n1 (tw7 b u n1 n2 e)
          have epl8 := sx8 _ _ npl epl7
          have had8 : SqT K G8 ad (wd.map V.str) := sqT_sx hd7 sx8 had7
          refine ⟨_, _, rfl, rfl, _, rfl, ite2 (fun _ => ?_) (fun _ => keep G8 hR8 tw8 hd8)⟩
          refine ⟨_, rfl, _, rfl, d, _, ps.map V.str, rfl, hd8, .inl ⟨pl, rfl, npl, .inl (.inl (.inl epl8))⟩, (fun e => c (List.map_eq_nil_iff.mp e)), by rw [List.length_map]; omega, fun v x2 b2 c2 hv => ?_⟩
          obtain ⟨y, hy, rfl⟩ := List.mem_map.mp hv
          have hd9 : DiceAt (upd G8 d (.lst [V.int x2, V.int b2, V.int c2])) d := ⟨_, _, _, upd_same⟩
          have sx9 : SameX d G8 (upd G8 d (.lst [V.int x2, V.int b2, V.int c2])) := (SameX.refl d G8).atd
          generalize upd G8 d (.lst [V.int x2, V.int b2, V.int c2]) = G9 at *
          have hR9 : RDict P w K G9 rd R := hR8.two hd8 sx9 nrd
          have tw9 : Two d rd G5 G9 := fun b u n1 n2 e => sx9 _ _ n1 (tw8 b u n1 n2 e)
          have had9 : SqT K G9 ad (wd.map V.str) := sqT_sx hd8 sx9 had8
          refine ⟨_, rfl, _, rfl, _, rfl, by show 2 ≤ sizeLine; omega, fun q1 nq => ?_⟩
          have s10 := same_new (o := .tup [V.str z, V.ref ad]) (Same.refl G9) nq
          have eq1 : (upd G9 q1 (.tup [V.str z, V.ref ad])) q1 = some (.tup [V.str z, V.ref ad]) := upd_same
          generalize upd G9 q1 (.tup [V.str z, V.ref ad]) = G10 at *
          obtain ⟨M, eM, kM, hM⟩ := hR9.same s10
          have lM := prM_len hM
          have hk : KeyA K G10 q1 (keyK (z, wd)) := keyK_at.mpr ⟨ad, SqT.of eq1, sqT_same s10 had9⟩
          have hnk : (z, wd) ∉ R.map (·.1) := fun hc => by
            obtain ⟨r, hr, e⟩ := List.mem_map.mp hc
            have e1 : r.1.1 = z := by rw [e]
            have e2 : r.1.2 = wd := by rw [e]
            rcases hRi r hr with ⟨i', k1, k2⟩ | ⟨_, j', k1, k2⟩
            · rw [e1] at k2
              have := (List.getElem?_inj (List.getElem?_eq_some_iff.mp k2).1 nd).mp (k2.trans hz.symm)
              omega
            · rw [e2] at k2
              have h3 : (L.map (·.2))[j]? = some wd := by rw [List.getElem?_map, hq0]; rfl
              have := (List.getElem?_inj (List.getElem?_eq_some_iff.mp k2).1 ndL).mp (k2.trans h3.symm)
              omega
          have hnM : (z, wd) ∉ M.map (·.1) := fun hc => hnk (by
            have e := congrArg (List.map Prod.fst) hM
            unfold prM at e
            rw [List.map_map, List.map_map] at e
            have e' : M.map (·.1) = R.map (·.1) := e
            rw [← e']
            exact hc)
          refine ⟨rd, q1, toN M, keyK (z, wd), rfl, rfl, eM, fun e he => ?_, hk, ?_, ?_⟩
          · obtain ⟨m, hm, rfl⟩ := List.mem_map.mp he
            exact kM m hm
          · rw [toN_len]
            omega
          rw [putN_to, putM_new hnM]
          have tw10 : Two d rd G5 G10 := fun b u n1 n2 e => s10 _ _ (tw9 b u n1 n2 e)
          refine ⟨R ++ [((z, wd), y)], _, _, rfl, ⟨M ++ [((z, wd), q1, V.str y)], upd_same, fun m hm => ?_, ?_⟩, ?_, by rw [List.length_append, List.length_singleton]; omega, fun r hr => ?_, fun b u n1 n2 e => by rw [upd_ne n2]; exact tw10 b u n1 n2 e, ?_, fun r hr => ?_⟩
          · rcases List.mem_append.mp hm with hm | hm
            · exact (kM m hm).mono fun _ _ h => sqT_upd (no_dn eM) h
            · rw [List.mem_singleton.mp hm]
              exact hk.mono fun _ _ h => sqT_upd (no_dn eM) h
          · unfold prM at hM ⊢
            rw [List.map_append, List.map_append, hM]
            rfl
          · rw [List.map_append]
            exact List.nodup_append.mpr ⟨hRn, List.nodup_cons.mpr ⟨fun h => (nomatch h), List.nodup_nil⟩, fun a ha b hb e => hnk (by
              have : b = (z, wd) := List.mem_singleton.mp hb
              rw [← this, ← e]
              exact ha)⟩
          · rcases List.mem_append.mp hr with hr | hr
            · exact hRo r hr
            · rw [List.mem_singleton.mp hr]
              exact ⟨List.mem_of_getElem? hz, okw, (hps y hy).1, (hps y hy).2⟩
          · obtain ⟨x, b, c, e⟩ := hd9
            exact ⟨x, b, c, by rw [upd_ne (Ne.symm nrd)]; exact s10 _ _ e⟩
          · rcases List.mem_append.mp hr with hr | hr
            · rcases hRi r hr with h | ⟨h, j', k1, k2⟩
              · exact .inl h
              · exact .inr ⟨h, j', by omega, k2⟩
            · rw [List.mem_singleton.mp hr]
              exact .inr ⟨rfl, j, by omega, by rw [List.getElem?_map, hq0]; rfl⟩
        · obtain ⟨R, t9, t10, rfl, hR, hRn, hRl, hRo, tw, hdG, hRi⟩ := h
          rw [List.length_map] at hRl
          refine ⟨R, _, t9, t10, rfl, hR, hRn, by omega, hRo, tw, hdG, fun r hr => ?_⟩
          rcases hRi r hr with ⟨i', h1, h2⟩ | ⟨h1, _⟩
          · exact ⟨i', by omega, h2⟩
          · exact ⟨i, by omega, by rw [h1]; exact hz⟩
      · obtain ⟨R, t8, t9, t10, rfl, hR, hRn, hRl, hRo, tw, hdG, hRi⟩ := h
        rw [List.length_map, List.length_cons] at hRl
        exact ⟨R, t8, t9, t10, rfl, hR, hRn, by omega, hRo, tw, hdG⟩
    rintro σ' G6 ⟨R, t8, t9, t10, rfl, hR, hRn, hRl, hRo, tw, hd6⟩
    have nd5 : G6 nl = some (.lst ((first :: sm).map V.str)) := tw _ _ nnd (nrl en5) en5
    have eel6 : G6 el = some (.lst (es.map V.str)) := tw _ _ neel (nrl eel5) eel5
    refine fun p np => ?_
    have nd6 : (upd G6 p (.dK [])) nl = some (.lst ((first :: sm).map V.str)) := by
      rw [upd_ne (ne_of_none nd5 np)]
      exact nd5
    refine ⟨_, rfl, nl, _, _, _, rfl, rfl, .inl (.inl nd6), at_word (i := 0) (z := first) rfl, _, rfl, _, rfl, upd_same, plF first el rd, rfl, by show 3 ≤ 15; omega, ?_⟩
    rw [merge_nil (by show (([Sum.inr "first", Sum.inr "ends", Sum.inr "reads"] : List Key)).Nodup; decide +kernel)]
    have sl : Same G6 (upd (upd G6 p (.dK [])) p (.dK (plF first el rd))) := fun b o e => by rw [upd_ne (ne_of_none e np), upd_ne (ne_of_none e np)]; exact e
    have sxF : SameX d H G6 := fun b u n e => by
      by_cases c : b = rd
      · exfalso
        have h1 := sx1 _ _ n e
        rw [c, nr1] at h1
        cases h1
      · exact tw b u n c (sx5 _ _ n e)
    refine q p el rd first es R _ (sxF.trans (SameX.of sl)) (by obtain ⟨x, b, c, e⟩ := hd6; exact ⟨x, b, c, sl _ _ e⟩) ⟨upd_same, .inl (.inl (sl _ _ eel6)), hR.same sl⟩ (rdOk_of nd ten l5 hs hn hne hsub hRn (by omega) hRo) (fun r hr y hy => ?_) (fun z hz => ?_)
    · have h := (hRo r hr).2.1
      unfold wordB at h
      simp only [Bool.and_eq_true, List.all_eq_true] at h
      exact (h.2.2 y hy).2
    · unfold statesL at hz
      rcases List.mem_cons.mp hz with rfl | hz
      · exact ten _ List.mem_cons_self
      rcases List.mem_append.mp hz with hz | hz
      · exact ten _ (List.mem_cons_of_mem _ (hsub z hz))
      rcases List.mem_append.mp hz with hz | hz
      · obtain ⟨r, hr, rfl⟩ := List.mem_map.mp hz
        exact ten _ (hRo r hr).1
      · obtain ⟨r, hr, rfl⟩ := List.mem_map.mp hz
        exact ten _ (List.mem_cons_of_mem _ (hRo r hr).2.2.1)
end
end Kl

set_option maxRecDepth 100000
set_option maxHeartbeats 4000000
/-! ### repr of data, the text named: no two long texts are ever compared -/
namespace Gx
open PySem PySem.Spec PyProof.Rows L2
section
variable {X : Cx}
def rReprE (K : PySem.W.Frag) : List V → Hp → VK → Prop := fun xs H Q => ∃ (x : V) (d : PyData) (S : Str), xs = [x] ∧ Dp K H x d ∧ (d.showable = true ∧ d.hasDict = false ∧ d.depth ≤ 60 ∧ d.shown.length ≤ sizeLine) ∧ d.shown = S ∧ Q (.str S) H
theorem call_reprE (g : Gd X.A) (hu : X.A.units + 64 < cLine) : CallR X (.builtin "repr") (rReprE X.K) := by
  intro pins s σ H xs us Q I r h
  obtain ⟨x, d, S, e, hd, ⟨h1, h2, h3, h4⟩, rfl, q⟩ := h
  exact call_reprD g hu pins s σ H xs us Q I r ⟨x, d, e, hd, h1, h2, h3, h4, q⟩
end
end Gx

set_option maxRecDepth 100000
set_option maxHeartbeats 4000000
namespace Kl
open PySem PySem.Spec PyProof.Rows L2 Gx Mx
theorem sqL_sx {K : PySem.W.Frag} {G G' : Hp} {d a : Addr} {xs : List Str} (hd : DiceAt G d) (s : SameX d G G') (h : SqL K G a (xs.map V.str)) : SqL K G' a (xs.map V.str) := by
  obtain ⟨x, b, c, e⟩ := hd
  rcases h with (h | ⟨o, h⟩) | h
  · refine .inl (.inl (s _ _ (fun z => ?_) h))
    rw [z, e] at h
    have h' := HO.lst.inj (Option.some.inj h)
    cases xs with
    | nil => cases h'
    | cons y ys => cases h'
  · exact .inl (.inr ⟨o, s _ _ (fun z => by rw [z, e] at h; cases h) h⟩)
  · exact .inr h
theorem PlainAt.sx {P : Program} {w : World} {K : PySem.W.Frag} {H H' : Hp} {d p el rd : Addr} {first : Str} {ends : List Str} {R : Rds} (h : PlainAt P w K H p el rd first ends R) (hd : DiceAt H d) (s : SameX d H H') : PlainAt P w K H' p el rd first ends R := by
  obtain ⟨h1, h2, L, h3, h4, h5⟩ := h
  obtain ⟨x, b, c, e⟩ := id hd
  exact ⟨s _ _ (fun z => by rw [z, e] at h1; cases h1) h1, sqL_sx hd s h2, L, s _ _ (fun z => by rw [z, e] at h3; cases h3) h3, fun y m => (h4 y m).mono fun _ _ q => sqT_sx hd s q, h5⟩
theorem paired_imp {α β : Type} {A B : α → β → Prop} {as : List α} {bs : List β} (h : Paired A as bs) (i : ∀ a b, A a b → B a b) : Paired B as bs := by
  induction h with
  | nil => exact .nil
  | cons h _ ih => exact .cons (i _ _ h) ih
abbrev NTD : List Str := ["_law_dice_here", "_law_plain", "_law_reads", "_law_reader", "_law_told", "_law_states", "_law_digits", "_law_lines", "_law_line", "_law_due", "_law_read"]
section
variable {P : Program} {w : World} {K : PySem.W.Frag} {mg : Str → Option Value} {base : Heap}
/-! ### _law_told_right -/
def spTD (P : Program) (w : World) (K : PySem.W.Frag) : Sp := fun vs H Q _ => ∃ (d p el rd : Addr) (first : Str) (ends : List Str) (R : Rds), vs = [.ref d, .ref p] ∧ DiceAt H d ∧ PlainAt P w K H p el rd first ends R ∧ RdOk first ends R ∧
  ∀ H', SameX d H H' → DiceAt H' d → Q (.bl true) H'
theorem ok_td {C f : Addr} {fd : FuncData} (F : Fun K "_law_told_right" "_law_told_right" s_law_told_right f fd) (T : Top K mg) (TC : Cl_Reader K mg C) : FnG P w K mg base CX0 11 f fd ["_law_dice_here", "_law_plain"] (spTD P w K) := by
  have cI : CalI P w K mg base C 8 ["self", "first", "ends", "reads"] (spRInit P w K C) := by
    obtain ⟨f, fd, M, F, b⟩ := TC.made
    exact ⟨f, fd, M, ok_rinit F T TC, b⟩
  have cm : Cal P w K mg base 2 "_law_mixed" ["_law_dice_here", "_law_items"] (spMixV K) := T.d_law_mixed.cal fun f fd F => ok_mixV F T
  have cst : Cal P w K mg base 1 "_law_reader_states" ["_law_plain"] (spRSt P w K) := T.d_law_reader_states.cal fun f fd F => ok_rst F T
  have cdg : Cal P w K mg base 1 "_law_reader_digits" ["_law_plain"] (spRDg P w K) := T.d_law_reader_digits.cal fun f fd F => ok_rdg F T
  have cls : Cal P w K mg base 2 "_law_reader_lines" ["_law_plain"] (spRLs P w K) := T.d_law_reader_lines.cal fun f fd F => ok_rls F T
  have cmr : Cal P w K mg base 10 "_law_made_reader" ["_law_plain"] (spMade P w K C) := T.d_law_made_reader.cal fun f fd F => ok_made F T TC
  have kFi : CalP P w K mg base C "first" 1 (spRFirst P w K C) := TC.p_first.cal fun f fd F => ok_rfirst F TC
  have kEn : CalP P w K mg base C "ends" 1 (spREnds P w K C) := TC.p_ends.cal fun f fd F => ok_rends F TC
  have kSt : CalP P w K mg base C "states" 1 (spRStates P w K C) := TC.p_states.cal fun f fd F => ok_rstates F TC
  have kDg : CalP P w K mg base C "digits" 1 (spRDigs P w K C) := TC.p_digits.cal fun f fd F => ok_rdigs F T TC
  have kLi : CalP P w K mg base C "lines" 2 (spRLines P w K C) := TC.p_lines.cal fun f fd F => ok_rlines F T TC
  have kRe : CalP P w K mg base C "reads" 1 (spRReads P w K C) := TC.p_reads.cal fun f fd F => ok_rreads F TC
  have kLn : CalM P w K mg base C "__len__" 1 ["self"] (spRLen P w K C) := TC.m_len.cal fun f fd F => ok_rlen F T TC
  have kSr : CalM P w K mg base C "__str__" 1 ["self"] (spRStr P w K C) := TC.m_str.cal fun f fd F => ok_rstr F T TC
  have kEq : CalM P w K mg base C "__eq__" 1 ["self", "other"] (spREq P w K C) := TC.m_eq.cal fun f fd F => ok_req F T TC
  refine okG F sc_law_told_right (fun vs H Q E h => ?_) (fun cdv A outer s H vs Q E hg hr h => ?_)
  · obtain ⟨d, p, el, rd, first, ends, R, rfl, _⟩ := h
    rfl
  · obtain ⟨d, p, el, rd, first, ends, R, rfl, hd, hP, hok, q⟩ := h
    have r1 := hr.mono (show 2 ≤ 10 by decide)
    have r2 := hr.mono (show 3 ≤ 10 by decide)
    refine ⟨_, pss_cut (ps_set (i := 2) sc_law_told_right.nd rfl (.inl rfl) (pe_callTy (call_dictN (P := P) (w := w) (K := K) (by exact ⟨rfl, rfl, rfl⟩) rfl (by exact hr.units)) (by rfl) T.b_dict (by decide +kernel) (pa_cons
          (pe_lc (own := [("_law_read", 10)]) (g := gName 10) (tt := tYes) rfl sc_law_told_right.nd (pi_list (pe_cal cm (hr.mono (by decide)) (by rfl) (pa_cons (pv 0) (pa_cons (pe_callB (cr_sortedN (P := P) (w := w) (K := K) (by exact ⟨rfl, rfl, rfl⟩) rfl (by exact hr.units)) (by rfl) T.b_sorted (by decide +kernel) (pa_cons (pe_dget (hu' hr) (pv 1) pe_str (fun _ _ => rfl)) pa_nil)) pa_nil))))
            (blkOk_by (N := NTD) (sc := defScope s_law_told_right) (by decide +kernel)) (fun _ _ _ _ _ => pg_name (i := 10) sc_law_told_right.nd rfl (.inl rfl)) (fun _ _ _ _ _ => pts_nil)
            (fun _ _ _ _ _ => pe_tup (pa_cons (pv 10) (pa_cons (pe_nget (P := P) (w := w) (K := K) (by exact ⟨rfl, rfl, rfl⟩) (by exact hr.units) (pe_dget (by exact hu' hr) (pv 1) pe_str (fun _ _ => rfl)) (pv 10) (by intro _ _; rfl)) pa_nil)))) pa_nil)))
      (pss_cut (ps_set (i := 3) sc_law_told_right.nd rfl (.inl rfl) (pe_makeC cI (hr.mono (by decide)) (by rfl) TC.gC (pa_cons (pe_dget (hu' hr) (pv 1) pe_str (fun _ _ => rfl)) (pa_cons (pe_callTy call_tuple_of (by rfl) T.b_tuple (by decide +kernel) (pa_cons (pe_dget (hu' hr) (pv 1) pe_str (fun _ _ => rfl)) pa_nil)) (pa_cons (pv 2) pa_nil)))))
      (pss_cut (ps_set (i := 4) sc_law_told_right.nd rfl (.inl rfl) (pe_propC (pv 3) TC.cl kRe r1 rfl))
      (pss_cut (ps_if (PW.pt (pw_or (pt_cmpR (op_neD hr.units) (pe_callTy (cr_listN (P := P) (w := w) (K := K) (by exact ⟨rfl, rfl, rfl⟩) rfl) (by rfl) T.b_list (by decide +kernel) (pa_cons (pv 4) pa_nil))
              (pe_callB (cr_sortedN (P := P) (w := w) (K := K) (by exact ⟨rfl, rfl, rfl⟩) rfl (by exact hr.units)) (by rfl) T.b_sorted (by decide +kernel) (pa_cons (pe_dget (hu' hr) (pv 1) pe_str (fun _ _ => rfl)) pa_nil)) (by rfl))
          (pw_or (pt_cmpR (op_neN (P := P) (w := w) (K := K) (by exact ⟨rfl, rfl, rfl⟩) hr.units) (pv 4) (pe_dget (hu' hr) (pv 1) pe_str (fun _ _ => rfl)) (by rfl))
            (pw_or1 (pt_cmpR (op_neN (P := P) (w := w) (K := K) (by exact ⟨rfl, rfl, rfl⟩) hr.units) (pv 2) (pe_dget (hu' hr) (pv 1) pe_str (fun _ _ => rfl)) (by rfl)))))) (pss_one (ps_ret pe_bl)) pss_nil)
      (pss_cut (ps_expr (pe_nclear (P := P) (w := w) (K := K) (by exact ⟨rfl, rfl, rfl⟩) (pv 4)))
      (pss_cut (ps_expr (pe_nclear (P := P) (w := w) (K := K) (by exact ⟨rfl, rfl, rfl⟩) (pv 2)))
      (pss_cut (ps_par (i := 5) (j := 6) rfl sc_law_told_right.nd rfl rfl (by decide) rfl rfl (pa_cons (pe_cal cst (hr.mono (by decide)) (by rfl) (pa_cons (pv 1) pa_nil)) (pa_cons (pe_cal cdg (hr.mono (by decide)) (by rfl) (pa_cons (pv 1) pa_nil)) pa_nil)) (by kernel_rfl))
      (pss_cut (ps_set (i := 7) sc_law_told_right.nd rfl (.inl rfl) (pe_cal cls (hr.mono (by decide)) (by rfl) (pa_cons (pv 1) pa_nil)))
      (pss_cut (ps_set (i := 8) sc_law_told_right.nd rfl (.inl rfl) (pe_op op_add_str (pe_op op_add_str (pe_op op_add_str (pe_op op_add_str pe_str (pe_callTy call_str_int (by rfl) T.b_str (by decide +kernel) (pa_cons (pe_callB call_len_seq (by rfl) T.b_len PySem.boot_len (pa_cons (pv 5) pa_nil)) pa_nil))) pe_str)
          (pe_callTy call_str_int (by rfl) T.b_str (by decide +kernel) (pa_cons (pe_callB (call_lenN (P := P) (w := w) (K := K) (by exact ⟨rfl, rfl, rfl⟩)) (by rfl) T.b_len PySem.boot_len (pa_cons (pe_dget (hu' hr) (pv 1) pe_str (fun _ _ => rfl)) pa_nil)) pa_nil))) pe_str))
      (pss_cut (ps_set (i := 4) sc_law_told_right.nd rfl (.inl rfl) (pe_tup (pa_cons (pe_propC (pv 3) TC.cl kFi r1 rfl) (pa_cons (pe_propC (pv 3) TC.cl kEn r1 rfl) (pa_cons (pe_propC (pv 3) TC.cl kSt r1 rfl) (pa_cons (pe_propC (pv 3) TC.cl kDg r1 rfl) (pa_cons (pe_propC (pv 3) TC.cl kLi r2 rfl)
          (pa_cons (pe_callB (call_lenM kLn r1) (by rfl) T.b_len PySem.boot_len (pa_cons (pv 3) pa_nil)) (pa_cons (pe_callTy (call_strM kSr r2) (by rfl) T.b_str (by decide +kernel) (pa_cons (pv 3) pa_nil)) pa_nil)))))))))
      (pss_cut (ps_set (i := 9) sc_law_told_right.nd rfl (.inl rfl) (pe_tup (pa_cons (pe_dget (hu' hr) (pv 1) pe_str (fun _ _ => rfl)) (pa_cons (pe_callTy call_tuple_of (by rfl) T.b_tuple (by decide +kernel) (pa_cons (pe_dget (hu' hr) (pv 1) pe_str (fun _ _ => rfl)) pa_nil)) (pa_cons (pe_callTy call_tuple_of (by rfl) T.b_tuple (by decide +kernel) (pa_cons (pv 5) pa_nil)) (pa_cons (pe_callTy call_tuple_of (by rfl) T.b_tuple (by decide +kernel) (pa_cons (pv 6) pa_nil))
          (pa_cons (pe_callTy call_tuple_of (by rfl) T.b_tuple (by decide +kernel) (pa_cons (pv 7) pa_nil)) (pa_cons (pe_callB call_len_seq (by rfl) T.b_len PySem.boot_len (pa_cons (pv 5) pa_nil)) (pa_cons (pv 8) pa_nil)))))))))
      (pss_one (ps_ret (pe_and (pe_cmpR op_eq (pe_callB (call_reprE hg hr.units) (by rfl) T.b_repr (by decide +kernel) (pa_cons (pv 4) pa_nil)) (pe_callB (call_reprE hg hr.units) (by rfl) T.b_repr (by decide +kernel) (pa_cons (pv 9) pa_nil)) (by rfl))
        (pe_and (pe_cmpR (op_eqN (P := P) (w := w) (K := K) (by exact ⟨rfl, rfl, rfl⟩) hr.units) (pe_propC (pv 3) TC.cl kRe r1 rfl) (pe_dget (hu' hr) (pv 1) pe_str (fun _ _ => rfl)) (by rfl))
          (pe_one (pe_cmpR (op_eqM kEq (hr.mono (by decide))) (pv 3) (pe_cal cmr hr (by rfl) (pa_cons (pv 1) pa_nil)) (by rfl))))))))))))))))), ?_⟩
    have big : 100000 ≤ sizeLine := by decide
    have kN : ∀ {G : Hp} {L : ML}, (∀ x ∈ L, KeyA K G x.2.1 (keyK x.1)) → ∀ z ∈ toN L, KeyA K G z.2.1 z.1 := fun hk z hz => by
      obtain ⟨z', hz', rfl⟩ := List.mem_map.mp hz
      exact hk z' hz'
    -- the lines again, in a drawn order
    refine ⟨fun σ' G => ∃ (D : Addr) (R1 : Rds), σ' = [some (.ref d), some (.ref p), some (.ref D), none, none, none, none, none, none, none, none] ∧ R1.Perm R ∧ RDict P w K G D R1 ∧ H D = none ∧ SameX d H G ∧ DiceAt G d, ?_, ?_⟩
    · obtain ⟨hp, he, ⟨L, hdL, hkL, hL⟩⟩ := id hP
      have lenL := prM_len hL
      have lr := hok.lr
      have ndL := ml_nodup hL hok.nd
      refine ⟨_, rfl, _, rfl, p, _, rfl, pg3 hp, rd, L, rfl, ⟨.inl hdL, kN hkL⟩, by omega, fun L1 kl pm srt nk => ?_⟩
      have s1 := same_new (o := .lst (L1.map fun x => V.ref x.2.1)) (Same.refl H) nk
      have e1 : (upd H kl (.lst (L1.map fun x => V.ref x.2.1))) kl = some (.lst (L1.map fun x => V.ref x.2.1)) := upd_same
      generalize upd H kl (.lst (L1.map fun x => V.ref x.2.1)) = G1 at *
      have hd1 := dice_sm s1 hd
      refine ⟨d, kl, _, rfl, hd1, .inl (.inl (.inl e1)), by rw [List.length_map, pm.length_eq]; omega, fun o G2 ys pm2 no eo sx2 hd2 => ?_⟩
      obtain ⟨L2, pL2, rfl⟩ := perm_back pm2 rfl
      have P2 := (hP.same s1).sx hd1 sx2
      obtain ⟨hp2, he2, L9, hd9, hk9, hL9⟩ := id P2
      have sx02 : SameX d H G2 := (SameX.of s1).trans sx2
      have nrd : rd ≠ d := fun z => by
        obtain ⟨x, b, c, e⟩ := hd
        rw [z, e] at hdL; cases hdL
      have hdL2 : G2 rd = some (DN P w rd (toN L)) := sx02 _ _ nrd hdL
      have hkL2 : ∀ x ∈ L, KeyA K G2 x.2.1 (keyK x.1) := fun x m => (keyA_same s1 (hkL x m)).mono fun _ _ q => sqT_sx hd1 sx2 q
      have pmL : L2.Perm L := pL2.trans pm
      refine ⟨o, rfl, ⟨_, .inl (.inl eo)⟩, fun D0 hD0 => ?_⟩
      have s3 : Same G2 (upd G2 D0 (.lst [])) := same_new (Same.refl G2) hD0
      refine lc_it (g := gName 10) (vs := [10]) (walk_list (K := K) (a := o) (xs := L2.map fun x => V.ref x.2.1)) (fun j G => ∃ ps : List Addr, G D0 = some (.lst (ps.map V.ref)) ∧ Paired (fun p (e : NestedKey × Addr × V) => SqT K G p [V.ref e.2.1, e.2.2]) ps (toN (L2.take j)) ∧ Same G2 G) ⟨[], upd_same, .nil, s3⟩ (fun j G _ h => by obtain ⟨_, _, _, sm⟩ := h; exact .inl (.inl (sm _ _ eo))) (fun j v Gx G hj h hy => ?_) (fun G h => ?_)
      · obtain ⟨ps, eD, hps, sm⟩ := h
        obtain ⟨rfl, hv⟩ := hy
        rw [List.getElem?_map] at hv
        obtain ⟨y, hy, rfl⟩ := Option.map_eq_some_iff.mp hv
        have hyL : y ∈ L := pmL.mem_iff.mp (List.mem_of_getElem? hy)
        obtain ⟨i, hi⟩ := List.mem_iff_getElem?.mp hyL
        have hg : getN (toN L) (keyK y.1) = some y.2.2 := getN_own ndL hi
        have lps : ps.length = (L2.take j).length := by rw [hps.length, toN_len]
        have l2 := pmL.length_eq
        refine ⟨rfl, _, rfl, _, rfl, p, _, rfl, pg3 (sm _ _ hp2), _, rfl, rd, y.2.1, toN L, keyK y.1, y.2.2, rfl, rfl, ⟨.inl (sm _ _ hdL2), kN fun x m => keyA_same sm (hkL2 x m)⟩, keyA_same sm (hkL2 y hyL), hg, by show 2 ≤ sizeLine; omega, fun t nt => ?_⟩
        have s5 := same_new (o := .tup [V.ref y.2.1, y.2.2]) (Same.refl G) nt
        refine ⟨_, s5 _ _ eD, by rw [List.length_map, lps, List.length_take]; omega, ps ++ [t], ?_, ?_, ?_⟩
        · rw [upd_same, List.map_append]
          rfl
        · have et : toN (L2.take (j + 1)) = toN (L2.take j) ++ [(keyK y.1, y.2)] := by
            rw [List.take_add_one, hy]
            unfold toN
            rw [List.map_append]
            rfl
          rw [et]
          have ntD : t ≠ D0 := fun z => by rw [z, eD] at nt; cases nt
          have kp : ∀ {a : Addr} {xs : List V}, SqT K (upd G t (.tup [V.ref y.2.1, y.2.2])) a xs → SqT K (upd (upd G t (.tup [V.ref y.2.1, y.2.2])) D0 (.lst (ps.map V.ref ++ [V.ref t]))) a xs := fun {a xs} q => by
            rcases q with (q | ⟨u, q⟩) | q
            · exact .inl (.inl (by rw [upd_ne (fun z => by rw [z, s5 _ _ eD] at q; cases q)]; exact q))
            · exact .inl (.inr ⟨u, by rw [upd_ne (fun z => by rw [z, s5 _ _ eD] at q; cases q)]; exact q⟩)
            · exact .inr q
          exact Paired.snoc (paired_imp hps fun _ _ q => kp (sqT_same s5 q)) (kp (SqT.of upd_same))
        · exact fun b u e => by
            rw [upd_ne (ne_of_none e hD0)]
            exact s5 _ _ (sm _ _ e)
      · obtain ⟨ps, eD, hps, sm⟩ := h
        rw [List.length_map, List.take_length] at hps
        refine ⟨D0, ps, toN L2, rfl, .inl (.inl eD), hps, kN fun x m => keyA_same sm (hkL2 x (pmL.mem_iff.mp m)), fun D nD => ?_⟩
        have ndN : ((([] : NL) ++ toN L2).map (·.1)).Nodup := by
          have q : (L2.map (·.1)).Nodup := (pmL.map (·.1)).nodup_iff.mpr ndL
          rw [List.nil_append]
          unfold toN
          rw [List.map_map]
          exact List.pairwise_map.mpr (List.Pairwise.imp (fun n e => n (keyK_inj e)) (List.pairwise_map.mp q))
        rw [foldN_nodup _ _ ndN, List.nil_append]
        obtain ⟨R1, pR, eR⟩ := ml_pr hL pmL
        have s6 := same_new (o := DN P w D (toN L2)) (Same.refl G) nD
        refine ⟨D, R1, rfl, pR, ⟨L2, upd_same, fun x m => keyA_same s6 (keyA_same sm (hkL2 x (pmL.mem_iff.mp m))), eR⟩, ?_, sx02.trans (SameX.of (sm.trans s6)), dice_sm (sm.trans s6) hd2⟩
        exact sx02.free (dice_ne hd2 (sm.free nD)) (sm.free nD)
    rintro σ' G1 ⟨D, R1, rfl, pR1, hD1, nDH, sx1, hd1⟩
    have P1 := hP.sx hd sx1
    have ok1 := hok.perm pR1
    -- the reader
    refine ⟨fun σ' G => ∃ (x : Addr) (R2 : Rds), σ' = [some (.ref d), some (.ref p), some (.ref D), some (.ref x), none, none, none, none, none, none, none] ∧ R2.Perm R ∧ Asc R2 ∧ RdrAt P w K C G x first ends R2 ∧ (∀ L, RdrAt P w K C (upd G D (DN P w D L)) x first ends R2) ∧ Same G1 G, ?_, ?_⟩
    · obtain ⟨hp, he, hrd⟩ := id P1
      refine ⟨_, rfl, p, _, rfl, pg1 hp, _, rfl, p, _, rfl, pg2 hp, el, _, rfl, .inl ⟨he, fun l nl => ?_⟩⟩
      have s1 := same_new (o := .tup (ends.map V.str)) (Same.refl G1) nl
      have hl : SqT K (upd G1 l (.tup (ends.map V.str))) l (ends.map V.str) := SqT.of upd_same
      refine ⟨_, rfl, fun x dx nx ndx hne => ?_⟩
      have s2 : Same (upd G1 l (.tup (ends.map V.str))) (upd (upd (upd G1 l (.tup (ends.map V.str))) dx (.own x)) x (.ins C dx [])) := same_new (same_new (Same.refl _) ndx) (by rw [upd_ne (Ne.symm hne)]; exact nx)
      have s12 := s1.trans s2
      have nx0 : G1 x = none := s1.free nx
      have hl2 := sqT_same s2 hl
      have hx2 : (upd (upd (upd G1 l (.tup (ends.map V.str))) dx (.own x)) x (.ins C dx [])) x = some (.ins C dx []) := upd_same
      generalize upd (upd (upd G1 l (.tup (ends.map V.str))) dx (.own x)) x (.ins C dx []) = G at *
      obtain ⟨L1, k1, k2, k3⟩ := hD1.same s12
      refine ⟨x, dx, l, D, first, ends, R1, rfl, hx2, by have := hok.f8; omega, hl2, fun z hz => Nat.le_trans (hok.e8 z hz) (by decide), ⟨L1, k1, k2, k3⟩, ok1.nd, by have := hok.le; omega, by have := ok1.lr; omega, ok1.shrt, ok1.ok, fun R2 H' hp' hasc hR sx far => ⟨rfl, ?_⟩⟩
      exact ⟨x, R2, rfl, hp'.trans pR1, hasc, hR, fun L => far D _ L k1, fun b u e => sx b u (ne_of_none e nx0) (s12 _ _ e)⟩
    rintro σ' G2 ⟨x, R2, rfl, pR2, asc2, hR2, far2, s12⟩
    have ok2 := hok.perm pR2
    have P2 := P1.same s12
    have sx2 : SameX d H G2 := sx1.trans (SameX.of s12)
    have hd2 := dice_sm s12 hd1
    have hD2 := hD1.same s12
    -- its lines
    refine ⟨fun σ' G => ∃ D4 : Addr, σ' = [some (.ref d), some (.ref p), some (.ref D), some (.ref x), some (.ref D4), none, none, none, none, none, none] ∧ G2 D4 = none ∧ RDict P w K G D4 R2 ∧ Same G2 G, ?_, ?_⟩
    · obtain ⟨dx, e, d', st, sp, ys, M, hx, _⟩ := id hR2
      exact ⟨_, rfl, x, dx, _, rfl, hx, x, first, ends, R2, rfl, hR2, ok2.nd, by have := ok2.lr; omega, fun D4 H' n4 sm h4 => ⟨D4, rfl, n4, h4, sm⟩⟩
    rintro σ' G3 ⟨D4, rfl, n4, h4, s23⟩
    -- all right
    refine ⟨fun σ' G => σ' = [some (.ref d), some (.ref p), some (.ref D), some (.ref x), some (.ref D4), none, none, none, none, none, none] ∧ Same G3 G, ?_, ?_⟩
    · obtain ⟨L4, k1, k2, k3⟩ := id h4
      obtain ⟨hp, he, ⟨L, hdL, hkL, hL⟩⟩ := P2.same s23
      obtain ⟨LD, m1, m2, m3⟩ := hD2.same s23
      have lenL := prM_len hL
      have lr := hok.lr
      refine ⟨_, rfl, D4, toN L4, rfl, .inl k1, fun l nl => ?_⟩
      have e0 : ((toN L4).map fun x => V.ref x.2.1) = L4.map fun x => V.ref x.2.1 := by
        unfold toN
        rw [List.map_map]
        rfl
      rw [e0]
      have s4 := same_new (o := .lst (L4.map fun x => V.ref x.2.1)) (Same.refl G3) nl
      have el4 : (upd G3 l (.lst (L4.map fun x => V.ref x.2.1))) l = some (.lst (L4.map fun x => V.ref x.2.1)) := upd_same
      generalize upd G3 l (.lst (L4.map fun x => V.ref x.2.1)) = G4 at *
      refine ⟨_, rfl, p, _, rfl, pg3 (s4 _ _ hp), rd, L, rfl, ⟨.inl (s4 _ _ hdL), kN fun x m => keyA_same s4 (hkL x m)⟩, by omega, fun L5 kl pm srt nk => ?_⟩
      have s5 := same_new (o := .lst (L5.map fun x => V.ref x.2.1)) (Same.refl G4) nk
      have el5 : (upd G4 kl (.lst (L5.map fun x => V.ref x.2.1))) kl = some (.lst (L5.map fun x => V.ref x.2.1)) := upd_same
      generalize upd G4 kl (.lst (L5.map fun x => V.ref x.2.1)) = G5 at *
      have s35 := s4.trans s5
      have keys5 : L5.map (fun x => encK x.1) = R2.map fun r => encK r.1 := by
        have eR : R2 = L5.map fun z => (z.1, txK z.2.2) := by
          refine asc_unique ?_ ?_ asc2 (by unfold Asc; rw [List.pairwise_map]; exact srt)
          · have z := pm.map fun z : KW × Addr × V => (z.1, txK z.2.2)
            rw [← ml_lines hL] at z
            exact pR2.trans z.symm
          · rw [List.map_map]
            have z := (pm.map (·.1)).nodup_iff.mpr (ml_nodup hL hok.nd)
            exact z
        rw [eR, List.map_map]
        rfl
      have keys4 : L4.map (fun x => encK x.1) = R2.map fun r => encK r.1 := by
        have z := congrArg (List.map encK) (ml_keys k3)
        rw [List.map_map, List.map_map] at z
        exact z
      have dp4 := dp_keys (L := L4) fun x m => keyA_same s35 (k2 x m)
      have dp5 := dp_keys (L := L5) fun x m => keyA_same s35 (hkL x (pm.mem_iff.mp m))
      rw [keys4] at dp4
      rw [keys5] at dp5
      have sm := ok2.sm_keys
      refine ⟨_, _, .lst (.inl (.inl (s5 _ _ el4))) dp4, .lst (.inl (.inl el5)) dp5, sm.shaped (by decide), sm.shaped (by decide), _, rfl, ?_⟩
      rw [SeqAt.eqv_refl _ sm.lay]
      refine ite2 (fun c => absurd c (by decide)) (fun _ => ?_)
      have lsame : ∀ {D : Addr} {L : ML}, G3 D = some (DN P w D (toN L)) → (∀ x ∈ L, KeyA K G3 x.2.1 (keyK x.1)) → NDict P w K G5 D (toN L) := fun e h => ⟨.inl (s35 _ _ e), kN fun x m => keyA_same s35 (h x m)⟩
      refine ⟨_, rfl, _, rfl, p, _, rfl, pg3 (s35 _ _ hp), D4, rd, toN L4, toN L, rfl, rfl, lsame k1 k2, lsame hdL hkL, texts_of k3, texts_of hL, _, rfl, ?_⟩
      rw [eqN_to k3 hL, eqM_perm pR2 hok.nd]
      refine ite2 (fun c => absurd c (by decide)) (fun _ => ?_)
      refine ⟨_, rfl, _, rfl, p, _, rfl, pg3 (s35 _ _ hp), D, rd, toN LD, toN L, rfl, rfl, lsame m1 m2, lsame hdL hkL, texts_of m3, texts_of hL, _, rfl, ?_⟩
      rw [eqN_to m3 hL, eqM_perm pR1 hok.nd]
      exact ite2 (fun c => absurd c (by decide)) (fun _ => ⟨rfl, s35⟩)
    rintro σ' G4 ⟨rfl, s34⟩
    have s24 := s23.trans s34
    -- both emptied
    refine ⟨fun σ' G => σ' = [some (.ref d), some (.ref p), some (.ref D), some (.ref x), some (.ref D4), none, none, none, none, none, none] ∧ Same G2 G, ?_, ?_⟩
    · obtain ⟨L4, k1, k2, k3⟩ := id h4
      exact ⟨_, rfl, D4, toN L4, rfl, s34 _ _ k1, rfl, fun b u e => by rw [upd_ne (ne_of_none e n4)]; exact s24 _ _ e⟩
    rintro σ' G5 ⟨rfl, s25⟩
    refine ⟨fun σ' G => σ' = [some (.ref d), some (.ref p), some (.ref D), some (.ref x), some (.ref D4), none, none, none, none, none, none] ∧ RdrAt P w K C G x first ends R2 ∧ SameX d H G ∧ DiceAt G d, ?_, ?_⟩
    · obtain ⟨LD, m1, m2, m3⟩ := id hD2
      have su : Same (upd G2 D (DN P w D [])) (upd G5 D (DN P w D [])) := fun b u e => by
        by_cases c : b = D
        · subst c
          rw [upd_same] at e ⊢
          exact e
        · rw [upd_ne c] at e ⊢
          exact s25 _ _ e
      have nDd : D ≠ d := dice_ne hd nDH
      refine ⟨_, rfl, D, toN LD, rfl, s25 _ _ m1, rfl, (far2 []).same su, fun b u n e => ?_, ?_⟩
      · rw [upd_ne (ne_of_none e nDH)]
        exact s25 _ _ (sx2 b u n e)
      · obtain ⟨a, b, c, e⟩ := hd2
        exact ⟨a, b, c, by rw [upd_ne (Ne.symm nDd)]; exact s25 _ _ e⟩
    rintro σ' G6 ⟨rfl, hR6, sx6, hd6⟩
    have P6 := hP.sx hd sx6
    clear s12 s23 s24 s25 s34 far2 h4 n4 hD1 hD2 P1 P2 hd1 hd2 sx1 sx2 hR2
    -- the states and the digits
    refine ⟨fun σ' G => ∃ (sl dl : Addr) (ys : List Str) (Ld : List (Addr × List Str)), σ' = [some (.ref d), some (.ref p), some (.ref D), some (.ref x), some (.ref D4), some (.ref sl), some (.ref dl), none, none, none, none] ∧ IsSt (statesL first ends R) ys ∧ G sl = some (.lst (ys.map V.str)) ∧ IsDg (R.map fun r => r.1.2) (Ld.map (·.2)) ∧ Ld.length ≤ R.length ∧ TsAt K G Ld ∧ G dl = some (.lst (Ld.map fun p => V.ref p.1)) ∧ Same G6 G, ?_, ?_⟩
    · refine ⟨_, rfl, p, el, rd, first, ends, R, rfl, P6, by have := hok.le; omega, by have := hok.lr; omega, fun ys sl H1 hys s1 ns es => ?_⟩
      refine ⟨_, rfl, p, el, rd, first, ends, R, rfl, P6.same s1, by have := hok.lr; omega, fun Ld dl H2 hdg hle hts s2 nt et => ?_⟩
      exact ⟨_, _, rfl, sl, dl, ys, Ld, rfl, hys, s2 _ _ es, hdg, hle, hts, et, s1.trans s2⟩
    rintro σ' G7 ⟨sl, dl, ys, Ld, rfl, hys, es7, hdg, hle, hts7, ed7, s67⟩
    have six := hok.six hys
    have lr := hok.lr
    -- the lines
    refine ⟨fun σ' G => ∃ ll : Addr, σ' = [some (.ref d), some (.ref p), some (.ref D), some (.ref x), some (.ref D4), some (.ref sl), some (.ref dl), some (.ref ll), none, none, none] ∧ G ll = some (.lst ((linesR first ends R2).map V.str)) ∧ Same G7 G, ?_, ?_⟩
    · obtain ⟨n1, n2, n3, ne⟩ := hok.names
      refine ⟨_, rfl, p, el, rd, first, ends, R, rfl, P6.same s67, hok, ne, fun r m y my => name_sok ((n3 r m).2.1 y my), fun R3 ll H1 pR3 asc3 s1 nl ell => ?_⟩
      have e3 : R3 = R2 := asc_unique (pR3.trans pR2.symm) ok2.nd asc3 asc2
      subst e3
      exact ⟨ll, rfl, ell, s1⟩
    rintro σ' G8 ⟨ll, rfl, el8, s78⟩
    have s68 := s67.trans s78
    -- the text
    refine ⟨fun σ' G => σ' = [some (.ref d), some (.ref p), some (.ref D), some (.ref x), some (.ref D4), some (.ref sl), some (.ref dl), some (.ref ll), some (.str (strR ys.length R.length)), none, none] ∧ Same G8 G, ?_, ?_⟩
    · have n1 := num_short ⟨ys.length, by omega⟩
      have n2 := num_short ⟨R.length, by omega⟩
      have k1 : ("reader with " : Str).length = 12 := rfl
      have k2 : (" states, " : Str).length = 9 := rfl
      have k3 : (" reads" : Str).length = 6 := rfl
      dsimp only at n1 n2
      obtain ⟨hp, he, ⟨L, hdL, hkL, hL⟩⟩ := P6.same s68
      have lenL := prM_len hL
      refine ⟨_, rfl, sl, _, rfl, .inl (.inl (.inl (s78 _ _ es7))), ((ys.length : Nat) : Int), by rw [List.length_map], log_300 (by omega), ?_⟩
      refine ⟨_, _, rfl, rfl, by omega, _, _, rfl, rfl, by rw [len_app]; omega, ?_⟩
      refine ⟨_, rfl, p, _, rfl, pg3 hp, rd, toN L, rfl, .inl hdL, ((R.length : Nat) : Int), by rw [toN_len, lenL], log_300 (by omega), ?_⟩
      exact ⟨_, _, rfl, rfl, by rw [len_app, len_app]; omega, _, _, rfl, rfl, by rw [len_app, len_app, len_app]; omega, rfl, Same.refl G8⟩
    rintro σ' G9 ⟨rfl, s89⟩
    have s69 := s68.trans s89
    have hR9 := hR6.same s69
    -- what is told
    refine ⟨fun σ' G => ∃ t : Addr, σ' = [some (.ref d), some (.ref p), some (.ref D), some (.ref x), some (.ref t), some (.ref sl), some (.ref dl), some (.ref ll), some (.str (strR ys.length R.length)), none, none] ∧ Dp K G (.ref t) (toldRd first ends ys (Ld.map (·.2)) R2) ∧ Same G9 G, ?_, ?_⟩
    · obtain ⟨dx, e0, d0, st0, sp0, ys0, M0, hx, _⟩ := id hR9
      have lr2 := ok2.lr
      refine ⟨_, rfl, x, dx, _, rfl, hx, x, first, ends, R2, rfl, hR9, ?_⟩
      refine ⟨_, rfl, x, dx, _, rfl, hx, x, first, ends, R2, rfl, hR9, fun e he => ?_⟩
      refine ⟨_, rfl, x, dx, _, rfl, hx, x, first, ends, R2, rfl, hR9, fun st ys1 hys1 hst => ?_⟩
      have eys : ys1 = ys := (hys1.perm pR2).unique hys
      subst eys
      refine ⟨_, rfl, x, dx, _, rfl, hx, x, first, ends, R2, rfl, hR9, by omega, fun L2 t2 H1 hdg2 hle2 hts2 s1 nt2 et2 => ?_⟩
      have edg : L2.map (·.2) = Ld.map (·.2) := (hdg2.of fun z => ((pR2.map fun r => r.1.2).mem_iff)).unique hdg
      refine ⟨_, rfl, x, dx, _, rfl, s1 _ _ hx, x, first, ends, R2, rfl, hR9.same s1, ok2.nd, by omega, by have := hok.le; omega, hok.f8, hok.e8, ok2.r8, fun pl H2 npl s2 epl => ?_⟩
      have s12 := s1.trans s2
      refine ⟨_, rfl, x, dx, _, rfl, s12 _ _ hx, x, first, ends, R2, rfl, hR9.same s12, fun ys2 hys2 => ?_⟩
      have eys2 : ys2 = ys1 := (hys2.perm pR2).unique hys
      subst eys2
      refine ⟨ys2.length, rfl, by omega, ?_⟩
      refine ⟨_, rfl, x, dx, _, rfl, s12 _ _ hx, x, first, ends, R2, rfl, hR9.same s12, by omega, fun ys3 hys3 => ⟨?_, _, rfl, ?_⟩⟩
      · have := (hys3.perm pR2).unique hys
        rw [this]
        omega
      have eys3 : ys3 = ys2 := (hys3.perm pR2).unique hys
      subst eys3
      refine ⟨by show 7 ≤ sizeLine; omega, fun t nt => ⟨t, rfl, ?_, s12.trans (same_new (Same.refl H2) nt)⟩⟩
      have s3 := same_new (o := .tup [V.str first, V.ref e, V.ref st, V.ref t2, V.ref pl, V.int (ys3.length : Nat), V.str (strR ys3.length R2.length)]) (Same.refl H2) nt
      have s123 := s12.trans s3
      have dg := dp_dgs (L := L2) fun q m => sqT_same (s2.trans s3) (hts2 q m)
      rw [edg] at dg
      exact .tup (SqT.of upd_same) (.cons (.str _) (.cons (.tup (sqT_same s123 he) (dp_texts ends)) (.cons (.tup (sqT_same s123 hst) (dp_texts ys3)) (.cons (.tup (SqT.of ((s2.trans s3) _ _ et2)) dg) (.cons (.tup (SqT.of (s3 _ _ epl)) (dp_texts _)) (.cons (.int _) (.cons (.str _) .nil)))))))
    rintro σ' G10 ⟨t, rfl, ht, s910⟩
    have hR10 := hR9.same s910
    have s610 := s69.trans s910
    have P10 := P6.same s610
    -- what is due
    refine ⟨fun σ' G => ∃ u : Addr, σ' = [some (.ref d), some (.ref p), some (.ref D), some (.ref x), some (.ref t), some (.ref sl), some (.ref dl), some (.ref ll), some (.str (strR ys.length R.length)), some (.ref u), none] ∧ Dp K G (.ref u) (toldRd first ends ys (Ld.map (·.2)) R2) ∧ Same G10 G, ?_, ?_⟩
    · obtain ⟨hp, he, hrd⟩ := id P10
      have s810 := s89.trans s910
      have es10 := (s78.trans s810) _ _ es7
      have ed10 := (s78.trans s810) _ _ ed7
      have el10 := s810 _ _ el8
      refine ⟨_, rfl, p, _, rfl, pg1 hp, _, rfl, p, _, rfl, pg2 hp, el, _, rfl, .inl ⟨he, fun a na => ?_⟩⟩
      have s1 := same_new (o := .tup (ends.map V.str)) (Same.refl G10) na
      have e1 : (upd G10 a (.tup (ends.map V.str))) a = some (.tup (ends.map V.str)) := upd_same
      generalize upd G10 a (.tup (ends.map V.str)) = H1 at *
      refine ⟨_, rfl, sl, _, rfl, .inl ⟨.inl (.inl (s1 _ _ es10)), fun b nb => ?_⟩⟩
      have s2 := same_new (o := .tup (ys.map V.str)) (Same.refl H1) nb
      have e2 : (upd H1 b (.tup (ys.map V.str))) b = some (.tup (ys.map V.str)) := upd_same
      generalize upd H1 b (.tup (ys.map V.str)) = H2 at *
      refine ⟨_, rfl, dl, _, rfl, .inl ⟨.inl (.inl (s2 _ _ (s1 _ _ ed10))), fun c nc => ?_⟩⟩
      have s3 := same_new (o := .tup (Ld.map fun p => V.ref p.1)) (Same.refl H2) nc
      have e3 : (upd H2 c (.tup (Ld.map fun p => V.ref p.1))) c = some (.tup (Ld.map fun p => V.ref p.1)) := upd_same
      generalize upd H2 c (.tup (Ld.map fun p => V.ref p.1)) = H3 at *
      have s13 := s1.trans (s2.trans s3)
      refine ⟨_, rfl, ll, _, rfl, .inl ⟨.inl (.inl (s13 _ _ el10)), fun g ng => ?_⟩⟩
      have s4 := same_new (o := .tup ((linesR first ends R2).map V.str)) (Same.refl H3) ng
      have e4 : (upd H3 g (.tup ((linesR first ends R2).map V.str))) g = some (.tup ((linesR first ends R2).map V.str)) := upd_same
      generalize upd H3 g (.tup ((linesR first ends R2).map V.str)) = H4 at *
      have s14 := s13.trans s4
      refine ⟨_, rfl, sl, _, rfl, .inl (.inl (.inl (s14 _ _ es10))), _, rfl, by show 7 ≤ sizeLine; omega, fun u nu => ?_⟩
      have s5 := same_new (o := .tup [V.str first, V.ref a, V.ref b, V.ref c, V.ref g, V.int ((ys.map V.str).length : Nat), V.str (strR ys.length R.length)]) (Same.refl H4) nu
      refine ⟨u, rfl, ?_, s14.trans s5⟩
      have dg := dp_dgs (L := Ld) fun q m => sqT_same (((s78.trans s810).trans s14).trans s5) (hts7 q m)
      have k45 := s4.trans s5
      have k35 := s3.trans k45
      have k25 := s2.trans k35
      have all := Dp.tup (SqT.of (upd_same (H := H4) (a := u) (o := .tup [V.str first, V.ref a, V.ref b, V.ref c, V.ref g, V.int ((ys.map V.str).length : Nat), V.str (strR ys.length R.length)])) (K := K)) (.cons (.str first) (.cons (.tup (SqT.of (k25 _ _ e1)) (dp_texts ends)) (.cons (.tup (SqT.of (k35 _ _ e2)) (dp_texts ys)) (.cons (.tup (SqT.of (k45 _ _ e3)) dg) (.cons (.tup (SqT.of (s5 _ _ e4)) (dp_texts (linesR first ends R2))) (.cons (.int ((ys.map V.str).length : Nat)) (.cons (.str (strR ys.length R.length)) .nil)))))))
      unfold toldRd
      rw [pR2.length_eq, ← show (ys.map V.str).length = ys.length from List.length_map _]
      rw [show (ys.map V.str).length = ys.length from List.length_map _] at all ⊢
      exact all
    rintro σ' G11 ⟨u, rfl, hu, s1011⟩
    have hR11 := hR10.same s1011
    have P11 := P10.same s1011
    obtain ⟨dx, e0, d0, st0, sp0, ys0, M0, hx, _⟩ := id hR11
    obtain ⟨hp, he, ⟨L, hdL, hkL, hL⟩⟩ := id P11
    have lr2 := ok2.lr
    have smT := ok2.sm_told (ys := ys) (dg := Ld.map (·.2)) ⟨hys.1, hys.2.1, fun z => (hys.2.2 z).trans (states_perm first ends pR2).symm⟩ (hdg.of fun z => ((pR2.map fun r => r.1.2).mem_iff).symm) (by rw [List.length_map]; omega)
    have rp := smT.repr (by decide) (by decide)
    have ht11 : Dp K G11 (.ref t) (toldRd first ends ys (Ld.map (·.2)) R2) := ht.st fun _ _ e => s1011 _ _ e
    obtain ⟨S, eS⟩ : ∃ S, (toldRd first ends ys (Ld.map (·.2)) R2).shown = S := ⟨_, rfl⟩
    refine ⟨_, rfl, .ref t, _, S, rfl, ht11, rp, eS, _, rfl, .ref u, _, S, rfl, hu, rp, eS, rfl, _, rfl, ?_⟩
    rw [show decide (V.str S = V.str S) = true from decide_eq_true rfl]
    refine ite2 (fun _ => ?_) (fun c => absurd rfl c)
    refine ⟨_, rfl, x, dx, _, rfl, hx, x, first, ends, R2, rfl, hR11, ok2.nd, by omega, fun D9 H9 n9 s9 h9 => ?_⟩
    obtain ⟨L9, k1, k2, k3⟩ := h9
    refine ⟨_, rfl, p, _, rfl, pg3 (s9 _ _ hp), D9, rd, toN L9, toN L, rfl, rfl, ⟨.inl k1, kN k2⟩, ⟨.inl (s9 _ _ hdL), kN fun x m => keyA_same s9 (hkL x m)⟩, texts_of k3, texts_of hL, _, rfl, ?_⟩
    rw [eqN_to k3 hL, eqM_perm pR2 hok.nd]
    refine ite2 (fun _ => ?_) (fun c => absurd rfl c)
    refine ⟨_, rfl, _, rfl, p, el, rd, first, ends, R, rfl, P11.same s9, hok, fun R9 y H10 p9 asc9 ny s10 hRy => ?_⟩
    have s910' := s9.trans s10
    obtain ⟨dy, _, _, _, _, _, _, hy, _⟩ := id hRy
    obtain ⟨n1, n2, n3, ne⟩ := hok.names
    have she : SeqAt.shaped (.tuple (tD ends)) = true := shaped_textsT fun z m => name_sok (n2 z m)
    refine ⟨x, dx, _, .ref C, rfl, s910' _ _ hx, .ins hy, x, .ref y, first, ends, R2, rfl, hR11.same s910', .inl ⟨y, first, ends, R9, rfl, hRy, she, she, _, rfl, ?_⟩⟩
    have et : eqRdr first first ends ends R2 R9 = true := by
      unfold eqRdr
      rw [decide_eq_true rfl, decide_eq_true rfl, eqM_perm (pR2.trans p9.symm) ((p9.map (·.1)).nodup_iff.mpr hok.nd)]
      rfl
    rw [et]
    have sF := s610.trans (s1011.trans s910')
    exact q _ (sx6.trans (SameX.of sF)) (dice_sm sF hd6)
end
end Kl

set_option maxRecDepth 100000
set_option maxHeartbeats 4000000
namespace Kl
open PySem PySem.Spec PyProof.Rows L2 Gx Mx
/-! ### plain readers near one -/
theorem name_len {z : Str} (h : nameB z = true) : z.length ≤ 8 := by
  unfold nameB at h
  simp only [Bool.and_eq_true, decide_eq_true_eq] at h
  exact h.1.2
theorem rdOk_mk {first : Str} {ends : List Str} {R : Rds} (n1 : nameB first = true) (n2 : ascB ends = true) (n3 : ∀ r ∈ R, lineB r = true) (l40 : R.length ≤ 40) (nf : first ∉ ends) (six : ∀ ys, IsSt (statesL first ends R) ys → ys.length ≤ 6)
    (good : ∀ r ∈ R, goodB first ends r = true) (nd : (R.map (·.1)).Nodup) (le : ends.length ≤ 6) : RdOk first ends R where
  ok := fun ys hys => by
    have := six ys hys
    unfold readerB readsB
    rw [n1, n2, decide_eq_true (show (R.length : Int) ≤ 40 by omega), List.all_eq_true.mpr n3, decide_eq_false nf, decide_eq_true (show (ys.length : Int) ≤ 6 by omega), List.all_eq_true.mpr good]
    rfl
  nd := nd
  le := le
  lr := l40
  f8 := name_len n1
  e8 := fun z m => by
    unfold ascB at n2
    simp only [Bool.and_eq_true, List.all_eq_true] at n2
    exact name_len (n2.1.1 z m)
  r8 := fun r m => by
    have h := n3 r m
    unfold lineB digB at h
    simp only [Bool.and_eq_true, decide_eq_true_eq, List.all_eq_true] at h
    exact ⟨name_len h.1.1, by have := h.1.2.1; omega, fun y my => name_len (h.1.2.2.1 y my), name_len h.2⟩
theorem RdOk.parts {first : Str} {ends : List Str} {R : Rds} (h : RdOk first ends R) : nameB first = true ∧ ascB ends = true ∧ (∀ r ∈ R, lineB r = true) ∧ first ∉ ends ∧ ∀ r ∈ R, goodB first ends r = true := by
  obtain ⟨ys, hys⟩ := isSt_ex (statesL first ends R)
  have h1 := h.ok ys hys
  unfold readerB readsB at h1
  simp only [Bool.and_eq_true, decide_eq_true_eq, List.all_eq_true, Bool.not_eq_true', decide_eq_false_iff_not] at h1
  exact ⟨h1.1.1.1, h1.1.1.2.1, h1.1.1.2.2.2, h1.1.2.1, h1.2⟩
/-- so many more states at most -/
theorem six_more {l l' ys ys' : List Str} {more : List Str} (h : IsSt l ys) (h' : IsSt l' ys') (sub : ∀ z ∈ l', z ∈ l ∨ z ∈ more) : ys'.length ≤ ys.length + more.length := by
  rw [← List.length_append]
  refine nodup_le h'.2.1 fun z hz => List.mem_append.mpr ?_
  rcases sub z ((h'.2.2 z).mp hz) with q | q
  · exact .inl ((h.2.2 z).mpr q)
  · exact .inr q
theorem mem_states {first : Str} {ends : List Str} {R : Rds} {z : Str} : z ∈ statesL first ends R ↔ z = first ∨ z ∈ ends ∨ (∃ r ∈ R, r.1.1 = z) ∨ ∃ r ∈ R, r.2 = z := by
  unfold statesL
  simp only [List.mem_cons, List.mem_append, List.mem_map]
theorem goodB_iff {first : Str} {ends : List Str} {r : KW × Str} : goodB first ends r = true ↔ r.2 ≠ first ∧ (r.2 ∈ ends → r.1.2 ≠ []) := by
  unfold goodB
  simp only [Bool.and_eq_true, Bool.not_eq_true', decide_eq_false_iff_not, Bool.and_eq_false_iff, List.isEmpty_eq_false_iff, ne_eq]
  constructor
  · rintro ⟨a, b⟩
    exact ⟨a, fun m => b.resolve_left fun c => c m⟩
  · rintro ⟨a, b⟩
    refine ⟨a, ?_⟩
    by_cases m : r.2 ∈ ends
    · exact .inr (b m)
    · exact .inl m
theorem not_ten1 : ("start" : Str) ∉ TENS := by decide +kernel
theorem not_ten2 : ("finish" : Str) ∉ TENS := by decide +kernel
theorem near0 {first : Str} {ends ys : List Str} {R : Rds} (h : RdOk first ends R) (ten : ∀ z ∈ statesL first ends R, z ∈ TENS) (hys : IsSt (statesL first ends R) ys) (few : ys.length < 6) : RdOk "start" ends R := by
  obtain ⟨n1, n2, n3, nf, good⟩ := h.parts
  refine rdOk_mk (by decide +kernel) n2 n3 h.lr (fun m => not_ten1 (ten _ (mem_states.mpr (.inr (.inl m))))) (fun ys' hys' => ?_) (fun r m => ?_) h.nd h.le
  · have := six_more (more := ["start"]) hys hys' fun z hz => by
      rcases mem_states.mp hz with q | q
      · exact .inr (by rw [q]; exact List.mem_singleton.mpr rfl)
      · exact .inl (mem_states.mpr (.inr q))
    rw [List.length_singleton] at this
    omega
  · obtain ⟨_, b⟩ := goodB_iff.mp (good r m)
    exact goodB_iff.mpr ⟨fun e => not_ten1 (ten _ (mem_states.mpr (.inr (.inr (.inr ⟨r, m, e⟩))))), b⟩
theorem near1 {first : Str} {ends ys es : List Str} {R : Rds} (h : RdOk first ends R) (ten : ∀ z ∈ statesL first ends R, z ∈ TENS) (hys : IsSt (statesL first ends R) ys) (few : ys.length < 6) (pm : es.Perm (ends ++ [("finish" : Str)])) (srt : sortedS es = true) : RdOk first es R := by
  obtain ⟨n1, n2, n3, nf, good⟩ := h.parts
  have nfin : ("finish" : Str) ∉ ends := fun m => not_ten2 (ten _ (mem_states.mpr (.inr (.inl m))))
  have mem : ∀ z, z ∈ es ↔ z ∈ ends ∨ z = "finish" := fun z => by rw [pm.mem_iff, List.mem_append, List.mem_singleton]
  unfold ascB at n2
  simp only [Bool.and_eq_true, decide_eq_true_eq, List.all_eq_true] at n2
  have nd : es.Nodup := pm.nodup_iff.mpr (List.nodup_append.mpr ⟨n2.2.2, by simp, fun a ma b mb e => nfin (by rw [List.mem_singleton.mp mb] at e; rw [← e]; exact ma)⟩)
  have nfs : first ≠ "finish" := fun e => not_ten2 (by rw [← e]; exact ten _ (mem_states.mpr (.inl rfl)))
  have lenE : es.length = ends.length + 1 := by rw [pm.length_eq, List.length_append, List.length_singleton]
  refine rdOk_mk n1 ?_ n3 h.lr (fun m => ?_) (fun ys' hys' => ?_) (fun r m => ?_) h.nd ?_
  · unfold ascB
    rw [List.all_eq_true.mpr fun z m => by
      rcases (mem z).mp m with q | q
      · exact n2.1.1 z q
      · rw [q]; decide +kernel, srt, decide_eq_true (show 0 < es.length by omega), decide_eq_true nd]
    rfl
  · rcases (mem _).mp m with q | q
    · exact nf q
    · exact nfs q
  · have := six_more (more := ["finish"]) hys hys' fun z hz => by
      rcases mem_states.mp hz with q | q | q
      · exact .inl (mem_states.mpr (.inl q))
      · rcases (mem z).mp q with q | q
        · exact .inl (mem_states.mpr (.inr (.inl q)))
        · exact .inr (by rw [q]; exact List.mem_singleton.mpr rfl)
      · exact .inl (mem_states.mpr (.inr (.inr q)))
    rw [List.length_singleton] at this
    omega
  · obtain ⟨a, b⟩ := goodB_iff.mp (good r m)
    refine goodB_iff.mpr ⟨a, fun q => ?_⟩
    rcases (mem _).mp q with q | q
    · exact b q
    · exact absurd (ten _ (mem_states.mpr (.inr (.inr (.inr ⟨r, m, q⟩))))) not_ten2
  · have : ends.length ≤ ys.length := nodup_le n2.2.2 fun z m => (hys.2.2 z).mpr (mem_states.mpr (.inr (.inl m)))
    omega
theorem near2 {first : Str} {ends : List Str} {R R' : Rds} (h : RdOk first ends R) (s : R'.Sublist R) : RdOk first ends R' := by
  obtain ⟨n1, n2, n3, nf, good⟩ := h.parts
  obtain ⟨ys, hys⟩ := isSt_ex (statesL first ends R)
  refine rdOk_mk n1 n2 (fun r m => n3 r (s.subset m)) (Nat.le_trans s.length_le h.lr) nf (fun ys' hys' => ?_) (fun r m => good r (s.subset m)) (h.nd.sublist (s.map _)) h.le
  have := six_more (more := []) hys hys' fun z hz => by
    refine .inl (mem_states.mpr ?_)
    rcases mem_states.mp hz with q | q | ⟨r, m, q⟩ | ⟨r, m, q⟩
    · exact .inl q
    · exact .inr (.inl q)
    · exact .inr (.inr (.inl ⟨r, s.subset m, q⟩))
    · exact .inr (.inr (.inr ⟨r, s.subset m, q⟩))
  have := h.six hys
  rw [List.length_nil] at *
  omega
def put3 (k : KW) (z : Str) (R : Rds) : Rds := R.map fun x => if x.1 = k then (x.1, z) else x
theorem put3_keys (k : KW) (z : Str) (R : Rds) : (put3 k z R).map (·.1) = R.map (·.1) := by
  unfold put3
  rw [List.map_map]
  refine List.map_congr_left fun x _ => ?_
  show (if x.1 = k then (x.1, z) else x).1 = x.1
  split <;> rfl
theorem near3 {first : Str} {ends : List Str} {R : Rds} {k : KW} {z : Str} (h : RdOk first ends R) (zs : z ∈ statesL first ends R) (nz : z ≠ first) (nk : k.2 ≠ []) : RdOk first ends (put3 k z R) := by
  obtain ⟨n1, n2, n3, nf, good⟩ := h.parts
  obtain ⟨ys, hys⟩ := isSt_ex (statesL first ends R)
  have zn : nameB z = true := by
    unfold ascB at n2
    simp only [Bool.and_eq_true, List.all_eq_true] at n2
    rcases mem_states.mp zs with q | q | ⟨r, m, q⟩ | ⟨r, m, q⟩
    · rw [q]; exact n1
    · exact n2.1.1 z q
    · have := n3 r m
      unfold lineB at this
      simp only [Bool.and_eq_true] at this
      rw [← q]; exact this.1.1
    · have := n3 r m
      unfold lineB at this
      simp only [Bool.and_eq_true] at this
      rw [← q]; exact this.2
  have at_ : ∀ r ∈ put3 k z R, ∃ x ∈ R, r.1 = x.1 ∧ (r.2 = x.2 ∨ (r.2 = z ∧ x.1 = k)) := fun r m => by
    unfold put3 at m
    obtain ⟨x, mx, rfl⟩ := List.mem_map.mp m
    refine ⟨x, mx, ?_⟩
    by_cases c : x.1 = k
    · rw [if_pos c]; exact ⟨rfl, .inr ⟨rfl, c⟩⟩
    · rw [if_neg c]; exact ⟨rfl, .inl rfl⟩
  refine rdOk_mk n1 n2 (fun r m => ?_) (by unfold put3; rw [List.length_map]; exact h.lr) nf (fun ys' hys' => ?_) (fun r m => ?_) (by rw [put3_keys]; exact h.nd) h.le
  · obtain ⟨x, mx, e1, e2⟩ := at_ r m
    have q := n3 x mx
    unfold lineB at q ⊢
    rw [e1]
    rcases e2 with e2 | ⟨e2, _⟩
    · rw [e2]; exact q
    · simp only [Bool.and_eq_true] at q ⊢
      exact ⟨q.1, by rw [e2]; exact zn⟩
  · have := six_more (more := []) hys hys' fun y hy => by
      refine .inl ?_
      rcases mem_states.mp hy with q | q | ⟨r, m, q⟩ | ⟨r, m, q⟩
      · exact mem_states.mpr (.inl q)
      · exact mem_states.mpr (.inr (.inl q))
      · obtain ⟨x, mx, e1, _⟩ := at_ r m
        exact mem_states.mpr (.inr (.inr (.inl ⟨x, mx, by rw [← e1]; exact q⟩)))
      · obtain ⟨x, mx, _, e2⟩ := at_ r m
        rcases e2 with e2 | ⟨e2, _⟩
        · exact mem_states.mpr (.inr (.inr (.inr ⟨x, mx, by rw [← e2]; exact q⟩)))
        · rw [← q, e2]; exact zs
    have := h.six hys
    rw [List.length_nil] at *
    omega
  · obtain ⟨x, mx, e1, e2⟩ := at_ r m
    obtain ⟨a, b⟩ := goodB_iff.mp (good x mx)
    refine goodB_iff.mpr ?_
    rcases e2 with e2 | ⟨e2, ek⟩
    · rw [e2, e1]; exact ⟨a, b⟩
    · rw [e2, e1, ek]; exact ⟨nz, fun _ => nk⟩
/-- eqM tells whether the lines are the same -/
theorem valV_mem {R : Rds} {k : KW} {z : Str} (h : valV (R.map fun q => (q.1, V.str q.2)) k = some (V.str z)) : (k, z) ∈ R := by
  induction R with
  | nil => cases h
  | cons x R ih =>
    rw [List.map_cons] at h
    by_cases e : x.1 = k
    · rw [valV_pos (p := (x.1, V.str x.2)) e] at h
      have : x.2 = z := V.str.inj (Option.some.inj h)
      rw [← e, ← this]
      exact List.mem_cons_self
    · rw [valV_neg (p := (x.1, V.str x.2)) e] at h
      exact List.mem_cons_of_mem _ (ih h)
theorem eqM_iff {R S : Rds} (nR : (R.map (·.1)).Nodup) (nS : (S.map (·.1)).Nodup) : eqM R S = true ↔ R.Perm S := by
  constructor
  · intro h
    unfold eqM at h
    simp only [Bool.and_eq_true, decide_eq_true_eq, List.all_eq_true] at h
    have nodR : R.Nodup := List.Pairwise.of_map (S := fun a b => a ≠ b) (·.1) (fun a b n e => n (congrArg (·.1) e)) nR
    have sub : ∀ r ∈ R, r ∈ S := fun r m => valV_mem (h.2 r m)
    have nodS : S.Nodup := List.Pairwise.of_map (S := fun a b => a ≠ b) (·.1) (fun a b n e => n (congrArg (·.1) e)) nS
    refine (List.perm_ext_iff_of_nodup nodR nodS).mpr fun z => ⟨sub z, fun m => ?_⟩
    by_cases c : z ∈ R
    · exact c
    · have := List.Nodup.length_le_of_subset (List.nodup_cons.mpr ⟨c, nodR⟩) fun y my => by
        rcases List.mem_cons.mp my with rfl | my
        · exact m
        · exact sub y my
      rw [List.length_cons] at this
      omega
  · intro p
    exact eqM_perm p nS
theorem eqM_same {R R' S S' : Rds} (p : R'.Perm R) (q : S'.Perm S) (nR : (R.map (·.1)).Nodup) (nS : (S.map (·.1)).Nodup) : eqM R' S' = eqM R S := by
  rw [Bool.eq_iff_iff, eqM_iff ((p.map (·.1)).nodup_iff.mpr nR) ((q.map (·.1)).nodup_iff.mpr nS), eqM_iff nR nS]
  exact ⟨fun h => (p.symm.trans h).trans q, fun h => (p.trans h).trans q.symm⟩
theorem eqM_symm {R S : Rds} (nR : (R.map (·.1)).Nodup) (nS : (S.map (·.1)).Nodup) : eqM S R = eqM R S := by
  rw [Bool.eq_iff_iff, eqM_iff nS nR, eqM_iff nR nS]
  exact ⟨List.Perm.symm, List.Perm.symm⟩
end Kl

set_option maxRecDepth 100000
set_option maxHeartbeats 4000000
namespace Kl
open PySem PySem.Spec PyProof.Rows L2 Gx Mx
theorem op_neDK {X : Cx} {K : PySem.W.Frag} (hk : X.K = K) (hu : X.A.units + 64 < cLine) : OpR X (compareOp .NotEq) (rNeD K) := by
  subst hk
  exact op_neD hu
/-- what stands while a plain reader near one is made -/
structure NrS (P : Program) (w : World) (K : PySem.W.Frag) (H G : Hp) (d fo D sl l : Addr) (ys : List Str) (first : Str) (ends : List Str) (R : Rds) : Prop where
  hf : G fo = some (.dK (plF first l D))
  hl : G l = some (.lst (ends.map V.str))
  hD : RDict P w K G D R
  hs : G sl = some (.lst (ys.map V.str))
  sx : SameX d H G
  hd : DiceAt G d
  nf : H fo = none
  nl : H l = none
  nD : H D = none
  ns : H sl = none
  ok : RdOk first ends R
theorem NrS.step {P : Program} {w : World} {K : PySem.W.Frag} {H G G' : Hp} {d fo D sl l : Addr} {ys : List Str} {first : Str} {ends : List Str} {R : Rds} (h : NrS P w K H G d fo D sl l ys first ends R) (h0 : DiceAt H d) (s : SameX d G G') (h1 : DiceAt G' d) : NrS P w K H G' d fo D sl l ys first ends R := by
  have n : ∀ {a : Addr}, H a = none → a ≠ d := fun e => dice_ne h0 e
  obtain ⟨L, k1, k2, k3⟩ := h.hD
  exact ⟨s _ _ (n h.nf) h.hf, s _ _ (n h.nl) h.hl, ⟨L, s _ _ (n h.nD) k1, fun x m => (k2 x m).mono fun _ _ q => sqT_sx h.hd s q, k3⟩, s _ _ (n h.ns) h.hs, h.sx.trans s, h1, h.nf, h.nl, h.nD, h.ns, h.ok⟩
theorem NrS.same {P : Program} {w : World} {K : PySem.W.Frag} {H G G' : Hp} {d fo D sl l : Addr} {ys : List Str} {first : Str} {ends : List Str} {R : Rds} (h : NrS P w K H G d fo D sl l ys first ends R) (s : Same G G') : NrS P w K H G' d fo D sl l ys first ends R :=
  ⟨s _ _ h.hf, s _ _ h.hl, h.hD.same s, s _ _ h.hs, h.sx.trans (SameX.of s), dice_sm s h.hd, h.nf, h.nl, h.nD, h.ns, h.ok⟩
theorem put_first (first : Str) (l D : Addr) (z : Str) : putK (plF first l D) (Sum.inr ("first" : Str)) (.str z) = plF z l D := by
  have n1 : ("ends" : Str) ≠ "first" := by decide +kernel
  have n2 : ("reads" : Str) ≠ "first" := by decide +kernel
  simp [putK, plF, n1, n2]
theorem put_ends (first : Str) (l l' D : Addr) : putK (plF first l D) (Sum.inr ("ends" : Str)) (.ref l') = plF first l' D := by
  have n1 : ("first" : Str) ≠ "ends" := by decide +kernel
  have n2 : ("reads" : Str) ≠ "ends" := by decide +kernel
  simp [putK, plF, n1, n2]
theorem drop_to (L : ML) (k : KW) : dropN (toN L) (keyK k) = toN (L.filter fun x => decide (x.1 ≠ k)) := by
  unfold dropN toN
  rw [List.filter_map]
  congr 1
  refine List.filter_congr fun x _ => ?_
  show decide (keyK x.1 ≠ keyK k) = decide (x.1 ≠ k)
  by_cases e : x.1 = k
  · rw [e]
    simp
  · have n : keyK x.1 ≠ keyK k := fun z => e (keyK_inj z)
    rw [decide_eq_true n, decide_eq_true (show x.1 ≠ k from e)]
theorem ml_drop {L : ML} {R : Rds} (e : prM L = R.map fun r => (r.1, V.str r.2)) (k : KW) : prM (L.filter fun x => decide (x.1 ≠ k)) = (R.filter fun r => decide (r.1 ≠ k)).map fun r => (r.1, V.str r.2) := by
  have q := congrArg (List.filter fun p : KW × V => decide (p.1 ≠ k)) e
  rw [List.filter_map] at q
  unfold prM at q ⊢
  rw [List.filter_map] at q
  exact q
theorem ml_put3 {L : ML} {R : Rds} (e : prM L = R.map fun r => (r.1, V.str r.2)) (k : KW) (a : Addr) (z : Str) (m : k ∈ L.map (·.1)) : prM (putM L k a (.str z)) = (put3 k z R).map fun r => (r.1, V.str r.2) := by
  have s : (valV (prM L) k).isSome = true := by
    rw [← valV_any, List.any_eq_true]
    obtain ⟨x, mx, ex⟩ := List.mem_map.mp m
    exact ⟨(x.1, x.2.2), List.mem_map.mpr ⟨x, mx, rfl⟩, decide_eq_true ex⟩
  rw [prM_put]
  unfold putK
  rw [valV_any, if_pos s, e]
  unfold put3
  rw [List.map_map, List.map_map]
  refine List.map_congr_left fun r _ => ?_
  show (if r.1 = k then (r.1, V.str z) else (r.1, V.str r.2)) = _
  by_cases c : r.1 = k
  · rw [if_pos c]
    show _ = ((if r.1 = k then (r.1, z) else r).1, V.str (if r.1 = k then (r.1, z) else r).2)
    rw [if_pos c]
  · rw [if_neg c]
    show _ = ((if r.1 = k then (r.1, z) else r).1, V.str (if r.1 = k then (r.1, z) else r).2)
    rw [if_neg c]
theorem putM_mem {L : ML} {k : KW} {a : Addr} {v : V} (m : k ∈ L.map (·.1)) {x : KW × Addr × V} (h : x ∈ putM L k a v) : ∃ y ∈ L, x.1 = y.1 ∧ x.2.1 = y.2.1 := by
  have s : (valV (prM L) k).isSome = true := by
    rw [← valV_any, List.any_eq_true]
    obtain ⟨x, mx, ex⟩ := List.mem_map.mp m
    exact ⟨(x.1, x.2.2), List.mem_map.mpr ⟨x, mx, rfl⟩, decide_eq_true ex⟩
  unfold putM at h
  rw [if_pos s] at h
  obtain ⟨y, my, rfl⟩ := List.mem_map.mp h
  refine ⟨y, my, ?_⟩
  split <;> exact ⟨rfl, rfl⟩
abbrev NNR : List Str := ["_law_dice_here", "_law_plain", "_law_reads", "_law_found", "_law_way", "_law_states", "_law_some", "_law_read", "_law_state"]
section
variable {P : Program} {w : World} {K : PySem.W.Frag} {mg : Str → Option Value} {base : Heap}
/-! ### _law_near -/
def spNR (P : Program) (w : World) (K : PySem.W.Frag) : Sp := fun vs H Q _ => ∃ (d p el rd : Addr) (first : Str) (ends : List Str) (R : Rds), vs = [.ref d, .ref p] ∧ DiceAt H d ∧ PlainAt P w K H p el rd first ends R ∧ RdOk first ends R ∧ (∀ z ∈ statesL first ends R, z ∈ TENS) ∧
  ∀ (p' el' rd' : Addr) (first' : Str) (ends' : List Str) (R' : Rds) (H' : Hp), SameX d H H' → DiceAt H' d → PlainAt P w K H' p' el' rd' first' ends' R' → RdOk first' ends' R' → H rd' = none → Q (.ref p') H'
theorem ok_nr {f : Addr} {fd : FuncData} (F : Fun K "_law_near" "_law_near" s_law_near f fd) (T : Top K mg) : FnOk P w K mg base CX0 3 f fd ["_law_dice_here", "_law_plain"] (spNR P w K) := by
  have cr : Cal P w K mg base 1 "_law_roll" ["_law_dice_here", "_law_total"] spRoll := T.d_law_roll.cal fun f fd F => ok_roll F T
  have cp : Cal P w K mg base 2 "_law_pick" ["_law_dice_here", "_law_items"] (spPick K) := T.d_law_pick.cal fun f fd F => ok_pick F T
  have cst : Cal P w K mg base 1 "_law_reader_states" ["_law_plain"] (spRSt P w K) := T.d_law_reader_states.cal fun f fd F => ok_rst F T
  refine F.ok sc_law_near (fun vs H Q E h => ?_) (fun cdv A outer s H vs Q E hr h => ?_)
  · obtain ⟨d, p, el, rd, first, ends, R, rfl, _⟩ := h
    rfl
  · obtain ⟨d, p, el, rd, first, ends, R, rfl, hd, hP, hok, ten, q⟩ := h
    have hu := hu' hr
    refine ⟨_, pss_cut (ps_set (i := 2) sc_law_near.nd rfl (.inl rfl) (pe_callTy (call_dictN (P := P) (w := w) (K := K) (by exact ⟨rfl, rfl, rfl⟩) rfl (by exact hr.units)) (by rfl) T.b_dict (by decide +kernel) (pa_cons
          (pe_lock (pe_lc (own := [("_law_read", 7)]) (g := gName 7) (tt := tYes) rfl sc_law_near.nd (pi_keysN (P := P) (w := w) (K := K) (by exact ⟨rfl, rfl, rfl⟩) (pe_dget hu (pv 1) pe_str (fun _ _ => rfl)))
            (blkOk_by (N := NNR) (sc := defScope s_law_near) (by decide +kernel)) (fun _ _ _ _ _ => pg_name (i := 7) sc_law_near.nd rfl (.inl rfl)) (fun _ _ _ _ _ => pts_nil)
            (fun _ _ _ _ _ => pe_tup (pa_cons (pv 7) (pa_cons (pe_nget (P := P) (w := w) (K := K) (by exact ⟨rfl, rfl, rfl⟩) (by exact hr.units) (pe_dget (by exact hu) (pv 1) pe_str (fun _ _ => rfl)) (pv 7) (by intro _ _; rfl)) pa_nil))))) pa_nil)))
      (pss_cut (ps_set (i := 3) sc_law_near.nd rfl (.inl rfl) (pe_disp (pps_cons pe_str (pe_dget hu (pv 1) pe_str (fun _ _ => rfl)) (pps_cons pe_str (pe_callTy call_list_of (by rfl) T.b_list (by decide +kernel) (pa_cons (pe_dget hu (pv 1) pe_str (fun _ _ => rfl)) pa_nil)) (pps_cons pe_str (pv 2) pps_nil))) rfl rfl (by decide) (by decide)))
      (pss_cut (ps_par (i := 4) (j := 5) rfl sc_law_near.nd rfl rfl (by decide) rfl rfl (pa_cons (pe_cal cr (hr.mono (by decide)) (by rfl) (pa_cons (pv 0) (pa_cons pe_int pa_nil))) (pa_cons (pe_cal cst (hr.mono (by decide)) (by rfl) (pa_cons (pv 1) pa_nil)) pa_nil)) (by kernel_rfl))
      (pss_cut (ps_if (PW.pt (pw_and (pt_cmpR op_eq (pv 4) pe_int (by rfl)) (pw_and1 (pt_cmpR op_lt (pe_callB call_len_seq (by rfl) T.b_len PySem.boot_len (pa_cons (pv 5) pa_nil)) pe_int (by rfl)))))
          (pss_one (ps_asg pe_str (pg_sub (pv 3) pe_str (set_dict hu)))) pss_nil)
      (pss_cut (ps_if (PW.pt (pw_and (pt_cmpR op_eq (pv 4) pe_int (by rfl)) (pw_and1 (pt_cmpR op_lt (pe_callB call_len_seq (by rfl) T.b_len PySem.boot_len (pa_cons (pv 5) pa_nil)) pe_int (by rfl)))))
          (pss_one (ps_asg (pe_callB cr_sortedS (by rfl) T.b_sorted (by decide +kernel) (pa_cons (pe_op op_cat (pe_dget hu (pv 3) pe_str (fun _ _ => rfl)) (pe_lst (pa_cons pe_str pa_nil))) pa_nil)) (pg_sub (pv 3) pe_str (set_dict hu)))) pss_nil)
      (pss_cut (ps_if (PW.pt (pw_and (pt_cmpR op_eq (pv 4) pe_int (by rfl)) (pw_and1 (pt_cmpR (op_neN (P := P) (w := w) (K := K) (by exact ⟨rfl, rfl, rfl⟩) hr.units) (pv 2) (pe_nnew (P := P) (w := w) (K := K) (by exact ⟨rfl, rfl, rfl⟩)) (by rfl)))))
          (pss_one (ps_expr (pe_npop (P := P) (w := w) (K := K) (by exact ⟨rfl, rfl, rfl⟩) (by exact hr.units) (pv 2) (pe_cal cp (hr.mono (by decide)) (by rfl) (pa_cons (pv 0) (pa_cons (pe_callB (cr_sortedN (P := P) (w := w) (K := K) (by exact ⟨rfl, rfl, rfl⟩) rfl (by exact hr.units)) (by rfl) T.b_sorted (by decide +kernel) (pa_cons (pv 2) pa_nil)) pa_nil))) (by constructor <;> rfl)))) pss_nil)
      (pss_cut (ps_setLc (i := 6) (own := [("_law_read", 7)]) (g := gName 7) (by rfl) sc_law_near.nd rfl rfl (sw_true rfl rfl rfl (by decide +kernel)) (pi_list (pe_callB (cr_sortedN (P := P) (w := w) (K := K) (by exact ⟨rfl, rfl, rfl⟩) rfl (by exact hr.units)) (by rfl) T.b_sorted (by decide +kernel) (pa_cons (pv 2) pa_nil)))
          (blkOk_by (N := NNR) (sc := defScope s_law_near) (by decide +kernel)) (fun _ _ _ _ _ => pg_name (i := 7) sc_law_near.nd rfl (.inl rfl))
          (fun _ _ _ _ _ => pts_one (pt_cmpR (op_neDK (K := K) (by exact rfl) (by exact hr.units)) (pe_ix (ix_tupK (K := K) (by exact rfl)) (pv 7) pe_int (fun _ _ => rfl)) (pe_tup pa_nil) (nomark _))) (fun _ _ _ _ _ => pv 7))
      (pss_cut (ps_if (PW.pt (pw_and (pt_cmpR op_eq (pv 4) pe_int (by rfl)) (pw_and1 (pt_cmpR (op_neD hr.units) (pv 6) (pe_lst pa_nil) (by rfl)))))
          (pss_one (ps_nput (P := P) (w := w) (K := K) (by exact ⟨rfl, rfl, rfl⟩) (by exact hr.units) (pv 2) (pe_cal cp (hr.mono (by decide)) (by rfl) (pa_cons (pv 0) (pa_cons (pv 6) pa_nil)))
            (pe_cal cp (hr.mono (by decide)) (by rfl) (pa_cons (pv 0) (pa_cons (pe_lc (own := [("_law_state", 8)]) (g := gName 8) rfl sc_law_near.nd (pi_list (pv 5))
              (blkOk_by (N := NNR) (sc := defScope s_law_near) (by decide +kernel)) (fun _ _ _ _ _ => pg_name (i := 8) sc_law_near.nd rfl (.inl rfl))
              (fun _ _ _ _ _ => pts_one (pt_cmpR op_ne (pv 8) (pe_dget (by exact hu) (pv 1) pe_str (fun _ _ => rfl)) (nomark _))) (fun _ _ _ _ _ => pv 8)) pa_nil))) (by first | rfl | kernel_rfl))) pss_nil)
      (pss_one (ps_ret (pv 3)))))))))), ?_⟩
    have big : 100000 ≤ sizeLine := by decide
    have kN : ∀ {G : Hp} {L : ML}, (∀ x ∈ L, KeyA K G x.2.1 (keyK x.1)) → ∀ z ∈ toN L, KeyA K G z.2.1 z.1 := fun hk z hz => by
      obtain ⟨z', hz', rfl⟩ := List.mem_map.mp hz
      exact hk z' hz'
    -- the lines again
    refine ⟨fun σ' G => ∃ D : Addr, σ' = [some (.ref d), some (.ref p), some (.ref D), none, none, none, none, none, none] ∧ RDict P w K G D R ∧ H D = none ∧ Same H G, ?_, ?_⟩
    · obtain ⟨hp, he, ⟨L, hdL, hkL, hL⟩⟩ := id hP
      have lenL := prM_len hL
      have lr := hok.lr
      have ndL := ml_nodup hL hok.nd
      have npr : p ≠ rd := fun z => by rw [z, hdL] at hp; cases hp
      refine ⟨rd, _, hdL, True.intro, fun od => ⟨_, rfl, p, _, rfl, pg3 (by rw [upd_ne npr]; exact hp), rd, od, toN L, rfl, upd_same, fun D0 hD0 => ?_⟩⟩
      have hDd : D0 ≠ rd := fun z => by rw [z, upd_same] at hD0; cases hD0
      have hD00 : H D0 = none := by rw [upd_ne hDd] at hD0; exact hD0
      refine lc_it (walk_keysN (P := P) (w := w) (d := rd) (o := od) (L := toN L)) (fun j G => ∃ ps : List Addr, G D0 = some (.lst (ps.map V.ref)) ∧ Paired (fun p (e : NestedKey × Addr × V) => SqT K G p [V.ref e.2.1, e.2.2]) ps (toN (L.take j)) ∧ Lkd P w H G rd od (toN L))
        ⟨[], upd_same, .nil, Lkd.of.more (same_new (Same.refl _) hD0)⟩ (fun j G _ h => by obtain ⟨_, _, _, k⟩ := h; exact k.at_) (fun j v Gx G hj h hy => ?_) (fun G h => ?_)
      · obtain ⟨ps, eD, hps, lk⟩ := h
        obtain ⟨rfl, e0, he0, rfl⟩ := hy
        obtain ⟨y, hy, rfl⟩ := toN_at he0
        have hyL : y ∈ L := List.mem_of_getElem? hy
        have hg : getN (toN L) (keyK y.1) = some y.2.2 := getN_own ndL hy
        have lps : ps.length = (L.take j).length := by rw [hps.length, toN_len]
        refine ⟨rfl, _, rfl, _, rfl, p, _, rfl, pg3 (lk.sm _ _ npr hp), _, rfl, rd, y.2.1, toN L, keyK y.1, y.2.2, rfl, rfl, ⟨.inr ⟨od, lk.at_⟩, kN fun x m => lk.key hdL (hkL x m)⟩, lk.key hdL (hkL y hyL), hg, by show 2 ≤ sizeLine; omega, fun t nt => ?_⟩
        have s5 := same_new (o := .tup [V.ref y.2.1, y.2.2]) (Same.refl G) nt
        refine ⟨_, s5 _ _ eD, by rw [List.length_map, lps, List.length_take]; omega, ps ++ [t], ?_, ?_, ?_⟩
        · rw [upd_same, List.map_append]
          rfl
        · have et : toN (L.take (j + 1)) = toN (L.take j) ++ [(keyK y.1, y.2)] := by
            rw [List.take_add_one, hy]
            unfold toN
            rw [List.map_append]
            rfl
          rw [et]
          have kp : ∀ {a : Addr} {xs : List V}, SqT K (upd G t (.tup [V.ref y.2.1, y.2.2])) a xs → SqT K (upd (upd G t (.tup [V.ref y.2.1, y.2.2])) D0 (.lst (ps.map V.ref ++ [V.ref t]))) a xs := fun q => sqT_upd (no_lst (s5 _ _ eD)) q
          exact Paired.snoc (paired_imp hps fun _ _ q => kp (sqT_same s5 q)) (kp (SqT.of upd_same))
        · have k3 := lk.more s5
          exact ⟨by rw [upd_ne (Ne.symm hDd)]; exact k3.at_, fun b u n e => by rw [upd_ne (ne_of_none e hD00)]; exact k3.sm b u n e⟩
      · obtain ⟨ps, eD, hps, lk⟩ := h
        rw [toN_len, List.take_length] at hps
        have bk := lk.back hdL
        refine ⟨lk.at_, D0, ps, toN L, rfl, .inl (.inl (by rw [upd_ne hDd]; exact eD)), paired_imp hps fun _ _ q => sqT_upd (no_frz lk.at_) q, kN fun x m => keyA_same bk (hkL x m), fun D nD => ?_⟩
        have ndN : ((([] : NL) ++ toN L).map (·.1)).Nodup := by
          rw [List.nil_append]
          unfold toN
          rw [List.map_map]
          exact List.pairwise_map.mpr (List.Pairwise.imp (fun n e => n (keyK_inj e)) (List.pairwise_map.mp ndL))
        rw [foldN_nodup _ _ ndN, List.nil_append]
        have s6 := same_new (o := DN P w D (toN L)) (Same.refl (upd G rd (DN P w rd (toN L)))) nD
        exact ⟨D, rfl, ⟨L, upd_same, fun x m => keyA_same (bk.trans s6) (hkL x m), hL⟩, bk.free nD, bk.trans s6⟩
    rintro σ' G1 ⟨D, rfl, hD1, nD, s1⟩
    have P1 := hP.same s1
    -- the dict
    refine ⟨fun σ' G => ∃ (fo l : Addr), σ' = [some (.ref d), some (.ref p), some (.ref D), some (.ref fo), none, none, none, none, none] ∧ G fo = some (.dK (plF first l D)) ∧ G l = some (.lst (ends.map V.str)) ∧ G1 fo = none ∧ G1 l = none ∧ Same G1 G, ?_, ?_⟩
    · obtain ⟨hp, he, hrd⟩ := id P1
      refine fun fo nfo => ?_
      have s2 := same_new (o := .dK []) (Same.refl G1) nfo
      refine ⟨_, rfl, p, _, rfl, pg1 (s2 _ _ hp), _, rfl, p, _, rfl, pg2 (s2 _ _ hp), el, _, rfl, .inl (sqL_sameE s2 he), fun l nl => ?_⟩
      have s3 := same_new (o := .lst (ends.map V.str)) (Same.refl (upd G1 fo (.dK []))) nl
      have nlf : l ≠ fo := fun z => by rw [z, upd_same] at nl; cases nl
      refine ⟨_, rfl, by rw [upd_ne (Ne.symm nlf)]; exact upd_same, plF first l D, rfl, by show 3 ≤ 15; omega, ?_⟩
      rw [merge_nil (by show (([Sum.inr "first", Sum.inr "ends", Sum.inr "reads"] : List Key)).Nodup; decide +kernel)]
      refine ⟨fo, l, rfl, upd_same, by rw [upd_ne nlf]; exact upd_same, nfo, s2.free nl, fun b u e => ?_⟩
      rw [upd_ne (ne_of_none e nfo)]
      exact s3 _ _ (s2 _ _ e)
    rintro σ' G2 ⟨fo, l, rfl, hf2, hl2, nf1, nl1, s12⟩
    have s02 := s1.trans s12
    have hd2 := dice_sm s02 hd
    -- the way, the states
    refine ⟨fun σ' G => ∃ (wy : Int) (sl : Addr) (ys : List Str), σ' = [some (.ref d), some (.ref p), some (.ref D), some (.ref fo), some (.int wy), some (.ref sl), none, none, none] ∧ IsSt (statesL first ends R) ys ∧ NrS P w K H G d fo D sl l ys first ends R ∧ PlainAt P w K G p el rd first ends R, ?_, ?_⟩
    · refine ⟨_, rfl, d, 5, rfl, hd2, by decide, by decide, fun r a b c r0 r1 => ?_⟩
      have hd3 : DiceAt (upd G2 d (.lst [V.int a, V.int b, V.int c])) d := ⟨_, _, _, upd_same⟩
      have sx3 : SameX d G2 (upd G2 d (.lst [V.int a, V.int b, V.int c])) := (SameX.refl d G2).atd
      generalize upd G2 d (.lst [V.int a, V.int b, V.int c]) = G3 at *
      have P3 := (hP.same s02).sx hd2 sx3
      refine ⟨_, rfl, p, el, rd, first, ends, R, rfl, P3, by have := hok.le; omega, by have := hok.lr; omega, fun ys sl G4 hys s4 nsl es => ?_⟩
      have sx24 := sx3.trans (SameX.of s4)
      have sxH := (SameX.of s02).trans sx24
      have nf0 := s1.free nf1
      have nl0 := s1.free nl1
      have nsd := dice_ne hd3 nsl
      obtain ⟨LD, m1, m2, m3⟩ := hD1.same s12
      have nDd := dice_ne hd nD
      refine ⟨_, _, rfl, r, sl, ys, rfl, hys, ⟨sx24 _ _ (dice_ne hd nf0) hf2, sx24 _ _ (dice_ne hd nl0) hl2, ⟨LD, sx24 _ _ nDd m1, fun x m => (m2 x m).mono fun _ _ q => sqT_sx hd2 sx24 q, m3⟩, es, sxH, dice_sm s4 hd3, nf0, nl0, nD, ((SameX.of s02).trans sx3).free nsd nsl, hok⟩, P3.same s4⟩
    rintro σ' G3 ⟨wy, sl, ys, rfl, hys, N3, P3⟩
    have six := hok.six hys
    -- another first state
    refine ⟨fun σ' G => ∃ (first1 : Str), σ' = [some (.ref d), some (.ref p), some (.ref D), some (.ref fo), some (.int wy), some (.ref sl), none, none, none] ∧ NrS P w K H G d fo D sl l ys first1 ends R ∧ PlainAt P w K G p el rd first ends R ∧ (wy ≠ 0 → first1 = first), ?_, ?_⟩
    · refine ⟨_, rfl, rfl, _, rfl, ite2 (fun c => ?_) (fun c => ⟨first, rfl, N3, P3, fun _ => rfl⟩)⟩
      refine ⟨_, rfl, sl, _, rfl, .inl (.inl (.inl N3.hs)), _, _, rfl, rfl, _, rfl, ite2 (fun c2 => ?_) (fun c2 => ⟨first, rfl, N3, P3, fun _ => rfl⟩)⟩
      have few : ys.length < 6 := by
        have := of_decide_eq_true c2
        rw [List.length_map] at this
        omega
      have w0 : wy = 0 := V.int.inj (of_decide_eq_true c)
      refine ⟨_, rfl, fo, _, rfl, DPut.k (k := Sum.inr ("first" : Str)) N3.hf (by show 3 < sizeLine; omega), ?_⟩
      rw [put_first]
      have hf := N3.hf
      have neL : l ≠ fo := fun z => by have := N3.hl; rw [z, hf] at this; cases this
      have neS : sl ≠ fo := fun z => by have := N3.hs; rw [z, hf] at this; cases this
      obtain ⟨LD, m1, m2, m3⟩ := N3.hD
      have neD : D ≠ fo := fun z => by rw [z, hf] at m1; cases m1
      have nt : ∀ ys, ¬ Rd G3 fo (.tup ys) := fun ys h => by rcases h with h | ⟨o, h⟩ <;> · rw [hf] at h; cases h
      obtain ⟨hp, he, LP, p1, p2, p3⟩ := P3
      have nep : p ≠ fo := fun z => by have := hP.1; rw [z, N3.nf] at this; cases this
      have ner : rd ≠ fo := fun z => by rw [z, hf] at p1; cases p1
      have nee : SqL K (upd G3 fo (.dK (plF "start" l D))) el (ends.map V.str) := by
        rcases he with (h | ⟨o, h⟩) | h
        · exact .inl (.inl (by rw [upd_ne (fun z => by rw [z, hf] at h; cases h)]; exact h))
        · exact .inl (.inr ⟨o, by rw [upd_ne (fun z => by rw [z, hf] at h; cases h)]; exact h⟩)
        · exact .inr h
      refine ⟨"start", rfl, ⟨upd_same, by rw [upd_ne neL]; exact N3.hl, ⟨LD, by rw [upd_ne neD]; exact m1, fun x m => (m2 x m).mono fun _ _ q => sqT_upd nt q, m3⟩, by rw [upd_ne neS]; exact N3.hs, fun b u n e => by rw [upd_ne (ne_of_none e N3.nf)]; exact N3.sx b u n e, ?_, N3.nf, N3.nl, N3.nD, N3.ns, near0 hok ten hys few⟩, ⟨by rw [upd_ne nep]; exact hp, nee, LP, by rw [upd_ne ner]; exact p1, fun x m => (p2 x m).mono fun _ _ q => sqT_upd nt q, p3⟩, fun n => absurd w0 n⟩
      obtain ⟨a, b, c, e⟩ := N3.hd
      exact ⟨a, b, c, by rw [upd_ne (dice_ne hd N3.nf).symm]; exact e⟩
    rintro σ' G4 ⟨first1, rfl, N4, P4, k4⟩
    -- a state more that ends
    refine ⟨fun σ' G => ∃ (l1 : Addr) (ends1 : List Str), σ' = [some (.ref d), some (.ref p), some (.ref D), some (.ref fo), some (.int wy), some (.ref sl), none, none, none] ∧ NrS P w K H G d fo D sl l1 ys first1 ends1 R ∧ PlainAt P w K G p el rd first ends R ∧ (wy = 3 → first1 = first ∧ ends1 = ends), ?_, ?_⟩
    · have k5 : wy = 3 → first1 = first ∧ ends = ends := fun e => ⟨k4 (by rw [e]; decide), rfl⟩
      refine ⟨_, rfl, rfl, _, rfl, ite2 (fun c => ?_) (fun c => ⟨l, ends, rfl, N4, P4, k5⟩)⟩
      refine ⟨_, rfl, sl, _, rfl, .inl (.inl (.inl N4.hs)), _, _, rfl, rfl, _, rfl, ite2 (fun c2 => ?_) (fun c2 => ⟨l, ends, rfl, N4, P4, k5⟩)⟩
      have few : ys.length < 6 := by
        have := of_decide_eq_true c2
        rw [List.length_map] at this
        omega
      have w1 : wy = 1 := V.int.inj (of_decide_eq_true c)
      have ef : first1 = first := k4 (by rw [w1]; decide)
      subst ef
      have le := hok.le
      refine ⟨_, rfl, fo, _, rfl, pg2 N4.hf, by show 1 ≤ sizeLine; omega, fun a na => ?_⟩
      have s1 := same_new (o := .lst [V.str "finish"]) (Same.refl G4) na
      have e1 : (upd G4 a (.lst [V.str "finish"])) a = some (.lst [V.str "finish"]) := upd_same
      generalize upd G4 a (.lst [V.str "finish"]) = G5 at *
      refine ⟨l, a, _, _, rfl, rfl, s1 _ _ N4.hl, e1, by rw [List.length_map]; show _ + 1 ≤ _; omega, fun b nb => ?_⟩
      have s2 := same_new (o := .lst (ends.map V.str ++ [V.str "finish"])) (Same.refl G5) nb
      have e2 : (upd G5 b (.lst (ends.map V.str ++ [V.str "finish"]))) b = some (.lst ((ends ++ [("finish" : Str)]).map V.str)) := by
        rw [upd_same, List.map_append]
        rfl
      generalize upd G5 b (.lst (ends.map V.str ++ [V.str "finish"])) = G6 at *
      refine ⟨b, ends ++ [("finish" : Str)], rfl, .inl (.inl e2), by rw [List.length_append, List.length_singleton]; omega, fun es c pm srt nc => ?_⟩
      have s3 := same_new (o := .lst (es.map V.str)) (Same.refl G6) nc
      have e3 : (upd G6 c (.lst (es.map V.str))) c = some (.lst (es.map V.str)) := upd_same
      have nl1 : H c = none := N4.sx.free (dice_ne N4.hd (s1.free (s2.free nc))) (s1.free (s2.free nc))
      generalize upd G6 c (.lst (es.map V.str)) = G7 at *
      have s47 := s1.trans (s2.trans s3)
      have N7 := N4.same s47
      have P7 := P4.same s47
      refine ⟨_, rfl, fo, _, rfl, DPut.k (k := Sum.inr ("ends" : Str)) N7.hf (by show 3 < sizeLine; omega), ?_⟩
      rw [put_ends]
      have hf := N7.hf
      have neL : c ≠ fo := fun z => by rw [z, hf] at e3; cases e3
      have neS : sl ≠ fo := fun z => by have := N7.hs; rw [z, hf] at this; cases this
      obtain ⟨LD, m1, m2, m3⟩ := N7.hD
      have neD : D ≠ fo := fun z => by rw [z, hf] at m1; cases m1
      have nt : ∀ ys, ¬ Rd G7 fo (.tup ys) := fun ys h => by rcases h with h | ⟨o, h⟩ <;> · rw [hf] at h; cases h
      obtain ⟨hp, he, LP, p1, p2, p3⟩ := P7
      have nep : p ≠ fo := fun z => by have := hP.1; rw [z, N7.nf] at this; cases this
      have ner : rd ≠ fo := fun z => by rw [z, hf] at p1; cases p1
      have nee : SqL K (upd G7 fo (.dK (plF first1 c D))) el (ends.map V.str) := by
        rcases he with (h | ⟨o, h⟩) | h
        · exact .inl (.inl (by rw [upd_ne (fun z => by rw [z, hf] at h; cases h)]; exact h))
        · exact .inl (.inr ⟨o, by rw [upd_ne (fun z => by rw [z, hf] at h; cases h)]; exact h⟩)
        · exact .inr h
      refine ⟨c, es, rfl, ⟨upd_same, by rw [upd_ne neL]; exact e3, ⟨LD, by rw [upd_ne neD]; exact m1, fun x m => (m2 x m).mono fun _ _ q => sqT_upd nt q, m3⟩, by rw [upd_ne neS]; exact N7.hs, fun b u n e => by rw [upd_ne (ne_of_none e N7.nf)]; exact N7.sx b u n e, ?_, N7.nf, nl1, N7.nD, N7.ns, near1 hok ten hys few pm srt⟩, ⟨by rw [upd_ne nep]; exact hp, nee, LP, by rw [upd_ne ner]; exact p1, fun x m => (p2 x m).mono fun _ _ q => sqT_upd nt q, p3⟩, fun e => absurd (w1.symm.trans e) (by decide)⟩
      obtain ⟨a, b, c, e⟩ := N7.hd
      exact ⟨a, b, c, by rw [upd_ne (dice_ne hd N7.nf).symm]; exact e⟩
    clear N3 P3 N4 P4 hf2 hl2 hD1 P1 s12 s02 hd2
    rintro σ' G5 ⟨l1, ends1, rfl, N5, P5, k5⟩
    have npr : ∀ {G : Hp}, PlainAt P w K G p el rd first ends R → G D ≠ none → p ≠ D ∧ rd ≠ D := fun _ _ => by
      obtain ⟨h1, h2, LL, h3, _⟩ := id hP
      exact ⟨(fun z => by rw [z, nD] at h1; cases h1), (fun z => by rw [z, nD] at h3; cases h3)⟩
    -- a line less
    refine ⟨fun σ' G => ∃ (R1 : Rds), σ' = [some (.ref d), some (.ref p), some (.ref D), some (.ref fo), some (.int wy), some (.ref sl), none, none, none] ∧ NrS P w K H G d fo D sl l1 ys first1 ends1 R1 ∧ PlainAt P w K G p el rd first ends R ∧ (wy = 3 → R1 = R), ?_, ?_⟩
    · refine ⟨_, rfl, rfl, _, rfl, ite2 (fun c => ?_) (fun c => ⟨R, rfl, N5, P5, fun _ => rfl⟩)⟩
      have w2 : wy = 2 := V.int.inj (of_decide_eq_true c)
      obtain ⟨L, m1, m2, m3⟩ := id N5.hD
      refine ⟨_, rfl, fun z nz => ?_⟩
      have s1 := same_new (o := DN P w z []) (Same.refl G5) nz
      have e1 : (upd G5 z (DN P w z [])) z = some (DN P w z []) := upd_same
      generalize upd G5 z (DN P w z []) = G6 at *
      refine ⟨D, z, toN L, [], rfl, rfl, ⟨.inl (s1 _ _ m1), kN fun x m => keyA_same s1 (m2 x m)⟩, ⟨.inl e1, fun _ m => nomatch m⟩, texts_of m3, fun _ m => (nomatch m), _, rfl, ite2 (fun c2 => ?_) (fun c2 => ⟨R, rfl, N5.same s1, P5.same s1, fun _ => rfl⟩)⟩
      have neL : L ≠ [] := fun e => by
        rw [e] at c2
        exact absurd c2 (by decide)
      have N6 := N5.same s1
      have P6 := P5.same s1
      have lenL := prM_len m3
      have lr := N5.ok.lr
      have ndL := ml_nodup m3 N5.ok.nd
      refine ⟨_, rfl, D, toN L, rfl, .inl (s1 _ _ m1), _, rfl, _, rfl, D, L, rfl, ⟨.inl (s1 _ _ m1), kN fun x m => keyA_same s1 (m2 x m)⟩, by omega, fun L1 kl pm srt nk => ?_⟩
      have s2 := same_new (o := .lst (L1.map fun x => V.ref x.2.1)) (Same.refl G6) nk
      have e2 : (upd G6 kl (.lst (L1.map fun x => V.ref x.2.1))) kl = some (.lst (L1.map fun x => V.ref x.2.1)) := upd_same
      have nkd := dice_ne N6.hd nk
      generalize upd G6 kl (.lst (L1.map fun x => V.ref x.2.1)) = G7 at *
      have N7 := N6.same s2
      have P7 := P6.same s2
      refine ⟨d, .ref kl, _, rfl, N7.hd, .inl ⟨kl, rfl, nkd, .inl (.inl (.inl e2))⟩, fun e => neL ?_, by rw [List.length_map, pm.length_eq]; omega, fun v a b c' mv => ?_⟩
      · have := congrArg List.length e
        rw [List.length_map, pm.length_eq] at this
        exact List.eq_nil_of_length_eq_zero this
      obtain ⟨y, my, rfl⟩ := List.mem_map.mp mv
      have hyL := pm.mem_iff.mp my
      obtain ⟨i, hi⟩ := List.mem_iff_getElem?.mp hyL
      have hd8 : DiceAt (upd G7 d (.lst [V.int a, V.int b, V.int c'])) d := ⟨_, _, _, upd_same⟩
      have sx8 : SameX d G7 (upd G7 d (.lst [V.int a, V.int b, V.int c'])) := (SameX.refl d G7).atd
      have N8 := N7.step hd sx8 hd8
      have P8 := P7.sx N7.hd sx8
      have nDd := dice_ne hd nD
      have hD8 : (upd G7 d (.lst [V.int a, V.int b, V.int c'])) D = some (DN P w D (toN L)) := sx8 _ _ nDd (s2 _ _ (s1 _ _ m1))
      have k8 : ∀ x ∈ L, KeyA K (upd G7 d (.lst [V.int a, V.int b, V.int c'])) x.2.1 (keyK x.1) := fun x m => (keyA_same (s1.trans s2) (m2 x m)).mono fun _ _ q => sqT_sx N7.hd sx8 q
      generalize upd G7 d (.lst [V.int a, V.int b, V.int c']) = G8 at *
      refine ⟨y.2.1, toN L, keyK y.1, y.2.2, rfl, hD8, kN k8, k8 y hyL, getN_own ndL hi, ?_⟩
      rw [drop_to]
      have nt : ∀ ys, ¬ Rd G8 D (.tup ys) := no_dn hD8
      have neF : fo ≠ D := fun z => by have := N8.hf; rw [z, hD8] at this; cases this
      have neL1 : l1 ≠ D := fun z => by have := N8.hl; rw [z, hD8] at this; cases this
      have neS : sl ≠ D := fun z => by have := N8.hs; rw [z, hD8] at this; cases this
      obtain ⟨hp, he, LP, p1, p2, p3⟩ := id P8
      obtain ⟨nep, ner⟩ := npr P8 (by rw [hD8]; exact fun z => nomatch z)
      have nee : SqL K (upd G8 D (DN P w D (toN (L.filter fun x => decide (x.1 ≠ y.1))))) el (ends.map V.str) := by
        rcases he with (h | ⟨o, h⟩) | h
        · exact .inl (.inl (by rw [upd_ne (fun z => by rw [z, hD8] at h; cases h)]; exact h))
        · exact .inl (.inr ⟨o, by rw [upd_ne (fun z => by rw [z, hD8] at h; cases h)]; exact h⟩)
        · exact .inr h
      refine ⟨R.filter fun r => decide (r.1 ≠ y.1), rfl, ⟨by rw [upd_ne neF]; exact N8.hf, by rw [upd_ne neL1]; exact N8.hl, ⟨L.filter fun x => decide (x.1 ≠ y.1), upd_same, fun x m => (k8 x (List.mem_filter.mp m).1).mono fun _ _ q => sqT_upd nt q, ml_drop m3 y.1⟩, by rw [upd_ne neS]; exact N8.hs, fun b u n e => by rw [upd_ne (ne_of_none e nD)]; exact N8.sx b u n e, ?_, N8.nf, N8.nl, nD, N8.ns, near2 N8.ok List.filter_sublist⟩,
        ⟨by rw [upd_ne nep]; exact hp, nee, LP, by rw [upd_ne ner]; exact p1, fun x m => (p2 x m).mono fun _ _ q => sqT_upd nt q, p3⟩, fun e => absurd (w2.symm.trans e) (by decide)⟩
      obtain ⟨a, b, c, e⟩ := N8.hd
      exact ⟨a, b, c, by rw [upd_ne nDd.symm]; exact e⟩
    clear N5 P5
    rintro σ' G6 ⟨R1, rfl, N6, P6, k6⟩
    obtain ⟨b1, b2, b3, _⟩ := N6.ok.names
    obtain ⟨L, m1, m2, m3⟩ := id N6.hD
    have lenL := prM_len m3
    have lr := N6.ok.lr
    have ndL := ml_nodup m3 N6.ok.nd
    have word : ∀ y ∈ L, ∃ r ∈ R1, y.1 = r.1 := fun y my => by
      have : y.1 ∈ R1.map (·.1) := by rw [← ml_keys m3]; exact List.mem_map.mpr ⟨y, my, rfl⟩
      obtain ⟨r, mr, e⟩ := List.mem_map.mp this
      exact ⟨r, mr, e.symm⟩
    have wok : ∀ y ∈ L, (∀ z ∈ y.1.2, PyData.strOk z = true) ∧ Sm 80 3 (encK y.1) := fun y my => by
      obtain ⟨r, mr, e⟩ := word y my
      obtain ⟨a1, a2, a3, a4⟩ := N6.ok.r8 r mr
      obtain ⟨c1, c2, c3⟩ := b3 r mr
      rw [e]
      exact ⟨fun z mz => name_sok (c2 z mz), sm_key (name_sok c1) a1 (fun z mz => ⟨name_sok (c2 z mz), a3 z mz⟩) a2⟩
    -- the lines with a digit that is not empty
    refine ⟨fun σ' G => ∃ (So : Addr) (Ls : ML), σ' = [some (.ref d), some (.ref p), some (.ref D), some (.ref fo), some (.int wy), some (.ref sl), some (.ref So), none, none] ∧ G So = some (.lst (Ls.map fun x => V.ref x.2.1)) ∧ So ≠ d ∧ (∀ y ∈ Ls, y ∈ L ∧ y.1.2 ≠ []) ∧ Ls.length ≤ 40 ∧ Same G6 G, ?_, ?_⟩
    · refine ⟨_, rfl, D, L, rfl, ⟨.inl m1, kN m2⟩, by omega, fun L1 kl pm srt nk => ?_⟩
      have s2 := same_new (o := .lst (L1.map fun x => V.ref x.2.1)) (Same.refl G6) nk
      have e2 : (upd G6 kl (.lst (L1.map fun x => V.ref x.2.1))) kl = some (.lst (L1.map fun x => V.ref x.2.1)) := upd_same
      generalize upd G6 kl (.lst (L1.map fun x => V.ref x.2.1)) = G7 at *
      refine ⟨kl, rfl, ⟨_, .inl (.inl e2)⟩, fun S nS => ?_⟩
      have nSd : S ≠ d := dice_ne N6.hd (s2.free nS)
      refine lc_it (g := gName 7) (vs := [7]) (walk_list (K := K) (a := kl) (xs := L1.map fun x => V.ref x.2.1)) (fun j G => ∃ Ls : ML, G S = some (.lst (Ls.map fun x => V.ref x.2.1)) ∧ (∀ y ∈ Ls, y ∈ L ∧ y.1.2 ≠ []) ∧ Ls.length ≤ j ∧ Same G7 G) ⟨[], upd_same, fun _ m => (nomatch m), Nat.le_refl _, same_new (Same.refl G7) nS⟩ (fun j G _ h => by obtain ⟨_, _, _, _, sm⟩ := h; exact .inl (.inl (sm _ _ e2))) (fun j v Gx G hj h hy => ?_) (fun G h => ?_)
      · obtain ⟨Ls, eS, hLs, lLs, sm⟩ := h
        obtain ⟨rfl, hv⟩ := hy
        rw [List.getElem?_map] at hv
        obtain ⟨y, hy, rfl⟩ := Option.map_eq_some_iff.mp hv
        have hyL : y ∈ L := pm.mem_iff.mp (List.mem_of_getElem? hy)
        obtain ⟨g, hg1, hg2⟩ := keyK_at.mp (keyA_same (s2.trans sm) (m2 y hyL))
        have hj' : j < L1.length := by rw [List.length_map] at hj; exact hj
        have l1 := pm.length_eq
        refine ⟨rfl, _, rfl, y.2.1, _, 1, _, rfl, rfl, hg1, rfl, Nat.zero_le _, fun e ne => ?_⟩
        have s3 := same_new (o := .tup []) (Same.refl G) ne
        have e3 : (upd G e (.tup [])) e = some (.tup []) := upd_same
        generalize upd G e (.tup []) = G8 at *
        refine ⟨.tuple (tD y.1.2), .tuple (tD []), .tup (sqT_same s3 hg2) (dp_texts y.1.2), .tup (SqT.of e3) (dp_texts []), shaped_textsT (wok y hyL).1, shaped_textsT (fun z hz => nomatch hz), _, rfl, ?_⟩
        rw [PyData.eqv, eqv_texts]
        have put : ∀ {u : V} {n : Bool}, True := trivial
        refine ite2 (fun c => ?_) (fun c => ⟨Ls, s3 _ _ eS, hLs, by omega, sm.trans s3⟩)
        have ne2 : y.1.2 ≠ [] := fun z => by
          rw [decide_eq_true z] at c
          cases c
        refine ⟨_, rfl, _, s3 _ _ eS, by rw [List.length_map]; omega, Ls ++ [y], ?_, fun x m => ?_, by rw [List.length_append, List.length_singleton]; omega, fun b u e => by rw [upd_ne (ne_of_none e nS)]; exact s3 _ _ (sm _ _ e)⟩
        · rw [upd_same, List.map_append]
          rfl
        · rcases List.mem_append.mp m with m | m
          · exact hLs x m
          · obtain rfl := List.mem_singleton.mp m
            exact ⟨hyL, ne2⟩
      · obtain ⟨Ls, eS, hLs, lLs, sm⟩ := h
        rw [List.length_map, pm.length_eq] at lLs
        exact ⟨S, Ls, rfl, eS, nSd, hLs, by omega, s2.trans sm⟩
    rintro σ' G7 ⟨So, Ls, rfl, eS7, nSd, hLs, lLs, s67⟩
    have N7 := N6.same s67
    have P7 := P6.same s67
    have k7 : ∀ x ∈ L, KeyA K G7 x.2.1 (keyK x.1) := fun x m => keyA_same s67 (m2 x m)
    have N8 : ∀ {G : Hp} {a b c : Int}, G = upd G7 d (.lst [V.int a, V.int b, V.int c]) → True := fun _ => trivial
    clear N8
    -- another next state
    refine ⟨fun σ' G => ∃ (R2 : Rds), σ' = [some (.ref d), some (.ref p), some (.ref D), some (.ref fo), some (.int wy), some (.ref sl), some (.ref So), none, none] ∧ NrS P w K H G d fo D sl l1 ys first1 ends1 R2, ?_, ?_⟩
    · refine ⟨_, rfl, rfl, _, rfl, ite2 (fun c => ?_) (fun c => ⟨R1, rfl, N7⟩)⟩
      have w3 : wy = 3 := V.int.inj (of_decide_eq_true c)
      have q1 := (k5 w3).1.symm
      have q2 := (k5 w3).2.symm
      have q3 := (k6 w3).symm
      subst q1 q2 q3
      refine ⟨_, rfl, Nat.zero_le _, fun z nz => ?_⟩
      have s1 := same_new (o := .lst []) (Same.refl G7) nz
      have e1 : (upd G7 z (.lst [])) z = some (.lst []) := upd_same
      generalize upd G7 z (.lst []) = G8 at *
      have smL : Sm 4000 4 (.list (Ls.map fun x => encK x.1)) := by
        refine Sm.lst (B := 80) (k := 3) (n := 40) (fun e m => ?_) (by rw [List.length_map]; exact lLs) (by omega) (by omega)
        obtain ⟨y, my, rfl⟩ := List.mem_map.mp m
        exact (wok y (hLs y my).1).2
      refine ⟨.list (Ls.map fun x : KW × Addr × V => encK x.1), .list [], .lst (.inl (.inl (s1 _ _ eS7))) (dp_keys fun x m => keyA_same s1 (k7 x (hLs x m).1)), .lst (.inl (.inl e1)) .nil, smL.shaped (by decide), by decide +kernel, _, rfl, ?_⟩
      have N8 := N7.same s1
      have P8 := P7.same s1
      refine ite2 (fun c2 => ?_) (fun c2 => ⟨R, rfl, N8⟩)
      have neL : Ls ≠ [] := fun e => by
        rw [e] at c2
        exact absurd c2 (by decide +kernel)
      have eS8 := s1 _ _ eS7
      have k8 : ∀ x ∈ L, KeyA K G8 x.2.1 (keyK x.1) := fun x m => keyA_same s1 (k7 x m)
      have m8 := (s67.trans s1) _ _ m1
      -- the state
      refine ⟨_, rfl, _, rfl, sl, rfl, ⟨_, .inl (.inl N8.hs)⟩, fun T nT => ?_⟩
      have nTd := dice_ne N8.hd nT
      refine lc_it (g := gName 8) (vs := [8]) (walk_list (K := K) (a := sl) (xs := ys.map V.str)) (fun j G => G T = some (.lst (((ys.take j).filter fun z => decide (z ≠ first)).map V.str)) ∧ Same G8 G) ⟨upd_same, same_new (Same.refl G8) nT⟩ (fun j G _ h => .inl (.inl (h.2 _ _ N8.hs))) (fun j v Gx G hj h hy => ?_) (fun G h => ?_)
      · obtain ⟨eT, sm⟩ := h
        obtain ⟨rfl, hv⟩ := hy
        rw [List.getElem?_map] at hv
        obtain ⟨y, hy, rfl⟩ := Option.map_eq_some_iff.mp hv
        have et : (ys.take (j + 1)).filter (fun z => decide (z ≠ first)) = (ys.take j).filter (fun z => decide (z ≠ first)) ++ (if decide (y ≠ first) = true then [y] else []) := by
          rw [List.take_add_one, hy, List.filter_append]
          congr 1
          show List.filter (fun z => decide (z ≠ first)) [y] = _
          rw [List.filter_cons, List.filter_nil]
        refine ⟨rfl, _, rfl, _, rfl, p, _, rfl, pg1 (sm _ _ P8.1), rfl, _, rfl, ?_⟩
        have en : (!decide (V.str y = V.str first)) = decide (y ≠ first) := by
          by_cases e : y = first
          · rw [e]; simp
          · rw [decide_eq_true e, decide_eq_false (fun z => e (V.str.inj z))]; rfl
        refine ite2 (fun c3 => ?_) (fun c3 => ?_)
        · have c4 : decide (y ≠ first) = true := en.symm.trans c3
          rw [if_pos c4] at et
          refine ⟨_, rfl, _, eT, ?_, by rw [upd_same, et, List.map_append]; rfl, fun b u e => by rw [upd_ne (ne_of_none e nT)]; exact sm _ _ e⟩
          rw [List.length_map]
          have := List.length_filter_le (fun z => decide (z ≠ first)) (ys.take j)
          rw [List.length_take] at this
          omega
        · have c4 : ¬ decide (y ≠ first) = true := fun z => c3 (en.trans z)
          rw [if_neg c4, List.append_nil] at et
          exact ⟨by rw [et]; exact eT, sm⟩
      obtain ⟨eT, sm⟩ := h
      rw [List.length_map, List.take_length] at eT
      have N9 := N8.same sm
      have fne : (ys.filter fun z => decide (z ≠ first)) ≠ [] := fun e => by
        obtain ⟨n1, n2, n3, ne⟩ := hok.names
        obtain ⟨_, _, _, nf, _⟩ := hok.parts
        cases hE : ends with
        | nil => exact ne hE
        | cons x r =>
          have mx : x ∈ ends := by rw [hE]; exact List.mem_cons_self
          have : x ∈ ys.filter fun z => decide (z ≠ first) := List.mem_filter.mpr ⟨(hys.2.2 x).mpr (mem_states.mpr (.inr (.inl mx))), decide_eq_true (fun z => nf (by rw [← z]; exact mx))⟩
          rw [e] at this
          cases this
      have fle := List.length_filter_le (fun z => decide (z ≠ first)) ys
      refine ⟨d, .ref T, _, rfl, N9.hd, .inl ⟨T, rfl, nTd, .inl (.inl (.inl eT))⟩, fun e => fne ?_, by rw [List.length_map]; omega, fun v a b c' mv => ?_⟩
      · exact List.map_eq_nil_iff.mp e
      obtain ⟨z3, mz, rfl⟩ := List.mem_map.mp mv
      obtain ⟨mz1, mz2⟩ := List.mem_filter.mp mz
      have hdA : DiceAt (upd G d (.lst [V.int a, V.int b, V.int c'])) d := ⟨_, _, _, upd_same⟩
      have sxA : SameX d G (upd G d (.lst [V.int a, V.int b, V.int c'])) := (SameX.refl d G).atd
      have NA := N9.step hd sxA hdA
      have sx8A : SameX d G8 (upd G d (.lst [V.int a, V.int b, V.int c'])) := (SameX.of sm).trans sxA
      generalize upd G d (.lst [V.int a, V.int b, V.int c']) = GA at *
      refine ⟨_, rfl, _, rfl, _, rfl, d, .ref So, _, rfl, NA.hd, .inl ⟨So, rfl, nSd, .inl (.inl (.inl (sx8A _ _ nSd eS8)))⟩, fun e => neL ?_, by rw [List.length_map]; omega, fun v2 a2 b2 c2' mv2 => ?_⟩
      · exact List.map_eq_nil_iff.mp e
      obtain ⟨y, my, rfl⟩ := List.mem_map.mp mv2
      obtain ⟨hyL, wne⟩ := hLs y my
      have hdB : DiceAt (upd GA d (.lst [V.int a2, V.int b2, V.int c2'])) d := ⟨_, _, _, upd_same⟩
      have sxB : SameX d GA (upd GA d (.lst [V.int a2, V.int b2, V.int c2'])) := (SameX.refl d GA).atd
      have NB := NA.step hd sxB hdB
      have sx8B := sx8A.trans sxB
      generalize upd GA d (.lst [V.int a2, V.int b2, V.int c2']) = GB at *
      have nDd := dice_ne hd nD
      have hDB : GB D = some (DN P w D (toN L)) := sx8B _ _ nDd m8
      have kB : ∀ x ∈ L, KeyA K GB x.2.1 (keyK x.1) := fun x m => (k8 x m).mono fun _ _ q => sqT_sx N8.hd sx8B q
      have mk : y.1 ∈ L.map (·.1) := List.mem_map.mpr ⟨y, hyL, rfl⟩
      refine ⟨D, y.2.1, toN L, keyK y.1, rfl, rfl, hDB, kN kB, kB y hyL, by rw [toN_len]; omega, ?_⟩
      rw [putN_to]
      have nt : ∀ ys, ¬ Rd GB D (.tup ys) := no_dn hDB
      have neF : fo ≠ D := fun z => by have := NB.hf; rw [z, hDB] at this; cases this
      have neL1 : l1 ≠ D := fun z => by have := NB.hl; rw [z, hDB] at this; cases this
      have neS : sl ≠ D := fun z => by have := NB.hs; rw [z, hDB] at this; cases this
      refine ⟨put3 y.1 z3 _, rfl, ⟨by rw [upd_ne neF]; exact NB.hf, by rw [upd_ne neL1]; exact NB.hl, ⟨putM L y.1 y.2.1 (.str z3), upd_same, fun x m => ?_, ml_put3 m3 y.1 y.2.1 z3 mk⟩, by rw [upd_ne neS]; exact NB.hs, fun b u n e => by rw [upd_ne (ne_of_none e nD)]; exact NB.sx b u n e, ?_, NB.nf, NB.nl, nD, NB.ns, near3 hok ((hys.2.2 z3).mp mz1) (of_decide_eq_true mz2) wne⟩⟩
      · obtain ⟨y', my', q1, q2⟩ := putM_mem mk m
        rw [q1, q2]
        exact (kB y' my').mono fun _ _ q => sqT_upd nt q
      · obtain ⟨a, b, c, e⟩ := NB.hd
        exact ⟨a, b, c, by rw [upd_ne nDd.symm]; exact e⟩
    rintro σ' G8 ⟨R2, rfl, N8⟩
    exact ⟨_, rfl, q fo l1 D first1 ends1 R2 G8 N8.sx N8.hd ⟨N8.hf, .inl (.inl N8.hl), N8.hD⟩ N8.ok nD⟩
end
end Kl

set_option maxRecDepth 100000
set_option maxHeartbeats 4000000
namespace Gx
open PySem PySem.Spec PyProof.Rows L2 SeqAt Mx
open AutoSeq1 (wpAny_loadPart')
/-! ### a dict is no text; data and dicts in a tuple -/
theorem str_eq_dict (b : Str) (u : Tok) (l : Addr) (dd : Option Addr) (sl : Array (Option Value)) (es : Array DictEntry) (ep : Nat) :
    Meets (Builtin.«str.__eq__» ⟨[.str b u, .ref l], []⟩) (fun _ R s => s.heap.get? l = some { cls := .type "dict", dict := dd, data := .dict es ep, slots := sl } ∧ R (.ok (.ret .notImplemented)) s) :=
  .of_wp fun prog w A R s h => by obtain ⟨hp, g, d, tk, os⟩ := s; obtain ⟨hl, h⟩ := h; wp_walk using wpAny_loadPart' hl, wpAny_load hl; exact ⟨_, rfl, h⟩
theorem dict_eq_str {prog : Program} {w : World} {A : Around} {E : Value → Shared → Prop} {s : Shared} {Q : Value → Shared → Prop} {a : Addr} {b : Str} {u : Tok} (da : s.TypeIs (.ref a) "dict") (h : Q .notImplemented s) :
    wpAny (model prog w) A (call (.builtin "dict.__eq__") [.ref a, .str b u]) Q E s := by
  refine wpAny_call_entry PySem.F.slot_dict_eq da PySem.F.entry_dict_eq ?_ (PySem.F.args_dict_eq_2 _ _)
  show wpAny _ _ (Builtin.Dict.dictSlotArgs "__eq__" ⟨[.ref a, .str b u], []⟩ >>= _) _ _ s
  refine wpAny_bind ?_
  unfold Builtin.Dict.dictSlotArgs
  refine wpAny_bind (wpAny_notOrdered_dict da ?_)
  show wpAny _ _ (pure (Value.ref a, Value.str b u)) _ _ s
  refine wpAny_pure ?_
  refine wpAny_bind (wpAny_isInstance (T := "str") (typeIs_str s b u) PySem.F.sub_str_dict ?_)
  simp only [Bool.not_false, if_true]
  exact wpAny_bind (wpAny_rule (wpAny_bind (wpAny_pure (wpAny_pure ⟨_, rfl, h⟩))))
section
variable {A : Around} {s : Shared}
theorem eqAt_str_dict {l : Addr} {ob : Obj} (b : Str) (u : Tok) (hl : s.heap.get? l = some ob) (hc : ob.cls = .type "dict") {es : Array DictEntry} {ep : Nat} (hde : ob.data = .dict es ep) (hu : A.units < cLine) : EqAt A s (.str b u) (.ref l) false := fun prog w E Q h => by
  unfold eqBool
  refine wpAny_holding ?_
  refine wpAny_ite_split (fun hab => absurd (eq_of_beq hab) nofun) (fun _ => ?_)
  obtain ⟨cls2, dd2, data2, sl2⟩ := ob
  simp only at hc hde
  subst hc hde
  refine wpAny_bind ?_
  exact rc_eq_decline_or (k := false) (typeIs_str s b u) ⟨_, hl, rfl⟩ (by decide) F.sub_dict_str F.slot_str_eq F.slot_dict_eq_refl
    (fun _ hq => call_meets F.slot_str_eq (typeIs_str s b u) F.entry_str_eq (F.args_str_eq_2 _ _) (str_eq_dict b u l dd2 sl2 es ep) ⟨hl, hq⟩)
    (fun _ hq => dict_eq_str ⟨_, hl, rfl⟩ hq)
    (fun _ hq => wpAny_of_eq (rfl : isSame (.str b u) (.ref l) = pure false) hq) (.inr hu) (wpAny_truthy_bool h)
end
section
variable {X : Cx}
theorem vals_mem : ∀ {zs : List Str} {its : List Value} {y : Value}, Vals (zs.map V.str) its → y ∈ its → ∃ z t, y = .str z t
  | [], _, _, .nil, h => nomatch h
  | z :: zs, _, y, .cons r t, h => by
    rcases List.mem_cons.mp h with rfl | h
    · obtain ⟨tk, e⟩ := r
      exact ⟨z, tk, e⟩
    · exact vals_mem t h
/-- x in a tuple of texts: data that are not deep, or a dict -/
def rInTx (K : PySem.W.Frag) : R2 := fun x y H Q => ∃ (p : Addr) (zs : List Str), y = .ref p ∧ SqT K H p (zs.map V.str) ∧ (∀ z ∈ zs, PyData.strOk z = true) ∧
  ((∃ d, Dp K H x d ∧ d.canLay0 = true ∧ d.depth ≤ 10 ∧ Q (.bl ((tD zs).any fun z => PyData.eqv z d)) H) ∨ ∃ a kvs, x = .ref a ∧ H a = some (.dK kvs) ∧ Q (.bl false) H)
theorem op_inTx (hu : X.A.units + 64 < cLine) : OpR X (compareOp .In) (rInTx X.K) := by
  intro pins s σ H x y v u Q I rx ry h
  obtain ⟨p, zs, rfl, hp, ok, h⟩ := h
  rcases h with ⟨d, hd, sd, dp, q⟩ | ⟨a, kvs, rfl, ea, q⟩
  · obtain ⟨as, r1⟩ := Dp.reads I d x v hd rx
    obtain ⟨bs, r2⟩ := Dp.reads I (.tuple (tD zs)) (.ref p) u (.tup hp (dp_texts zs)) ry
    exact SeqAt.in_tuple_reads r2 r1 (canLay_texts zs ok) sd (by omega) ⟨.bl _, H, I, rfl, q⟩
  · cases rx
    cases ry
    obtain ⟨its, rv, pl, hz⟩ := I.tuple hp
    obtain ⟨_, _, vs, _, hd⟩ := dk_of I.hok ea
    obtain ⟨ob, hb, hD⟩ := Heap.dictOf_iff.mp hd
    obtain ⟨es, ep, ex, ed, _⟩ := hD
    have hcb : ob.cls = .type "dict" := ex.1
    refine SeqAt.in_tupleAt (fun _ => false) pl (fun y hy => ?_) ⟨.bl false, H, I, ?_, q⟩
    · rw [List.mem_toArray] at hy
      obtain ⟨z, t, rfl⟩ := vals_mem rv hy
      exact eqAt_str_dict z t hb hcb ed (by show X.A.units + 1 < cLine; omega)
    · show Value.bool _ = Value.bool false
      rw [Array.any_eq_false' |>.mpr (fun _ _ => by simp)]
end
end Gx

set_option maxRecDepth 100000
set_option maxHeartbeats 4000000
namespace Gx
open PySem PySem.Spec PyProof.Rows L2 SeqAt Mx
/-! ### a dict, and an instance, beside a text -/
section
variable {A : Around} {s : Shared}
theorem rc_dict_str {l : Addr} {ob : Obj} (b : Str) (u : Tok) (hl : s.heap.get? l = some ob) (hc : ob.cls = .type "dict") {es : Array DictEntry} {ep : Nat} (hde : ob.data = .dict es ep) (hu : A.units < cLine) : RcAt A s (.ref l) (.str b u) false := fun prog w E Q h => by
  obtain ⟨cls2, dd2, data2, sl2⟩ := ob
  simp only at hc hde
  subst hc hde
  exact rc_eq_decline_or (k := false) ⟨_, hl, rfl⟩ (typeIs_str s b u) (by decide) F.sub_str_dict F.slot_dict_eq F.slot_str_eq_refl
    (fun _ hq => dict_eq_str ⟨_, hl, rfl⟩ hq)
    (fun _ hq => call_meets F.slot_str_eq_refl (typeIs_str s b u) F.entry_str_eq (F.args_str_eq_2 _ _) (str_eq_dict b u l dd2 sl2 es ep) ⟨hl, hq⟩)
    (fun _ hq => wpAny_of_eq (rfl : isSame (.ref l) (.str b u) = pure false) hq) (.inr hu) h
end
section
variable {X : Cx} {C : Addr} {k : Nat} {ps : List Str} {sp : Sp}
def rEqDS : R2 := fun x y H Q => ∃ a kvs z, x = .ref a ∧ y = .str z ∧ H a = some (.dK kvs) ∧ Q (.bl false) H
theorem op_eqDS (hu : X.A.units + 64 < cLine) : OpR X (compareOp .Eq) rEqDS := by
  intro pins s σ H x y v u Q I rx ry h
  obtain ⟨a, kvs, z, rfl, rfl, ea, q⟩ := h
  obtain rfl : v = Value.ref a := rx
  obtain ⟨t, rfl⟩ := (show ∃ t, u = Value.str z t from ry)
  obtain ⟨_, _, vs, _, hd⟩ := dk_of I.hok ea
  obtain ⟨ob, hb, hD⟩ := Heap.dictOf_iff.mp hd
  obtain ⟨es, ep, ex, ed, _⟩ := hD
  exact rc_dict_str z t hb ex.1 ed (by omega) _ _ _ _ ⟨.bl false, H, I, rfl, q⟩
theorem sub_str_own {K : PySem.W.Frag} {C : Addr} : PySem.W.subIn K (.type "str") (.ref C) = some false := by
  have e : fastBuiltinMro "str" = some [.type "str", .type "object"] := by decide +kernel
  show (fastBuiltinMro "str").map (·.contains (.ref C)) = some false
  rw [e]
  first
    | rfl
    | simp
def rEqMS (C : Addr) (sp : Sp) : R2 := fun x y H Q => ∃ a dx fs z, x = .ref a ∧ y = .str z ∧ H a = some (.ins C dx fs) ∧ sp [.ref a, y] H (fun v H' => ∃ b, v = .bl b ∧ Q (.bl b) H') E0
theorem op_eqMS (c : CalM X.prog X.w X.K X.mg X.base C "__eq__" k ps sp) (hr : Room k X.A) : OpR X (compareOp .Eq) (rEqMS C sp) := by
  intro pins s σ H x y v u Q I rx ry h
  obtain ⟨f, fd, F, me, b, _⟩ := c
  obtain ⟨a, dx, fs, z, rfl, rfl, ea, q⟩ := h
  obtain rfl : v = Value.ref a := rx
  obtain ⟨mA, O, _⟩ := ins_get I.hok ea
  obtain ⟨od, J, _⟩ := O.look
  obtain ⟨mm, hF⟩ := I.fr
  have lk : PySem.W.Looks (model X.prog X.w) s.heap (typeOf u) (.type "str") := by
    obtain ⟨t, rfl⟩ := (show ∃ t, u = Value.str z t from ry)
    exact PySem.W.looks_reads (Reads.str z t)
  have nf : PySem.W.notFirst X.K C (.type "str") = true := by simp [PySem.W.notFirst, sub_str_own]
  show wpAny _ _ (richCompare .Eq (.ref a) u) _ _ _
  refine PySem.W.cmp_K (op := .Eq) hr.units0 hF I.ok.mod.kin J lk nf me.at_ me.fn (wpAny_mono (run_below F hr rfl b I (.cons (rel_ref _) (.cons ry .nil)) q) (fun r s' z => ?_) fun _ _ e => e)
  obtain ⟨v', H', I', rv, t, rfl, q'⟩ := z
  cases rv
  exact ⟨.bl t, H', I', rfl, q'⟩
/-- an operator by one of two readings -/
theorem op_two {op : Value → Value → Sem Value} {r1 r2 : R2} (h1 : OpR X op r1) (h2 : OpR X op r2) : OpR X op (fun x y H Q => r1 x y H Q ∨ r2 x y H Q) := fun pins s σ H x y v u Q I rx ry h =>
  h.elim (h1 pins s σ H x y v u Q I rx ry) (h2 pins s σ H x y v u Q I rx ry)
/-- statements that are never reached -/
theorem pss_nv {b : List Stmt} : PSs X b (fun _ _ _ => False) := ⟨fun _ _ _ _ _ _ h => h.elim⟩
end
end Gx

set_option maxRecDepth 100000
set_option maxHeartbeats 4000000
namespace Gx
open PySem PySem.Spec PySem.Calls PyProof.Rows L2 SeqAt Mx
/-! ### an instance beside what is none of its class -/
theorem sub_b_own {K : PySem.W.Frag} {C : Addr} {T : String} {l : List Value} (e : fastBuiltinMro T = some l) (h : l.contains (.ref C) = false) : PySem.W.subIn K (.type T) (.ref C) = some false := by
  show (fastBuiltinMro T).map (·.contains (.ref C)) = some false
  rw [e]
  show some (l.contains (.ref C)) = some false
  rw [h]
inductive OthO (K : PySem.W.Frag) (H : Hp) (C : Addr) : V → Value → Prop
  | non : OthO K H C .non (.type "NoneType")
  | bl (b : Bool) : OthO K H C (.bl b) (.type "bool")
  | int (i : Int) : OthO K H C (.int i) (.type "int")
  | str (z : Str) : OthO K H C (.str z) (.type "str")
  | lst {a : Addr} {xs : List V} (e : H a = some (.lst xs)) : OthO K H C (.ref a) (.type "list")
  | own {a D dx : Addr} {fs : List (Str × V)} (e : H a = some (.ins D dx fs)) (n : PySem.W.subIn K (.ref D) (.ref C) = some false) : OthO K H C (.ref a) (.ref D)
  | oth {y : V} {t : Value} (o : Oth K H C y t) : OthO K H C y t
  | dn {P : Program} {w : World} {a : Addr} {L : NL} (e : Rd H a (DN P w a L)) : OthO K H C (.ref a) (.type "dict")
section
variable {X : Cx} {C : Addr} {k : Nat} {ps : List Str} {sp : Sp}
theorem OthO.looks {M : Model} {pins : List (Addr × Obj)} {σ : L2.St} {H : Hp} {s : Shared} {y : V} {u t : Value} (I : Inv X pins σ H s) (o : OthO X.K H C y t) (r : RelV y u) :
    PySem.W.Looks M s.heap (typeOf u) t ∧ PySem.W.notFirst X.K C t = true := by
  have nf : ∀ {t : Value}, PySem.W.subIn X.K t (.ref C) = some false → PySem.W.notFirst X.K C t = true := fun h => by simp [PySem.W.notFirst, h]
  cases o with
  | non =>
    cases (show u = Value.none from r)
    exact ⟨PySem.W.looks_reads Reads.none, nf (sub_b_own (show fastBuiltinMro "NoneType" = some [.type "NoneType", .type "object"] by decide +kernel) rfl)⟩
  | bl b =>
    cases (show u = Value.bool b from r)
    exact ⟨PySem.W.looks_reads (Reads.bool b), nf (sub_b_own (show fastBuiltinMro "bool" = some [.type "bool", .type "int", .type "object"] by decide +kernel) rfl)⟩
  | int i =>
    obtain ⟨t, rfl⟩ := (show ∃ t, u = Value.int i t from r)
    exact ⟨PySem.W.looks_reads (Reads.int i t), nf (sub_b_own (show fastBuiltinMro "int" = some [.type "int", .type "object"] by decide +kernel) rfl)⟩
  | str z =>
    obtain ⟨t, rfl⟩ := (show ∃ t, u = Value.str z t from r)
    exact ⟨PySem.W.looks_reads (Reads.str z t), nf sub_str_own⟩
  | @lst a xs e =>
    obtain rfl : u = Value.ref a := r
    obtain ⟨_, _, n, _, h1⟩ := (show ObjOk X.prog X.w H s.heap a (.lst xs) from I.hok a _ e)
    refine ⟨?_, nf (sub_b_own (show fastBuiltinMro "list" = some [.type "list", .type "object"] by decide +kernel) rfl)⟩
    intro A Q E s' kp q
    exact wpAny_typeOf (T := "list") ⟨_, kp _ _ h1, rfl⟩ q
  | @own a D dx fs e n =>
    obtain rfl : u = Value.ref a := r
    obtain ⟨mA, O, _⟩ := ins_get I.hok e
    obtain ⟨od, J, _⟩ := O.look
    exact ⟨J.type, nf n⟩
  | oth o => exact o.looks I r
  | @dn P w a L e =>
    obtain rfl : u = Value.ref a := r
    obtain ⟨_, _, xs, _, o, es, ep, h1, h2, _⟩ : DNp P w a L s.heap := (show ObjOk X.prog X.w H s.heap a (DN P w a L) from e.ok I.hok).1
    refine ⟨?_, nf (sub_b_own (show fastBuiltinMro "dict" = some [.type "dict", .type "object"] by decide +kernel) rfl)⟩
    intro A Q E s' kp q
    exact wpAny_typeOf (T := "dict") ⟨o, kp _ _ h1, h2.1⟩ q
def rEqO (K : PySem.W.Frag) (C : Addr) (sp : Sp) : R2 := fun x y H Q => ∃ a dx fs t, x = .ref a ∧ H a = some (.ins C dx fs) ∧ OthO K H C y t ∧ sp [.ref a, y] H (fun v H' => ∃ b, v = .bl b ∧ Q (.bl b) H') E0
theorem op_eqO (c : CalM X.prog X.w X.K X.mg X.base C "__eq__" k ps sp) (hr : Room k X.A) : OpR X (compareOp .Eq) (rEqO X.K C sp) := by
  intro pins s σ H x y v u Q I rx ry h
  obtain ⟨f, fd, F, me, b, _⟩ := c
  obtain ⟨a, dx, fs, t, rfl, ea, o, q⟩ := h
  obtain rfl : v = Value.ref a := rx
  obtain ⟨mA, O, _⟩ := ins_get I.hok ea
  obtain ⟨od, J, _⟩ := O.look
  obtain ⟨mm, hF⟩ := I.fr
  obtain ⟨lk, nf⟩ := o.looks (M := model X.prog X.w) I ry
  show wpAny _ _ (richCompare .Eq (.ref a) u) _ _ _
  refine PySem.W.cmp_K (op := .Eq) hr.units0 hF I.ok.mod.kin J lk nf me.at_ me.fn (wpAny_mono (run_below F hr rfl b I (.cons (rel_ref _) (.cons ry .nil)) q) (fun r s' z => ?_) fun _ _ e => e)
  obtain ⟨v', H', I', rv, t, rfl, q'⟩ := z
  cases rv
  exact ⟨.bl t, H', I', rfl, q'⟩
def rNeO (K : PySem.W.Frag) (C : Addr) (sp : Sp) : R2 := fun x y H Q => ∃ a dx fs t, x = .ref a ∧ H a = some (.ins C dx fs) ∧ OthO K H C y t ∧ sp [.ref a, y] H (fun v H' => ∃ b, v = .bl b ∧ Q (.bl (!b)) H') E0
theorem op_neO (c : CalM X.prog X.w X.K X.mg X.base C "__eq__" k ps sp) (hn : PySem.W.findIn X.K (.ref C) "__ne__" = some (some (.builtin "object.__ne__"))) (hm : PySem.W.mroIn X.K C (.type "object") = some true) (hr : Room (k + 1) X.A) :
    OpR X (compareOp .NotEq) (rNeO X.K C sp) := by
  intro pins s σ H x y v u Q I rx ry h
  obtain ⟨f, fd, F, me, b, _⟩ := c
  obtain ⟨a, dx, fs, t, rfl, ea, o, q⟩ := h
  obtain rfl : v = Value.ref a := rx
  obtain ⟨mA, O, _⟩ := ins_get I.hok ea
  obtain ⟨od, J, _⟩ := O.look
  obtain ⟨lk, nf⟩ := o.looks (M := model X.prog X.w) I ry
  show wpAny _ _ (richCompare .NotEq (.ref a) u) _ _ _
  refine rc_neM I.kIn J hm hn me.at_ me.fn hr.units0 hr.in1.units0 lk nf (wpAny_mono (run_below F hr.in1 rfl b I (.cons (rel_ref _) (.cons ry .nil)) q) (fun r s' z => ?_) fun _ _ e => e)
  obtain ⟨v', H', I', rv, t, rfl, q'⟩ := z
  cases rv
  exact ⟨t, rfl, .bl (!t), H', I', rfl, q'⟩
end
end Gx

set_option maxRecDepth 100000
set_option maxHeartbeats 4000000
namespace Gx
open PySem PySem.Spec PyProof.Rows L2
/-! ### dicts compared, their values data or dicts with nested keys -/
/-- two values, and whether they are equal -/
def VEq (P : Program) (w : World) (K : PySem.W.Frag) (H : Hp) (x y : V) (b : Bool) : Prop :=
  (∃ d e, Dp K H x d ∧ Dp K H y e ∧ SeqAt.shaped d = true ∧ SeqAt.shaped e = true ∧ b = PyData.eqv d e) ∨
    ∃ a c L M, x = .ref a ∧ y = .ref c ∧ a ≠ c ∧ NDict P w K H a L ∧ NDict P w K H c M ∧ Texts L ∧ Texts M ∧ b = eqN L M
inductive HitsW (P : Program) (w : World) (K : PySem.W.Frag) (H : Hp) (ls : List (Key × V)) : List (Key × V) → Bool → Prop
  | nil : HitsW P w K H ls [] true
  | miss {p : Key × V} {r : List (Key × V)} (e : valV ls p.1 = none) : HitsW P w K H ls (p :: r) false
  | hit {p : Key × V} {r : List (Key × V)} {y : V} {b c : Bool} (at_ : valV ls p.1 = some y) (h : VEq P w K H p.2 y c) (more : HitsW P w K H ls r b) : HitsW P w K H ls (p :: r) (c && b)
section
variable {X : Cx} {P : Program} {w : World} {K : PySem.W.Frag}
theorem VEq.raw {pins : List (Addr × Obj)} {σ : L2.St} {H : Hp} {s : Shared} {A : Around} (I : Inv X pins σ H s) (hu : A.in1.units + 66 < cLine) {x y : V} {v u : Value} {b : Bool} (h : VEq X.prog X.w X.K H x y b) (rx : RelV x v) (ry : RelV y u) :
    SeqAt.EqP X.prog X.w A.in1 s v u b := by
  rcases h with ⟨d, e, hd, he, sd, se, rfl⟩ | ⟨a, c, L, M, rfl, rfl, ne, ha, hc, tL, tM, rfl⟩
  · obtain ⟨as, r1⟩ := Dp.reads I d x v hd rx
    obtain ⟨bs, r2⟩ := Dp.reads I e y u he ry
    exact SeqAt.EqAt.eqP (PySem.W.keq_at r1 r2 sd se (by omega))
  · obtain rfl : v = Value.ref a := rx
    obtain rfl : u = Value.ref c := ry
    refine SeqAt.eqP_refs ne fun E Q q => ?_
    obtain ⟨_, ya, va, ra, da⟩ := dn_rd I ha
    obtain ⟨_, yc, vc, rc, dc⟩ := dn_rd I hc
    refine rcH_dicts (show A.in1.in1.units + 8 < cLine by simp only [Around.in1_units] at hu ⊢; omega) ya yc da dc (by omega) (fun _ => hitsN rc tM ra tL) _ _ ?_
    have e : (va.length == vc.length && (prN L).all fun p => decide (valV (prN M) p.1 = some p.2)) = eqN L M := by
      unfold eqN
      rw [ra.length, rc.length]
      rfl
    rw [e]
    exact q
theorem HitsW.raw {pins : List (Addr × Obj)} {σ : L2.St} {H : Hp} {s : Shared} {A : Around} (I : Inv X pins σ H s) (hu : A.in1.units + 66 < cLine) {ls : List (Key × V)} {vb : List (Key × Value)} (rb : KV ls vb) {ks : List (Key × V)} {r : Bool} (h : HitsW X.prog X.w X.K H ls ks r) :
    ∀ {va : List (Key × Value)}, KV ks va → PySem.W.KeqHitsP X.prog X.w A.in1 s vb va r := by
  induction h with
  | nil =>
    intro va ra
    unfold KV at ra
    cases ra
    exact .nil
  | @miss p r e =>
    intro va ra
    unfold KV at ra
    cases ra with
    | @cons _ q _ qs h t =>
      obtain ⟨k, v⟩ := q
      obtain ⟨h1, h2⟩ := h
      have h1' : p.1 = k := h1
      have rr := rb.val p.1
      rw [e, h1'] at rr
      refine .miss ?_
      cases c : valueAt vb k with
      | none => rfl
      | some z => rw [c] at rr; exact rr.elim
  | @hit p r y b c at_ h0 more ih =>
    intro va ra
    unfold KV at ra
    cases ra with
    | @cons _ q _ qs h t =>
      obtain ⟨k, v⟩ := q
      obtain ⟨h1, h2⟩ := h
      have h1' : p.1 = k := h1
      have rr := rb.val p.1
      rw [at_, h1'] at rr
      obtain ⟨z, hz, rz⟩ := RelO.some_of rr
      exact .hit hz (h0.raw I hu h2 rz) (ih t)
def rEqW (P : Program) (w : World) (K : PySem.W.Frag) : R2 := fun x y H Q => ∃ a b ks ls r, x = .ref a ∧ y = .ref b ∧ H a = some (.dK ks) ∧ H b = some (.dK ls) ∧ (ks.length = ls.length → HitsW P w K H ls ks r) ∧ Q (.bl (ks.length == ls.length && r)) H
theorem op_eqW (hx : XI X P w K) (hu : X.A.units + 72 < cLine) : OpR X (compareOp .Eq) (rEqW P w K) := by
  obtain ⟨rfl, rfl, rfl⟩ := hx
  intro pins s σ H x y v u Q I rx ry h
  obtain ⟨a, b, ks, ls, r, rfl, rfl, ea, eb, hits, q⟩ := h
  obtain rfl : v = Value.ref a := rx
  obtain rfl : u = Value.ref b := ry
  obtain ⟨_, ya, va, ra, da⟩ := dk_of I.hok ea
  obtain ⟨_, yb, vb, rb, db⟩ := dk_of I.hok eb
  have l1 := ra.length
  have l2 := rb.length
  refine PySem.W.rcP_dicts (knd := mixKind X.prog X.w) (r := r) ya yb da db (by omega) (fun e => (hits (by omega)).raw I (by simp only [Around.in1_units]; omega) rb ra) _ _ ⟨.bl (ks.length == ls.length && r), H, I, ?_, q⟩
  rw [l1, l2]
  rfl
end
end Gx

set_option maxRecDepth 100000
set_option maxHeartbeats 4000000
namespace Kl
open PySem PySem.Spec PyProof.Rows L2 Gx Mx
theorem hu72_of {A : Around} {k : Nat} (hr : Room k A) : A.units + 72 < cLine := by
  have := hr.un
  omega
theorem RdrAt.sx {P : Program} {w : World} {K : PySem.W.Frag} {C d : Addr} {H H' : Hp} {x : Addr} {first : Str} {ends : List Str} {R : Rds} (h : RdrAt P w K C H x first ends R) (hd : DiceAt H d) (s : SameX d H H') : RdrAt P w K C H' x first ends R := by
  obtain ⟨dx, e, d', st, sp, ys, M, h1, h2, ⟨L, k1, k2, k3⟩, h4, h5, h6, h7⟩ := h
  obtain ⟨a, b, c, e0⟩ := id hd
  exact ⟨dx, e, d', st, sp, ys, M, s _ _ (fun z => by rw [z, e0] at h1; cases h1) h1, sqT_sx hd s h2, ⟨L, s _ _ (fun z => by rw [z, e0] at k1; cases k1) k1, fun y m => (k2 y m).mono fun _ _ q => sqT_sx hd s q, k3⟩, sqT_sx hd s h4, h5, sqT_sx hd s h6, h7.mono fun _ _ q => sqT_sx hd s q⟩
theorem eqRdr_same {first first' : Str} {ends ends' : List Str} {R R' S S' : Rds} (p : R'.Perm R) (q : S'.Perm S) (nR : (R.map (·.1)).Nodup) (nS : (S.map (·.1)).Nodup) : eqRdr first first' ends ends' R' S' = eqRdr first first' ends ends' R S := by
  unfold eqRdr
  rw [eqM_same p q nR nS]
theorem eqRdr_symm {first first' : Str} {ends ends' : List Str} {R S : Rds} (nR : (R.map (·.1)).Nodup) (nS : (S.map (·.1)).Nodup) : eqRdr first' first ends' ends S R = eqRdr first first' ends ends' R S := by
  unfold eqRdr
  rw [eqM_symm nR nS]
  have e1 : decide (first' = first) = decide (first = first') := by
    rw [Bool.eq_iff_iff, decide_eq_true_eq, decide_eq_true_eq]
    exact ⟨Eq.symm, Eq.symm⟩
  have e2 : decide (ends' = ends) = decide (ends = ends') := by
    rw [Bool.eq_iff_iff, decide_eq_true_eq, decide_eq_true_eq]
    exact ⟨Eq.symm, Eq.symm⟩
  rw [e1, e2]
theorem RdOk.she {first : Str} {ends : List Str} {R : Rds} (h : RdOk first ends R) : SeqAt.shaped (.tuple (tD ends)) = true := by
  obtain ⟨n1, n2, n3, ne⟩ := h.names
  exact shaped_textsT fun z m => name_sok (n2 z m)
theorem RdOk.shl {first : Str} {ends : List Str} {R : Rds} (h : RdOk first ends R) : SeqAt.shaped (.list (tD ends)) = true := by
  obtain ⟨n1, n2, n3, ne⟩ := h.names
  exact shaped_texts fun z m => name_sok (n2 z m)
theorem RdOk.shf {first : Str} {ends : List Str} {R : Rds} (h : RdOk first ends R) : SeqAt.shaped (.str first) = true := by
  obtain ⟨n1, n2, n3, ne⟩ := h.names
  exact (Sm.str (B := 8) (k := 1) (name_sok n1) h.f8).shaped (by decide)
section
variable {P : Program} {w : World} {K : PySem.W.Frag} {mg : Str → Option Value} {base : Heap}
/-! ### _law_equal_right -/
def spER (P : Program) (w : World) (K : PySem.W.Frag) : Sp := fun vs H Q _ => ∃ (d p el rd : Addr) (first : Str) (ends : List Str) (R : Rds), vs = [.ref d, .ref p] ∧ DiceAt H d ∧ PlainAt P w K H p el rd first ends R ∧ RdOk first ends R ∧ (∀ z ∈ statesL first ends R, z ∈ TENS) ∧
  ∀ H', SameX d H H' → DiceAt H' d → Q (.bl true) H'
theorem ok_er {C f : Addr} {fd : FuncData} (F : Fun K "_law_equal_right" "_law_equal_right" s_law_equal_right f fd) (T : Top K mg) (TC : Cl_Reader K mg C) : FnOk P w K mg base CX0 11 f fd ["_law_dice_here", "_law_plain"] (spER P w K) := by
  have cmr : Cal P w K mg base 10 "_law_made_reader" ["_law_plain"] (spMade P w K C) := T.d_law_made_reader.cal fun f fd F => ok_made F T TC
  have cnr : Cal P w K mg base 3 "_law_near" ["_law_dice_here", "_law_plain"] (spNR P w K) := T.d_law_near.cal fun f fd F => ok_nr F T
  have cp : Cal P w K mg base 2 "_law_pick" ["_law_dice_here", "_law_items"] (spPick K) := T.d_law_pick.cal fun f fd F => ok_pick F T
  have kLi : CalP P w K mg base C "lines" 2 (spRLines P w K C) := TC.p_lines.cal fun f fd F => ok_rlines F T TC
  have kRe : CalP P w K mg base C "reads" 1 (spRReads P w K C) := TC.p_reads.cal fun f fd F => ok_rreads F TC
  have kEq : CalM P w K mg base C "__eq__" 1 ["self", "other"] (spREq P w K C) := TC.m_eq.cal fun f fd F => ok_req F T TC
  refine F.ok sc_law_equal_right (fun vs H Q E h => ?_) (fun cdv A outer s H vs Q E hr h => ?_)
  · obtain ⟨d, p, el, rd, first, ends, R, rfl, _⟩ := h
    rfl
  · obtain ⟨d, p, el, rd, first, ends, R, rfl, hd, hP, hok, ten, q⟩ := h
    have hu := hu' hr
    have r1 := hr.mono (show 1 ≤ 10 by decide)
    have r2 := hr.mono (show 2 ≤ 10 by decide)
    have r3 := hr.mono (show 3 ≤ 10 by decide)
    refine ⟨_, pss_cut (ps_par (i := 2) (j := 3) rfl sc_law_equal_right.nd rfl rfl (by decide) rfl rfl (pa_cons (pe_cal cmr hr (by rfl) (pa_cons (pv 1) pa_nil)) (pa_cons (pe_cal cnr r3 (by rfl) (pa_cons (pv 0) (pa_cons (pv 1) pa_nil))) pa_nil)) (by kernel_rfl))
      (pss_cut (ps_par (i := 4) (j := 5) rfl sc_law_equal_right.nd rfl rfl (by decide) rfl rfl (pa_cons (pe_cal cmr hr (by rfl) (pa_cons (pv 3) pa_nil)) (pa_cons (pe_cmpR (op_eqW (P := P) (w := w) (K := K) (by exact ⟨rfl, rfl, rfl⟩) (hu72_of hr)) (pv 3) (pv 1) (by rfl)) pa_nil)) (by kernel_rfl))
      (pss_cut (ps_if (PW.pt (pw_or (pt_cmpR op_ne (pe_cmpR (op_eqM kEq r1) (pv 2) (pv 4) (by rfl)) (pv 5) (by rfl)) (pw_or1 (pt_cmpR op_eq (pe_cmpR (op_neM kEq TC.ne TC.ob r2) (pv 4) (pv 2) (by rfl)) (pv 5) (by rfl))))) (pss_one (ps_ret pe_bl)) pss_nil)
      (pss_cut (ps_set (i := 6) sc_law_equal_right.nd rfl (.inl rfl) (pe_cal cp (hr.mono (by decide)) (by rfl) (pa_cons (pv 0) (pa_cons (pe_lst (pa_cons pe_non (pa_cons pe_int (pa_cons pe_str (pa_cons (pe_propC (pv 2) TC.cl kLi r3 rfl) (pa_cons (pe_propC (pv 2) TC.cl kRe r2 rfl) (pa_cons (pe_tup pa_nil)
          (pa_cons (pe_dget hu (pv 1) pe_str (fun _ _ => rfl)) (pa_cons pe_bl (pa_cons (pv 1) (pa_cons (pe_lst (pa_cons (pv 2) pa_nil)) (pa_cons (pe_tup (pa_cons (pv 2) pa_nil)) pa_nil)))))))))))) pa_nil))))
      (pss_one (ps_ret (pe_and (pe_cmpR (op_neO kEq TC.ne TC.ob r2) (pv 2) (pv 6) (by rfl)) (pe_and (pe_not (pe_cmpR (op_eqO kEq r1) (pv 2) (pv 6) (by rfl))) (pe_one (pe_not (pe_cmpR (op_neM kEq TC.ne TC.ob r2) (pv 2) (pe_cal cmr hr (by rfl) (pa_cons (pv 1) pa_nil)) (by rfl))))))))))), ?_⟩
    have big : 100000 ≤ sizeLine := by decide
    have kN : ∀ {G : Hp} {L : ML}, (∀ x ∈ L, KeyA K G x.2.1 (keyK x.1)) → ∀ z ∈ toN L, KeyA K G z.2.1 z.1 := fun hk z hz => by
      obtain ⟨z', hz', rfl⟩ := List.mem_map.mp hz
      exact hk z' hz'
    -- one reader, a plain one near it
    refine ⟨fun σ' G => ∃ (x p' el' rd' : Addr) (R1 : Rds) (first' : Str) (ends' : List Str) (R' : Rds), σ' = [some (.ref d), some (.ref p), some (.ref x), some (.ref p'), none, none, none] ∧ R1.Perm R ∧ RdrAt P w K C G x first ends R1 ∧ PlainAt P w K G p' el' rd' first' ends' R' ∧ RdOk first' ends' R' ∧ rd' ≠ rd ∧ SameX d H G ∧ DiceAt G d, ?_, ?_⟩
    · refine ⟨_, rfl, p, el, rd, first, ends, R, rfl, hP, hok, fun R1 x G1 p1 asc1 nx s1 hR1 => ?_⟩
      have hd1 := dice_sm s1 hd
      refine ⟨_, rfl, _, rfl, d, p, el, rd, first, ends, R, rfl, hd1, hP.same s1, hok, ten, fun p' el' rd' first' ends' R' G2 sx2 hd2 P' ok' nr => ?_⟩
      refine ⟨_, _, rfl, x, p', el', rd', R1, first', ends', R', rfl, p1, hR1.sx hd1 sx2, P', ok', fun z => ?_, (SameX.of s1).trans sx2, hd2⟩
      obtain ⟨_, _, L, h3, _⟩ := hP.same s1
      rw [z, h3] at nr
      cases nr
    rintro σ' G1 ⟨x, p', el', rd', R1, first', ends', R', rfl, p1, hR1, P1', ok', nrr, sx1, hd1⟩
    have P1 := hP.sx hd sx1
    have ok1 := hok.perm p1
    -- another reader; whether the plain ones are the same
    refine ⟨fun σ' G => ∃ (y : Addr) (R2 : Rds), σ' = [some (.ref d), some (.ref p), some (.ref x), some (.ref p'), some (.ref y), some (.bl (eqRdr first first' ends ends' R R')), none] ∧ R2.Perm R' ∧ RdrAt P w K C G y first' ends' R2 ∧ Same G1 G, ?_, ?_⟩
    · refine ⟨_, rfl, p', el', rd', first', ends', R', rfl, P1', ok', fun R2 y G2 p2 asc2 ny s2 hR2 => ?_⟩
      obtain ⟨hp', he', L', k1', k2', k3'⟩ := P1'.same s2
      obtain ⟨hp, he, L, k1, k2, k3⟩ := P1.same s2
      refine ⟨_, rfl, _, rfl, p', p, plF first' el' rd', plF first el rd, _, rfl, rfl, hp', hp, fun _ => .hit (pf_first first el rd) (.inl ⟨.str first', .str first, .str _, .str _, ok'.shf, hok.shf, rfl⟩)
        (.hit (pf_ends first el rd) (.inl ⟨.list (tD ends'), .list (tD ends), .lst he' (dp_texts ends'), .lst he (dp_texts ends), ok'.shl, hok.shl, rfl⟩)
          (.hit (pf_reads first el rd) (.inr ⟨rd', rd, toN L', toN L, rfl, rfl, nrr, ⟨.inl k1', kN k2'⟩, ⟨.inl k1, kN k2⟩, texts_of k3', texts_of k3, rfl⟩) .nil)), ?_⟩
      have e : ((plF first' el' rd').length == (plF first el rd).length && (PyData.eqv (.str first') (.str first) && (PyData.eqv (.list (tD ends')) (.list (tD ends)) && (eqN (toN L') (toN L) && true)))) = eqRdr first first' ends ends' R R' := by
        rw [eqN_to k3' k3, Bool.and_true, eqM_symm hok.nd ok'.nd, PyData.eqv, PyData.eqv, eqv_texts]
        unfold eqRdr
        have e1 : (first' == first) = decide (first = first') := by
          rw [Bool.eq_iff_iff, beq_iff_eq, decide_eq_true_eq]
          exact ⟨Eq.symm, Eq.symm⟩
        have e2 : decide (ends' = ends) = decide (ends = ends') := by
          rw [Bool.eq_iff_iff, decide_eq_true_eq, decide_eq_true_eq]
          exact ⟨Eq.symm, Eq.symm⟩
        first
          | (rw [e1, e2]; rfl)
          | (rw [e2]; simp [e1])
      refine ⟨_, _, rfl, y, R2, ?_, p2, hR2, s2⟩
      rw [← e]
      rfl
    rintro σ' G2 ⟨y, R2, rfl, p2, hR2, s12⟩
    have hR1' := hR1.same s12
    have P2 := P1.same s12
    have hd2 := dice_sm s12 hd1
    have sx2 := sx1.trans (SameX.of s12)
    obtain ⟨dx, _, _, _, _, _, _, hx, _⟩ := id hR1'
    obtain ⟨dy, _, _, _, _, _, _, hy, _⟩ := id hR2
    have b12 : eqRdr first first' ends ends' R1 R2 = eqRdr first first' ends ends' R R' := eqRdr_same p1 p2 hok.nd ok'.nd
    have b21 : eqRdr first' first ends' ends R2 R1 = eqRdr first first' ends ends' R R' := (eqRdr_symm (ok1.nd) ((p2.map (·.1)).nodup_iff.mpr ok'.nd)).trans b12
    -- all right
    generalize eqRdr first first' ends ends' R R' = sb at b12 b21 ⊢
    refine ⟨fun σ' G => σ' = [some (.ref d), some (.ref p), some (.ref x), some (.ref p'), some (.ref y), some (.bl sb), none] ∧ G2 = G, ?_, ?_⟩
    · refine ⟨_, rfl, _, rfl, x, dx, _, .ref C, rfl, hx, .ins hy, x, .ref y, first, ends, R1, rfl, hR1', .inl ⟨y, first', ends', R2, rfl, hR2, hok.she, ok'.she, _, rfl, ?_⟩⟩
      rw [b12]
      refine ⟨_, rfl, rfl, _, rfl, ite2 (fun c => absurd c (by simp)) (fun _ => ?_)⟩
      refine ⟨_, rfl, _, rfl, y, dy, _, .ref C, rfl, hy, .ins hx, y, .ref x, first', ends', R2, rfl, hR2, .inl ⟨x, first, ends, R1, rfl, hR1', ok'.she, hok.she, _, rfl, ?_⟩⟩
      rw [b21]
      exact ⟨_, rfl, rfl, _, rfl, ite2 (fun c => absurd c (by cases sb <;> simp)) (fun _ => ⟨rfl, rfl⟩)⟩
    rintro σ' _ ⟨rfl, rfl⟩
    -- an odd value
    refine ⟨fun σ' G => ∃ (v : V) (t : Value), σ' = [some (.ref d), some (.ref p), some (.ref x), some (.ref p'), some (.ref y), some (.bl sb), some v] ∧ OthO K G C v t ∧ TyY P w K G v t ∧ PySem.W.kitOne K t (.ref C) = some false ∧ RdrAt P w K C G x first ends R1 ∧ PlainAt P w K G p el rd first ends R ∧ SameX d H G ∧ DiceAt G d, ?_, ?_⟩
    · have lr := ok1.lr
      refine ⟨_, rfl, _, rfl, x, dx, _, rfl, hx, x, first, ends, R1, rfl, hR1', ok1.nd, by omega, by have := hok.le; omega, hok.f8, hok.e8, ok1.r8, fun pl G3 npl s3 epl => ?_⟩
      refine ⟨_, rfl, x, dx, _, rfl, s3 _ _ hx, x, first, ends, R1, rfl, hR1'.same s3, ok1.nd, by omega, fun D9 G4 n9 s4 h9 => ?_⟩
      refine ⟨Nat.zero_le _, fun e ne => ?_⟩
      have s5 := same_new (o := .tup []) (Same.refl G4) ne
      have e5 : (upd G4 e (.tup [])) e = some (.tup []) := upd_same
      generalize upd G4 e (.tup []) = G5 at *
      have s25 := s3.trans (s4.trans s5)
      refine ⟨_, rfl, p, _, rfl, pg1 (s25 _ _ P2.1), _, rfl, _, rfl, by show 1 ≤ sizeLine; omega, fun lo no => ?_⟩
      have s6 := same_new (o := .lst [V.ref x]) (Same.refl G5) no
      have e6 : (upd G5 lo (.lst [V.ref x])) lo = some (.lst [V.ref x]) := upd_same
      generalize upd G5 lo (.lst [V.ref x]) = G6 at *
      refine ⟨_, rfl, by show 1 ≤ sizeLine; omega, fun to nt => ?_⟩
      have s7 := same_new (o := .tup [V.ref x]) (Same.refl G6) nt
      have e7 : (upd G6 to (.tup [V.ref x])) to = some (.tup [V.ref x]) := upd_same
      generalize upd G6 to (.tup [V.ref x]) = G7 at *
      refine ⟨by show 11 ≤ sizeLine; omega, fun li nl => ?_⟩
      have s8 := same_new (o := .lst [V.non, V.int 0, V.str "", V.ref pl, V.ref D9, V.ref e, V.str first, V.bl true, V.ref p, V.ref lo, V.ref to]) (Same.refl G7) nl
      have e8 : (upd G7 li (.lst [V.non, V.int 0, V.str "", V.ref pl, V.ref D9, V.ref e, V.str first, V.bl true, V.ref p, V.ref lo, V.ref to])) li = some (.lst [V.non, V.int 0, V.str "", V.ref pl, V.ref D9, V.ref e, V.str first, V.bl true, V.ref p, V.ref lo, V.ref to]) := upd_same
      have hd7 := dice_sm (s25.trans (s6.trans s7)) hd2
      have nld := dice_ne hd7 nl
      generalize upd G7 li (.lst [V.non, V.int 0, V.str "", V.ref pl, V.ref D9, V.ref e, V.str first, V.bl true, V.ref p, V.ref lo, V.ref to]) = G8 at *
      have s28 := s25.trans (s6.trans (s7.trans s8))
      have hd8 := dice_sm s8 hd7
      refine ⟨d, .ref li, _, rfl, hd8, .inl ⟨li, rfl, nld, .inl (.inl (.inl e8))⟩, by simp, by show 11 ≤ 100000; omega, fun v a b c mv => ?_⟩
      have hdA : DiceAt (upd G8 d (.lst [V.int a, V.int b, V.int c])) d := ⟨_, _, _, upd_same⟩
      have sxA : SameX d G8 (upd G8 d (.lst [V.int a, V.int b, V.int c])) := (SameX.refl d G8).atd
      generalize upd G8 d (.lst [V.int a, V.int b, V.int c]) = GA at *
      have sx2A : SameX d G2 GA := (SameX.of s28).trans sxA
      have RA := (hR1'.same s28).sx hd8 sxA
      have PA := (P2.same s28).sx hd8 sxA
      have sA : SameX d H GA := sx2.trans sx2A
      have nn : ∀ {z : Addr} {G : Hp} {u : HO}, G z = some u → DiceAt G d → (∀ zs, u ≠ .lst zs) → z ≠ d := fun e hd n z => by
        obtain ⟨a, b, c, e0⟩ := hd
        rw [z, e0] at e
        exact n _ (Option.some.inj e).symm
      have hd6 := dice_sm (s25.trans s6) hd2
      have one : ∀ t, OthO K GA C v t → TyY P w K GA v t → PySem.W.kitOne K t (.ref C) = some false → ∃ (v' : V) (t : Value), [some (V.ref d), some (V.ref p), some (V.ref x), some (V.ref p'), some (V.ref y), some (V.bl sb), some v] = [some (V.ref d), some (V.ref p), some (V.ref x), some (V.ref p'), some (V.ref y), some (V.bl sb), some v'] ∧ OthO K GA C v' t ∧ TyY P w K GA v' t ∧ PySem.W.kitOne K t (.ref C) = some false ∧ RdrAt P w K C GA x first ends R1 ∧ PlainAt P w K GA p el rd first ends R ∧ SameX d H GA ∧ DiceAt GA d :=
        fun t o ty k => ⟨v, t, rfl, o, ty, k, RA, PA, sA, hdA⟩
      have tup : ∀ {z : Addr} {xs : List V}, SqT K G8 z xs → v = .ref z → ∃ (v' : V) (t : Value), [some (V.ref d), some (V.ref p), some (V.ref x), some (V.ref p'), some (V.ref y), some (V.bl sb), some v] = [some (V.ref d), some (V.ref p), some (V.ref x), some (V.ref p'), some (V.ref y), some (V.bl sb), some v'] ∧ OthO K GA C v' t ∧ TyY P w K GA v' t ∧ PySem.W.kitOne K t (.ref C) = some false ∧ RdrAt P w K C GA x first ends R1 ∧ PlainAt P w K GA p el rd first ends R ∧ SameX d H GA ∧ DiceAt GA d := fun h ev => by
        have h2 := sqT_sx hd8 sxA h
        subst ev
        exact one _ (.oth (.tup h2)) (.inl (ty_sq h2)) TC.kitT
      simp only [List.mem_cons, List.not_mem_nil, or_false] at mv
      rcases mv with ev | ev | ev | ev | ev | ev | ev | ev | ev | ev | ev
      · subst ev; exact one _ .non (.inl (.base .non)) TC.kit_NoneType
      · subst ev; exact one _ (.int _) (.inl (.base (.int _))) TC.kit_int
      · subst ev; exact one _ (.str _) (.inl (.base (.str _))) TC.kit_str
      · exact tup (SqT.of ((s4.trans (s5.trans (s6.trans (s7.trans s8)))) _ _ epl)) ev
      · subst ev
        obtain ⟨L9, k1, k2, k3⟩ := h9
        have h8 := (s5.trans (s6.trans (s7.trans s8))) _ _ k1
        have hA := sxA _ _ (nn h8 hd8 fun zs z => nomatch z) h8
        exact one _ (.dn (.inl hA)) (.inr ⟨D9, toN L9, rfl, .inl hA, rfl⟩) TC.kitD
      · exact tup (SqT.of ((s6.trans (s7.trans s8)) _ _ e5)) ev
      · subst ev; exact one _ (.str _) (.inl (.base (.str _))) TC.kit_str
      · subst ev; exact one _ (.bl _) (.inl (.base (.bl _))) TC.kit_bool
      · subst ev
        exact one _ (.oth (.dict PA.1)) (.inl (.base (.dK PA.1))) TC.kitD
      · subst ev
        have h8 := (s7.trans s8) _ _ e6
        have nld : lo ≠ d := by
          obtain ⟨a, b, c, e0⟩ := hd8
          intro z
          rw [z, e0] at h8
          have h' := HO.lst.inj (Option.some.inj h8)
          cases h'
        have hA := sxA _ _ nld h8
        exact one _ (.lst hA) (.inl (.base (.lst hA))) TC.kit_list
      · exact tup (SqT.of (s8 _ _ e7)) ev
    rintro σ' G3 ⟨v, t, rfl, ho, ty, kt, hR3, P3, sx3, hd3⟩
    obtain ⟨dx3, _, _, _, _, _, _, hx3, _⟩ := id hR3
    refine ⟨_, rfl, _, rfl, x, dx3, _, t, rfl, hx3, ho, x, v, first, ends, R1, rfl, hR3, .inr ⟨t, ty, kt, _, rfl, _, rfl, ite2 (fun _ => ?_) (fun c => absurd rfl c)⟩⟩
    refine ⟨_, rfl, _, rfl, x, dx3, _, t, rfl, hx3, ho, x, v, first, ends, R1, rfl, hR3, .inr ⟨t, ty, kt, _, rfl, _, rfl, _, rfl, ite2 (fun _ => ?_) (fun c => absurd rfl c)⟩⟩
    refine ⟨_, rfl, _, rfl, p, el, rd, first, ends, R, rfl, P3, hok, fun R9 z G4 p9 asc9 nz s4 hR9 => ?_⟩
    obtain ⟨dz, _, _, _, _, _, _, hz, _⟩ := id hR9
    refine ⟨x, dx3, _, .ref C, rfl, s4 _ _ hx3, .ins hz, x, .ref z, first, ends, R1, rfl, hR3.same s4, .inl ⟨z, first, ends, R9, rfl, hR9, hok.she, hok.she, _, rfl, _, rfl, ?_⟩⟩
    have et : eqRdr first first ends ends R1 R9 = true := by
      unfold eqRdr
      rw [decide_eq_true rfl, decide_eq_true rfl, eqM_perm (p1.trans p9.symm) ((p9.map (·.1)).nodup_iff.mpr hok.nd)]
      rfl
    rw [et]
    exact q _ (sx3.trans (SameX.of s4)) (dice_sm s4 hd3)
end
end Kl

set_option maxRecDepth 100000
set_option maxHeartbeats 4000000
namespace Gx
open PySem PySem.Spec PyProof.Rows L2
/-! ### lists compared, their items data or dicts with nested keys -/
inductive VEqs (P : Program) (w : World) (K : PySem.W.Frag) (H : Hp) : List V → List V → List Bool → Prop
  | nil : VEqs P w K H [] [] []
  | cons {x y : V} {b : Bool} {xs ys : List V} {bs : List Bool} (h : VEq P w K H x y b) (t : VEqs P w K H xs ys bs) : VEqs P w K H (x :: xs) (y :: ys) (b :: bs)
theorem VEqs.get {P : Program} {w : World} {K : PySem.W.Frag} {H : Hp} : ∀ {xs ys : List V} {bs : List Bool}, VEqs P w K H xs ys bs → xs.length = ys.length ∧ bs.length = xs.length ∧ ∀ j, j < xs.length → ∃ x y, xs[j]? = some x ∧ ys[j]? = some y ∧ VEq P w K H x y (bs.getD j false)
  | _, _, _, .nil => ⟨rfl, rfl, fun j lt => absurd lt (Nat.not_lt_zero _)⟩
  | _, _, _, .cons h t => by
    obtain ⟨e1, e2, at_⟩ := t.get
    refine ⟨by rw [List.length_cons, List.length_cons, e1], by rw [List.length_cons, List.length_cons, e2], fun j lt => ?_⟩
    cases j with
    | zero => exact ⟨_, _, rfl, rfl, h⟩
    | succ j => exact at_ j (Nat.lt_of_succ_lt_succ lt)
section
variable {X : Cx} {P : Program} {w : World} {K : PySem.W.Frag}
def rEqLW (P : Program) (w : World) (K : PySem.W.Frag) : R2 := fun x y H Q => ∃ a b xs ys bs, x = .ref a ∧ y = .ref b ∧ SqL K H a xs ∧ SqL K H b ys ∧ VEqs P w K H xs ys bs ∧ Q (.bl (bs.all id)) H
theorem op_eqLW (hx : XI X P w K) (hu : X.A.units + 72 < cLine) : OpR X (compareOp .Eq) (rEqLW P w K) := by
  obtain ⟨rfl, rfl, rfl⟩ := hx
  intro pins s σ H x y v u Q I rx ry h
  obtain ⟨a, b, xs, ys, bs, rfl, rfl, ha, hb, vs, q⟩ := h
  obtain rfl : v = Value.ref a := rx
  obtain rfl : u = Value.ref b := ry
  obtain ⟨is, ra, pa, _⟩ := I.list ha
  obtain ⟨js, rb, pb, _⟩ := I.list hb
  obtain ⟨e1, e2, at_⟩ := vs.get
  have l1 := ra.length
  have l2 := rb.length
  have sz : is.toArray.size = js.toArray.size := by simp only [List.size_toArray]; omega
  refine SeqAt.rcP_lists (e := fun j => bs.getD j false) pa.isList pb.isList sz (by omega) (fun j h1 h2 => ?_) _ _ ⟨.bl (bs.all id), H, I, ?_, q⟩
  · have h1' : j < is.length := by simpa using h1
    have h2' : j < js.length := by simpa using h2
    obtain ⟨x, y, gx, gy, ve⟩ := at_ j (by omega)
    obtain ⟨u1, g1, r1⟩ := ra.get gx
    obtain ⟨u2, g2, r2⟩ := rb.get gy
    have k1 : is.toArray[j] = u1 := by
      rw [List.getElem?_eq_getElem h1'] at g1
      simpa using Option.some.inj g1
    have k2 : js.toArray[j] = u2 := by
      rw [List.getElem?_eq_getElem h2'] at g2
      simpa using Option.some.inj g2
    rw [k1, k2]
    exact ve.raw I (by simp only [Around.in1_units]; omega) r1 r2
  · have all : ∀ (n : Nat) (l : List Bool), l.length = n → (List.range n).all (fun j => l.getD j false) = l.all id := by
      intro n
      induction n with
      | zero => intro l e; rw [List.eq_nil_of_length_eq_zero e]; rfl
      | succ n ih =>
        intro l e
        cases l with
        | nil => cases e
        | cons b l =>
          rw [List.range_succ_eq_map, List.all_cons, List.all_map, List.all_cons]
          have := ih l (by simpa using e)
          rw [← this]
          rfl
    show Value.bool _ = Value.bool _
    rw [all is.toArray.size bs (by simp only [List.size_toArray]; omega)]
end
end Gx

set_option maxRecDepth 100000
set_option maxHeartbeats 4000000
namespace Kl
open PySem PySem.Spec PyProof.Rows L2 Gx Mx
theorem sqL_samex {K : PySem.W.Frag} {d a : Addr} {H H' : Hp} {xs : List V} (n : H d = none) (s : SameX d H H') (h : SqL K H a xs) : SqL K H' a xs := by
  rcases h with (h | ⟨o, h⟩) | h
  · exact .inl (.inl (s _ _ (fun z => by rw [z, n] at h; cases h) h))
  · exact .inl (.inr ⟨o, s _ _ (fun z => by rw [z, n] at h; cases h) h⟩)
  · exact .inr h
theorem bare_st : IsSt (statesL "s" ["o", "z"] []) ["o", "s", "z"] := by
  refine ⟨by decide +kernel, by decide +kernel, fun z => ?_⟩
  show z ∈ (["o", "s", "z"] : List Str) ↔ z ∈ (["s", "o", "z"] : List Str)
  simp only [List.mem_cons, List.not_mem_nil, or_false]
  constructor
  · rintro (h | h | h)
    · exact .inr (.inl h)
    · exact .inl h
    · exact .inr (.inr h)
  · rintro (h | h | h)
    · exact .inr (.inl h)
    · exact .inl h
    · exact .inr (.inr h)
theorem bare_ok : RdOk "s" ["o", "z"] [] := by
  refine rdOk_mk (by decide +kernel) (by decide +kernel) (fun r m => nomatch m) (Nat.zero_le _) (by decide +kernel) (fun ys hys => ?_) (fun r m => nomatch m) List.nodup_nil (by decide)
  rw [hys.unique bare_st]
  decide
theorem bare_lines : linesR "s" ["o", "z"] [] = (["first s", "ends o z"] : List Str) := by decide +kernel
theorem bare_str : strR 3 0 = "reader with 3 states, 0 reads" := by decide +kernel
abbrev NLW : List Str := ["_law_script", "_law_spot", "_law_dice_here", "_law_turn", "_law_plain", "_law_bare", "_law_told"]
section
variable {P : Program} {w : World} {K : PySem.W.Frag} {mg : Str → Option Value} {base : Heap}
/-! ### the law -/
def spLaw (K : PySem.W.Frag) : Sp := fun vs H Q _ => ∃ (a : Addr) (ns : List Int), vs = [.ref a] ∧ SqL K H a (ns.map V.int) ∧ ns.length ≤ 63 ∧ ∀ H', Q (.bl true) H'
theorem ok_law {f : Addr} {fd : FuncData} (F : Fun K "law" "law" s_law f fd) (T : Top K mg) : FnG P w K mg base CX0 40 f fd ["_law_script"] (spLaw K) := by
  obtain ⟨C, TC⟩ := T.c_Reader
  obtain ⟨tm, gm⟩ := T.g_MAX_STATES
  obtain ⟨tp, gp⟩ := T.g_MAX_READS
  have cd : Cal P w K mg base 39 "_law_dice" ["_law_script", "_law_spot"] (spDice K) := (T.d_law_dice.cal fun f fd F => ok_dice F T).mono (by decide)
  have csd : Cal P w K mg base 39 "_law_some_digits" ["_law_dice_here", "_law_most"] (spSD K) := (T.d_law_some_digits.cal fun f fd F => ok_sd F T).mono (by decide)
  have cpr : Cal P w K mg base 39 "_law_plain_reader" ["_law_dice_here", "_law_states", "_law_digits"] (spPR P w K) := (T.d_law_plain_reader.cal fun f fd F => ok_pr F T).mono (by decide)
  have ctd : CalG P w K mg base 39 "_law_told_right" ["_law_dice_here", "_law_plain"] (spTD P w K) := CalG.up (T.d_law_told_right.calG fun f fd F => ok_td F T TC) (by decide)
  have cer : Cal P w K mg base 39 "_law_equal_right" ["_law_dice_here", "_law_plain"] (spER P w K) := (T.d_law_equal_right.cal fun f fd F => ok_er F T TC).mono (by decide)
  have cI : CalI P w K mg base C 38 ["self", "first", "ends", "reads"] (spRInit P w K C) := by
    obtain ⟨f, fd, M, F, b⟩ := TC.made
    exact ⟨f, fd, M, (ok_rinit F T TC).mono (by decide), b⟩
  have kSt : CalP P w K mg base C "states" 37 (spRStates P w K C) := (TC.p_states.cal fun f fd F => ok_rstates F TC).mono (by decide)
  have kDg : CalP P w K mg base C "digits" 37 (spRDigs P w K C) := (TC.p_digits.cal fun f fd F => ok_rdigs F T TC).mono (by decide)
  have kLi : CalP P w K mg base C "lines" 37 (spRLines P w K C) := (TC.p_lines.cal fun f fd F => ok_rlines F T TC).mono (by decide)
  have kRe : CalP P w K mg base C "reads" 37 (spRReads P w K C) := (TC.p_reads.cal fun f fd F => ok_rreads F TC).mono (by decide)
  have kLn : CalM P w K mg base C "__len__" 1 ["self"] (spRLen P w K C) := TC.m_len.cal fun f fd F => ok_rlen F T TC
  have kSr : CalM P w K mg base C "__str__" 1 ["self"] (spRStr P w K C) := TC.m_str.cal fun f fd F => ok_rstr F T TC
  refine okG F sc_law (fun vs H Q E h => ?_) (fun cdv A outer s H vs Q E hg hr h => ?_)
  · obtain ⟨a, ns, rfl, _⟩ := h
    rfl
  · obtain ⟨a, ns, rfl, hS, hlen, q⟩ := h
    refine ⟨_, pss_cut (ps_for PassesOwn.never rfl (pi_range1 (by rfl) T.b_range (pa_cons (pe_callB (call_max2 rfl) (by rfl) T.b_max (by decide +kernel) (pa_cons pe_int (pa_cons
          (pe_callB (call_min2 rfl) (by rfl) T.b_min (by decide +kernel) (pa_cons pe_int (pa_cons (pe_callB call_len_seq (by rfl) T.b_len PySem.boot_len (pa_cons (pv 0) pa_nil)) pa_nil))) pa_nil))) pa_nil))
          (pg_name (i := 1) sc_law.nd rfl (.inl rfl))
        (pss_cut (ps_set (i := 2) sc_law.nd rfl (.inl rfl) (pe_cal cd hr (by rfl) (pa_cons (pv 0) (pa_cons (pv 1) pa_nil))))
        (pss_one (ps_for PassesOwn.never rfl (pi_range1 (by rfl) T.b_range (pa_cons pe_int pa_nil)) (pg_name (i := 3) sc_law.nd rfl (.inl rfl))
          (pss_cut (ps_set (i := 4) sc_law.nd rfl (.inl rfl) (pe_cal cpr hr (by rfl) (pa_cons (pv 2) (pa_cons pe_int (pa_cons (pe_cal csd hr (by rfl) (pa_cons (pv 2) (pa_cons pe_int pa_nil))) pa_nil)))))
          (pss_one (ps_if (PW.pt (pw_or (pt_not (pt_val (pe_calG ctd hg hr (by rfl) (pa_cons (pv 2) (pa_cons (pv 4) pa_nil))))) (pw_or1 (pt_not (pt_val (pe_cal cer hr (by rfl) (pa_cons (pv 2) (pa_cons (pv 4) pa_nil)))))))) (pss_one (ps_ret pe_bl)) pss_nil)))))))
      (pss_cut (ps_set (i := 5) sc_law.nd rfl (.inl rfl) (pe_makeC cI hr (by rfl) TC.gC (pa_cons pe_str (pa_cons (pe_tup (pa_cons pe_str (pa_cons pe_str pa_nil))) (pa_cons (pe_nnew (P := P) (w := w) (K := K) (by exact ⟨rfl, rfl, rfl⟩)) pa_nil)))))
      (pss_cut (ps_set (i := 6) sc_law.nd rfl (.inl rfl) (pe_lst (pa_cons (pe_propC (pv 5) TC.cl kSt (hr.mono (by decide)) rfl) (pa_cons (pe_propC (pv 5) TC.cl kDg (hr.mono (by decide)) rfl) (pa_cons (pe_propC (pv 5) TC.cl kLi (hr.mono (by decide)) rfl)
          (pa_cons (pe_callB (call_lenM kLn (hr.mono (by decide))) (by rfl) T.b_len PySem.boot_len (pa_cons (pv 5) pa_nil)) (pa_cons (pe_callTy (call_strM kSr (hr.mono (by decide))) (by rfl) T.b_str (by decide +kernel) (pa_cons (pv 5) pa_nil))
          (pa_cons (pe_propC (pv 5) TC.cl kRe (hr.mono (by decide)) rfl) (pa_cons (pe_glob (v := .int 6) (by rfl) gm ⟨_, rfl⟩) (pa_cons (pe_glob (v := .int 40) (by rfl) gp ⟨_, rfl⟩) pa_nil))))))))))
      (pss_one (ps_ret (pe_cmpR (op_eqLW (P := P) (w := w) (K := K) (by exact ⟨rfl, rfl, rfl⟩) (hu72_of hr)) (pv 6) (pe_lst (pa_cons (pe_tup (pa_cons pe_str (pa_cons pe_str (pa_cons pe_str pa_nil)))) (pa_cons (pe_tup pa_nil) (pa_cons (pe_tup (pa_cons pe_str (pa_cons pe_str pa_nil)))
          (pa_cons pe_int (pa_cons pe_str (pa_cons (pe_nnew (P := P) (w := w) (K := K) (by exact ⟨rfl, rfl, rfl⟩)) (pa_cons pe_int (pa_cons pe_int pa_nil))))))))) (by rfl)))))), ?_⟩
    have big : 100000 ≤ sizeLine := by decide
    refine ⟨fun σ' G => ∃ (y1 y2 y3 y4 : Option V), σ' = [some (.ref a), y1, y2, y3, y4, none, none], ?_, ?_⟩
    · refine ⟨_, rfl, a, _, rfl, .inl hS, _, _, rfl, _, _, rfl, _, rfl, ?_, ?_, ?_⟩
      · split <;> split <;> omega
      · split <;> split <;> omega
      refine for_range (lo := 0) (fun i σ' G => (∃ (y1 y2 y3 y4 : Option V), σ' = [some (.ref a), y1, y2, y3, y4, none, none]) ∧ SqL K G a (ns.map V.int)) ⟨⟨_, _, _, _, rfl⟩, hS⟩ (fun i σ' G hi hP => ?_) (fun σ' G hP => hP.1)
      obtain ⟨⟨y1, y2, y3, y4, rfl⟩, hSG⟩ := hP
      refine ⟨fun σ' G' => ∃ (y1 : Option V) (d : Addr), σ' = [some (.ref a), y1, some (.ref d), y3, y4, none, none] ∧ DiceAt G' d ∧ G d = none ∧ SameX d G G', ?_, ?_⟩
      · refine ⟨_, rfl, _, rfl, a, ns, i, ?_, hSG, hlen, ?_, fun d x0 b0 nd => ⟨_, d, rfl, ⟨x0, b0, 0, upd_same⟩, nd, (SameX.refl d G).atd⟩⟩
        · show [V.ref a, V.int (0 + (i : Int))] = _
          rw [Int.zero_add]
        · have : i < 6 := by
            revert hi
            split <;> split <;> omega
          omega
      rintro σ' G1 ⟨y1, d, rfl, hd, nd, sx⟩
      refine ⟨_, rfl, by decide, by decide, ?_⟩
      refine for_range (lo := 0) (fun j σ' G' => (∃ (y3 y4 : Option V), σ' = [some (.ref a), y1, some (.ref d), y3, y4, none, none]) ∧ DiceAt G' d ∧ SameX d G G') ⟨⟨_, _, rfl⟩, hd, sx⟩ (fun j σ' G2 hj hP => ?_) (fun σ' G2 hP => ?_)
      rotate_left
      · obtain ⟨⟨y3, y4, rfl⟩, _, sx2⟩ := hP
        exact ⟨⟨_, _, _, _, rfl⟩, sqL_samex nd sx2 hSG⟩
      obtain ⟨⟨y3, y4, rfl⟩, hd2, sx2⟩ := hP
      refine ⟨fun σ' G' => ∃ (y3 : Option V) (p el rd : Addr) (first : Str) (ends : List Str) (R : Rds), σ' = [some (.ref a), y1, some (.ref d), y3, some (.ref p), none, none] ∧ PlainAt P w K G' p el rd first ends R ∧ RdOk first ends R ∧ (∀ z ∈ statesL first ends R, z ∈ TENS) ∧ DiceAt G' d ∧ SameX d G G', ?_, ?_⟩
      · refine ⟨_, rfl, _, rfl, d, 4, rfl, by decide, by decide, hd2, fun l L G3 sx3 hd3 nl el hL ndL okL lL => ?_⟩
        exact ⟨d, l, L, rfl, hd3, el, hL, ndL, okL, lL, fun p el rd first ends R G4 sx4 hd4 hP hok _ ten => ⟨_, p, _, _, first, ends, R, rfl, hP, hok, ten, hd4, (sx2.trans sx3).trans sx4⟩⟩
      rintro σ' G3 ⟨y5, p, el, rd, first, ends, R, rfl, hP, hok, ten, hd3, sx3⟩
      refine ⟨_, rfl, _, rfl, d, p, el, rd, first, ends, R, rfl, hd3, hP, hok, fun G4 sx4 hd4 => ⟨_, rfl, ?_⟩⟩
      show (if (!true) = true then _ else _)
      rw [if_neg (by decide)]
      refine ⟨_, rfl, _, rfl, d, p, el, rd, first, ends, R, rfl, hd4, hP.sx hd3 sx4, hok, ten, fun G5 sx5 hd5 => ⟨_, rfl, ?_⟩⟩
      show (if (!true) = true then _ else _)
      rw [if_neg (by decide)]
      exact ⟨⟨_, _, rfl⟩, hd5, (sx3.trans sx4).trans sx5⟩
    rintro σ' G0 ⟨y1, y2, y3, y4, rfl⟩
    -- the bare reader
    refine ⟨fun σ' G => ∃ x : Addr, σ' = [some (.ref a), y1, y2, y3, y4, some (.ref x), none] ∧ RdrAt P w K C G x "s" ["o", "z"] [], ?_, ?_⟩
    · refine ⟨by show 2 ≤ sizeLine; omega, fun l nl => ?_⟩
      have s1 := same_new (o := .tup [V.str "o", V.str "z"]) (Same.refl G0) nl
      have hl : SqT K (upd G0 l (.tup [V.str "o", V.str "z"])) l ((["o", "z"] : List Str).map V.str) := SqT.of upd_same
      generalize upd G0 l (.tup [V.str "o", V.str "z"]) = G1 at *
      refine fun D nD => ?_
      have s2 := same_new (o := DN P w D []) (Same.refl G1) nD
      have eD : (upd G1 D (DN P w D [])) D = some (DN P w D []) := upd_same
      generalize upd G1 D (DN P w D []) = G2 at *
      refine fun x dx nx ndx hne => ?_
      have s3 : Same G2 (upd (upd G2 dx (.own x)) x (.ins C dx [])) := same_new (same_new (Same.refl _) ndx) (by rw [upd_ne (Ne.symm hne)]; exact nx)
      have hx3 : (upd (upd G2 dx (.own x)) x (.ins C dx [])) x = some (.ins C dx []) := upd_same
      generalize upd (upd G2 dx (.own x)) x (.ins C dx []) = G3 at *
      refine ⟨x, dx, l, D, "s", ["o", "z"], [], rfl, hx3, by decide, sqT_same (s2.trans s3) hl, fun z m => Nat.le_trans (bare_ok.e8 z m) (by decide), ⟨[], s3 _ _ eD, (fun _ m => nomatch m), rfl⟩, List.nodup_nil, by decide, Nat.zero_le _, (fun r m => nomatch m), bare_ok.ok, fun R' H' hp' hasc hR sx far => ⟨rfl, ?_⟩⟩
      rw [hp'.eq_nil] at hR
      exact ⟨x, rfl, hR⟩
    rintro σ' G1 ⟨x, rfl, hR⟩
    obtain ⟨dx, _, _, _, _, _, _, hx, _⟩ := id hR
    -- what it tells
    refine ⟨fun σ' G => ∃ (l st dg ls rd : Addr) (Lg : List (Addr × List Str)), σ' = [some (.ref a), y1, y2, y3, y4, some (.ref x), some (.ref l)] ∧ G l = some (.lst [.ref st, .ref dg, .ref ls, .int 3, .str "reader with 3 states, 0 reads", .ref rd, .int 6, .int 40]) ∧ SqT K G st ((["o", "s", "z"] : List Str).map V.str) ∧ SqT K G dg [] ∧ SqT K G ls ((["first s", "ends o z"] : List Str).map V.str) ∧ RDict P w K G rd [], ?_, ?_⟩
    · refine ⟨_, rfl, x, dx, _, rfl, hx, x, _, _, _, rfl, hR, fun st ys hys hst => ?_⟩
      rw [hys.unique bare_st] at hst
      refine ⟨_, rfl, x, dx, _, rfl, hx, x, _, _, _, rfl, hR, by decide, fun Lg dg G2 hdg hle hts s2 nd ed => ?_⟩
      have eL : Lg = [] := List.eq_nil_of_length_eq_zero (Nat.le_zero.mp hle)
      subst eL
      refine ⟨_, rfl, x, dx, _, rfl, s2 _ _ hx, x, _, _, _, rfl, hR.same s2, List.nodup_nil, by decide, by decide, by decide, bare_ok.e8, bare_ok.r8, fun ls G3 nl s3 el => ?_⟩
      rw [bare_lines] at el
      have s23 := s2.trans s3
      refine ⟨_, rfl, x, dx, _, rfl, s23 _ _ hx, x, _, _, _, rfl, hR.same s23, fun ys2 hys2 => ?_⟩
      rw [hys2.unique bare_st]
      refine ⟨3, rfl, by decide, ?_⟩
      refine ⟨_, rfl, x, dx, _, rfl, s23 _ _ hx, x, _, _, _, rfl, hR.same s23, by decide, fun ys3 hys3 => ?_⟩
      rw [hys3.unique bare_st]
      refine ⟨by decide, _, rfl, ?_⟩
      refine ⟨_, rfl, x, dx, _, rfl, s23 _ _ hx, x, _, _, _, rfl, hR.same s23, List.nodup_nil, by decide, fun rd G4 nr s4 hr4 => ?_⟩
      have e3 : strR (["o", "s", "z"] : List Str).length ([] : Rds).length = "reader with 3 states, 0 reads" := bare_str
      rw [e3]
      refine ⟨by show 8 ≤ sizeLine; omega, fun l nl => ?_⟩
      have s5 := same_new (o := .lst [V.ref st, V.ref dg, V.ref ls, V.int 3, V.str "reader with 3 states, 0 reads", V.ref rd, V.int 6, V.int 40]) (Same.refl G4) nl
      exact ⟨l, st, dg, ls, rd, [], rfl, upd_same, sqT_same (s23.trans (s4.trans s5)) hst, SqT.of ((s3.trans (s4.trans s5)) _ _ ed), SqT.of ((s4.trans s5) _ _ el), hr4.same s5⟩
    rintro σ' G2 ⟨l, st, dg, ls, rd, _, rfl, el, hst, hdg, hls, hrd⟩
    refine ⟨_, rfl, by show 3 ≤ sizeLine; omega, fun t1 n1 => ?_⟩
    have s1 := same_new (o := .tup [V.str "o", V.str "s", V.str "z"]) (Same.refl G2) n1
    have e1 : SqT K (upd G2 t1 (.tup [V.str "o", V.str "s", V.str "z"])) t1 ((["o", "s", "z"] : List Str).map V.str) := SqT.of upd_same
    generalize upd G2 t1 (.tup [V.str "o", V.str "s", V.str "z"]) = G3 at *
    refine ⟨Nat.zero_le _, fun t2 n2 => ?_⟩
    have s2 := same_new (o := .tup []) (Same.refl G3) n2
    have e2 : SqT K (upd G3 t2 (.tup [])) t2 [] := SqT.of upd_same
    generalize upd G3 t2 (.tup []) = G4 at *
    refine ⟨by show 2 ≤ sizeLine; omega, fun t3 n3 => ?_⟩
    have s3 := same_new (o := .tup [V.str "first s", V.str "ends o z"]) (Same.refl G4) n3
    have e3 : SqT K (upd G4 t3 (.tup [V.str "first s", V.str "ends o z"])) t3 ((["first s", "ends o z"] : List Str).map V.str) := SqT.of upd_same
    generalize upd G4 t3 (.tup [V.str "first s", V.str "ends o z"]) = G5 at *
    refine fun D nD => ?_
    have s4 := same_new (o := DN P w D []) (Same.refl G5) nD
    have e4 : (upd G5 D (DN P w D [])) D = some (DN P w D []) := upd_same
    generalize upd G5 D (DN P w D []) = G6 at *
    refine ⟨by show 8 ≤ sizeLine; omega, fun m nm => ?_⟩
    have s5 := same_new (o := .lst [V.ref t1, V.ref t2, V.ref t3, V.int 3, V.str "reader with 3 states, 0 reads", V.ref D, V.int 6, V.int 40]) (Same.refl G6) nm
    have e5 : (upd G6 m (.lst [V.ref t1, V.ref t2, V.ref t3, V.int 3, V.str "reader with 3 states, 0 reads", V.ref D, V.int 6, V.int 40])) m = some (.lst [V.ref t1, V.ref t2, V.ref t3, V.int 3, V.str "reader with 3 states, 0 reads", V.ref D, V.int 6, V.int 40]) := upd_same
    generalize upd G6 m (.lst [V.ref t1, V.ref t2, V.ref t3, V.int 3, V.str "reader with 3 states, 0 reads", V.ref D, V.int 6, V.int 40]) = G7 at *
    have s35 := s3.trans (s4.trans s5)
    have s25 := s2.trans s35
    have s15 := s1.trans s25
    obtain ⟨L0, k1, k2, k3⟩ := hrd.same s15
    have nrD : rd ≠ D := fun z => by
      obtain ⟨L1, h1, _⟩ := hrd.same ((s1.trans (s2.trans s3)))
      rw [z, nD] at h1
      cases h1
    have eL0 : L0 = [] := by
      have := prM_len k3
      exact List.eq_nil_of_length_eq_zero this
    subst eL0
    have tu : ∀ {zs : List Str} {b c : Addr}, (∀ z ∈ zs, PyData.strOk z = true) → SqT K G7 b (zs.map V.str) → SqT K G7 c (zs.map V.str) → VEq P w K G7 (.ref b) (.ref c) true := fun {zs b c} ok hb hc => by
      refine .inl ⟨.tuple (tD zs), .tuple (tD zs), .tup hb (dp_texts zs), .tup hc (dp_texts zs), shaped_textsT ok, shaped_textsT ok, ?_⟩
      rw [PyData.eqv, eqv_texts]
      exact (decide_eq_true rfl).symm
    have da : ∀ {v : V} {e : PyData}, Dp K G7 v e → SeqAt.shaped e = true → PyData.eqv e e = true → VEq P w K G7 v v true := fun h s e => .inl ⟨_, _, h, h, s, s, e.symm⟩
    refine ⟨l, m, _, _, [true, true, true, true, true, true, true, true], rfl, rfl, .inl (.inl (s15 _ _ el)), .inl (.inl e5), .cons (tu (by decide +kernel) (sqT_same s15 hst) (sqT_same s25 e1)) (.cons (tu (zs := []) (fun z h => nomatch h) (sqT_same s15 hdg) (sqT_same s35 e2)) (.cons (tu (by decide +kernel) (sqT_same s15 hls) (sqT_same (s4.trans s5) e3))
      (.cons (da (.int 3) (by decide +kernel) (by decide +kernel)) (.cons (da (.str _) (by decide +kernel) (by decide +kernel)) (.cons (.inr ⟨rd, D, toN [], [], rfl, rfl, nrD, ⟨.inl k1, fun _ m => nomatch m⟩, ⟨.inl (s5 _ _ e4), fun _ m => nomatch m⟩, fun _ m => (nomatch m), fun _ m => (nomatch m), rfl⟩)
      (.cons (da (.int 6) (by decide +kernel) (by decide +kernel)) (.cons (da (.int 40) (by decide +kernel) (by decide +kernel)) .nil))))))), ?_⟩
    exact q _
end
end Kl

set_option maxRecDepth 100000
set_option maxHeartbeats 4000000
namespace Kl
open PySem PySem.Spec PyProof.Rows L2 Gx
/-! ### the end -/
theorem all_mk {l : PySem.W.OpenLaw} {w : World} {K : PySem.W.Frag} {h : Heap} {mg : Str → Option Value} {fa : Addr} (X : K.In h) (G : h.Ns mainGlobals mg) (hfa : mg "law" = some (.ref fa))
    {Cy0 : Addr} {nmy0 qny0 : Str} {Ny0 : Addr} {bsy0 bmy0 : List Value} {hdy0 : Bool} {sny0 : List Str} {suby0 : List Value} {aby0 : Bool} {coly0 : Option Bool} {ddy0 : Option Addr} {k0y0 k1y0 k2y0 k3y0 k5y0 : Option Value}
    {f0 : Addr} {od0 an0 : Option Addr} {sl0 : Array (Option Value)} {oc0 kV0 dc0 pm0 cd0 ct0 : Value}
    {f1 : Addr} {od1 an1 : Option Addr} {sl1 : Array (Option Value)} {oc1 kV1 dc1 pm1 cd1 ct1 : Value}
    {f2 : Addr} {od2 an2 : Option Addr} {sl2 : Array (Option Value)} {oc2 kV2 dc2 pm2 cd2 ct2 : Value}
    {f3 : Addr} {od3 an3 : Option Addr} {sl3 : Array (Option Value)} {oc3 kV3 dc3 pm3 cd3 ct3 : Value}
    {f4 : Addr} {od4 an4 : Option Addr} {sl4 : Array (Option Value)} {oc4 kV4 dc4 pm4 cd4 ct4 : Value}
    {f5 : Addr} {od5 an5 : Option Addr} {sl5 : Array (Option Value)} {oc5 kV5 dc5 pm5 cd5 ct5 : Value}
    {f6 : Addr} {od6 an6 : Option Addr} {sl6 : Array (Option Value)} {oc6 kV6 dc6 pm6 cd6 ct6 : Value}
    {f7 : Addr} {od7 an7 : Option Addr} {sl7 : Array (Option Value)} {oc7 kV7 dc7 pm7 cd7 ct7 : Value}
    {f8 : Addr} {od8 an8 : Option Addr} {sl8 : Array (Option Value)} {oc8 kV8 dc8 pm8 cd8 ct8 : Value}
    {f9 : Addr} {od9 an9 : Option Addr} {sl9 : Array (Option Value)} {oc9 kV9 dc9 pm9 cd9 ct9 : Value}
    {f10 : Addr} {od10 an10 : Option Addr} {sl10 : Array (Option Value)} {oc10 kV10 dc10 pm10 cd10 ct10 : Value}
    {f11 : Addr} {od11 an11 : Option Addr} {sl11 : Array (Option Value)} {oc11 kV11 dc11 pm11 cd11 ct11 : Value}
    {f12 : Addr} {od12 an12 : Option Addr} {sl12 : Array (Option Value)} {oc12 kV12 dc12 pm12 cd12 ct12 : Value}
    {f13 : Addr} {od13 an13 : Option Addr} {sl13 : Array (Option Value)} {oc13 kV13 dc13 pm13 cd13 ct13 : Value}
    {f14 : Addr} {od14 an14 : Option Addr} {sl14 : Array (Option Value)} {oc14 kV14 dc14 pm14 cd14 ct14 : Value}
    {f15 : Addr} {od15 an15 : Option Addr} {sl15 : Array (Option Value)} {oc15 kV15 dc15 pm15 cd15 ct15 : Value}
    {f16 : Addr} {od16 an16 : Option Addr} {sl16 : Array (Option Value)} {oc16 kV16 dc16 pm16 cd16 ct16 : Value}
    {f17 : Addr} {od17 an17 : Option Addr} {sl17 : Array (Option Value)} {oc17 kV17 dc17 pm17 cd17 ct17 : Value}
    {f18 : Addr} {od18 an18 : Option Addr} {sl18 : Array (Option Value)} {oc18 kV18 dc18 pm18 cd18 ct18 : Value}
    {f19 : Addr} {od19 an19 : Option Addr} {sl19 : Array (Option Value)} {oc19 kV19 dc19 pm19 cd19 ct19 : Value}
    {f20 : Addr} {od20 an20 : Option Addr} {sl20 : Array (Option Value)} {oc20 kV20 dc20 pm20 cd20 ct20 : Value}
    {f21 : Addr} {od21 an21 : Option Addr} {sl21 : Array (Option Value)} {oc21 kV21 dc21 pm21 cd21 ct21 : Value}
    {f22 : Addr} {od22 an22 : Option Addr} {sl22 : Array (Option Value)} {oc22 kV22 dc22 pm22 cd22 ct22 : Value}
    {f23 : Addr} {od23 an23 : Option Addr} {sl23 : Array (Option Value)} {oc23 kV23 dc23 pm23 cd23 ct23 : Value}
    {f24 : Addr} {od24 an24 : Option Addr} {sl24 : Array (Option Value)} {oc24 kV24 dc24 pm24 cd24 ct24 : Value}
    {f25 : Addr} {od25 an25 : Option Addr} {sl25 : Array (Option Value)} {oc25 kV25 dc25 pm25 cd25 ct25 : Value}
    {f26 : Addr} {od26 an26 : Option Addr} {sl26 : Array (Option Value)} {oc26 kV26 dc26 pm26 cd26 ct26 : Value}
    {f27 : Addr} {od27 an27 : Option Addr} {sl27 : Array (Option Value)} {oc27 kV27 dc27 pm27 cd27 ct27 : Value}
    {f28 : Addr} {od28 an28 : Option Addr} {sl28 : Array (Option Value)} {oc28 kV28 dc28 pm28 cd28 ct28 : Value}
    {f29 : Addr} {od29 an29 : Option Addr} {sl29 : Array (Option Value)} {oc29 kV29 dc29 pm29 cd29 ct29 : Value}
    {f30 : Addr} {od30 an30 : Option Addr} {sl30 : Array (Option Value)} {oc30 kV30 dc30 pm30 cd30 ct30 : Value}
    {f31 : Addr} {od31 an31 : Option Addr} {sl31 : Array (Option Value)} {oc31 kV31 dc31 pm31 cd31 ct31 : Value}
    {f32 : Addr} {od32 an32 : Option Addr} {sl32 : Array (Option Value)} {oc32 kV32 dc32 pm32 cd32 ct32 : Value}
    {f33 : Addr} {od33 an33 : Option Addr} {sl33 : Array (Option Value)} {oc33 kV33 dc33 pm33 cd33 ct33 : Value}
    {f34 : Addr} {od34 an34 : Option Addr} {sl34 : Array (Option Value)} {oc34 kV34 dc34 pm34 cd34 ct34 : Value}
    {f35 : Addr} {od35 an35 : Option Addr} {sl35 : Array (Option Value)} {oc35 kV35 dc35 pm35 cd35 ct35 : Value}
    {CoReader : Addr}
    {fM0Reader : Addr} {odM0Reader anM0Reader : Option Addr} {slM0Reader : Array (Option Value)} {ocM0Reader kVM0Reader dcM0Reader pmM0Reader cdM0Reader ctM0Reader : Value}
    {fM2Reader : Addr} {odM2Reader anM2Reader : Option Addr} {slM2Reader : Array (Option Value)} {ocM2Reader kVM2Reader dcM2Reader pmM2Reader cdM2Reader ctM2Reader : Value}
    {qM2Reader : Addr} {rsM2Reader : List Value}
    {fM3Reader : Addr} {odM3Reader anM3Reader : Option Addr} {slM3Reader : Array (Option Value)} {ocM3Reader kVM3Reader dcM3Reader pmM3Reader cdM3Reader ctM3Reader : Value}
    {qM3Reader : Addr} {rsM3Reader : List Value}
    {fM4Reader : Addr} {odM4Reader anM4Reader : Option Addr} {slM4Reader : Array (Option Value)} {ocM4Reader kVM4Reader dcM4Reader pmM4Reader cdM4Reader ctM4Reader : Value}
    {qM4Reader : Addr} {rsM4Reader : List Value}
    {fM5Reader : Addr} {odM5Reader anM5Reader : Option Addr} {slM5Reader : Array (Option Value)} {ocM5Reader kVM5Reader dcM5Reader pmM5Reader cdM5Reader ctM5Reader : Value}
    {qM5Reader : Addr} {rsM5Reader : List Value}
    {fM6Reader : Addr} {odM6Reader anM6Reader : Option Addr} {slM6Reader : Array (Option Value)} {ocM6Reader kVM6Reader dcM6Reader pmM6Reader cdM6Reader ctM6Reader : Value}
    {qM6Reader : Addr} {rsM6Reader : List Value}
    {fM7Reader : Addr} {odM7Reader anM7Reader : Option Addr} {slM7Reader : Array (Option Value)} {ocM7Reader kVM7Reader dcM7Reader pmM7Reader cdM7Reader ctM7Reader : Value}
    {qM7Reader : Addr} {rsM7Reader : List Value}
    {fM9Reader : Addr} {odM9Reader anM9Reader : Option Addr} {slM9Reader : Array (Option Value)} {ocM9Reader kVM9Reader dcM9Reader pmM9Reader cdM9Reader ctM9Reader : Value}
    {fM10Reader : Addr} {odM10Reader anM10Reader : Option Addr} {slM10Reader : Array (Option Value)} {ocM10Reader kVM10Reader dcM10Reader pmM10Reader cdM10Reader ctM10Reader : Value}
    {fM11Reader : Addr} {odM11Reader anM11Reader : Option Addr} {slM11Reader : Array (Option Value)} {ocM11Reader kVM11Reader dcM11Reader pmM11Reader cdM11Reader ctM11Reader : Value}
    {fM12Reader : Addr} {odM12Reader anM12Reader : Option Addr} {slM12Reader : Array (Option Value)} {ocM12Reader kVM12Reader dcM12Reader pmM12Reader cdM12Reader ctM12Reader : Value}
    {fM13Reader : Addr} {odM13Reader anM13Reader : Option Addr} {slM13Reader : Array (Option Value)} {ocM13Reader kVM13Reader dcM13Reader pmM13Reader cdM13Reader ctM13Reader : Value}
    {fM14Reader : Addr} {odM14Reader anM14Reader : Option Addr} {slM14Reader : Array (Option Value)} {ocM14Reader kVM14Reader dcM14Reader pmM14Reader cdM14Reader ctM14Reader : Value}
    {t0 : Tok}
    {t1 : Tok}
    {t2 : Tok}
    {t3 : Tok}
    {t4 : Tok}
    {t5 : Tok}
    {t6 : Tok}
    (gy0 : PySem.W.nsIn K mainGlobals "InvalidReader" = some (some (.ref Cy0))) (hy0 : K.lookup Cy0 = some (excClassObj nmy0 qny0 Cy0 Ny0 bsy0 bmy0 hdy0 sny0 suby0 aby0 coly0 ddy0 k0y0 k1y0 k2y0 k3y0 k5y0 "ValueError.__new__")) (ty0 : PySem.W.excTail [.type "ValueError", .type "Exception", .type "BaseException", .type "object"] bmy0 = true) (iy0 : PySem.W.findIn K (.ref Cy0) "__init__" = some (some (.builtin "ValueError.__init__"))) (ky0 : PySem.W.keepIn K (.ref Cy0) = true) (by0 : PySem.W.subIn K (.ref Cy0) (.type "BaseException") = some true) (wy0 : PySem.W.typeIn K (.ref Cy0) = some (.type "type")) (xy0 : PySem.W.isClsIn K Cy0 = true) (ry0 : PySem.W.subIn K (.ref Cy0) (.ref Cy0) = some true) (zy0 : xclsB K Cy0 = true)
    (a0 : PySem.W.nsIn K mainGlobals "_wall" = some (some (.ref f0))) (l0 : K.lookup f0 = some ⟨oc0, od0, .func (PySem.W.fnOf "_wall" "_wall" (defArgs s_wall) (defBody s_wall) (defScope s_wall) .none kV0 dc0 pm0 an0 cd0 ct0), sl0⟩) (c0 : PySem.W.codeIn K cd0 "_wall" = true) (k0 : PySem.W.keepIn K (.ref f0) = true)
    (a1 : PySem.W.nsIn K mainGlobals "is_integer" = some (some (.ref f1))) (l1 : K.lookup f1 = some ⟨oc1, od1, .func (PySem.W.fnOf "is_integer" "is_integer" (defArgs s_is_integer) (defBody s_is_integer) (defScope s_is_integer) .none kV1 dc1 pm1 an1 cd1 ct1), sl1⟩) (c1 : PySem.W.codeIn K cd1 "is_integer" = true) (k1 : PySem.W.keepIn K (.ref f1) = true)
    (a2 : PySem.W.nsIn K mainGlobals "is_count" = some (some (.ref f2))) (l2 : K.lookup f2 = some ⟨oc2, od2, .func (PySem.W.fnOf "is_count" "is_count" (defArgs s_is_count) (defBody s_is_count) (defScope s_is_count) .none kV2 dc2 pm2 an2 cd2 ct2), sl2⟩) (c2 : PySem.W.codeIn K cd2 "is_count" = true) (k2 : PySem.W.keepIn K (.ref f2) = true)
    (a3 : PySem.W.nsIn K mainGlobals "is_name" = some (some (.ref f3))) (l3 : K.lookup f3 = some ⟨oc3, od3, .func (PySem.W.fnOf "is_name" "is_name" (defArgs s_is_name) (defBody s_is_name) (defScope s_is_name) .none kV3 dc3 pm3 an3 cd3 ct3), sl3⟩) (c3 : PySem.W.codeIn K cd3 "is_name" = true) (k3 : PySem.W.keepIn K (.ref f3) = true)
    (a4 : PySem.W.nsIn K mainGlobals "is_sorted" = some (some (.ref f4))) (l4 : K.lookup f4 = some ⟨oc4, od4, .func (PySem.W.fnOf "is_sorted" "is_sorted" (defArgs s_is_sorted) (defBody s_is_sorted) (defScope s_is_sorted) .none kV4 dc4 pm4 an4 cd4 ct4), sl4⟩) (c4 : PySem.W.codeIn K cd4 "is_sorted" = true) (k4 : PySem.W.keepIn K (.ref f4) = true)
    (a5 : PySem.W.nsIn K mainGlobals "text_of" = some (some (.ref f5))) (l5 : K.lookup f5 = some ⟨oc5, od5, .func (PySem.W.fnOf "text_of" "text_of" (defArgs s_text_of) (defBody s_text_of) (defScope s_text_of) .none kV5 dc5 pm5 an5 cd5 ct5), sl5⟩) (c5 : PySem.W.codeIn K cd5 "text_of" = true) (k5 : PySem.W.keepIn K (.ref f5) = true)
    (a6 : PySem.W.nsIn K mainGlobals "are_digits" = some (some (.ref f6))) (l6 : K.lookup f6 = some ⟨oc6, od6, .func (PySem.W.fnOf "are_digits" "are_digits" (defArgs s_are_digits) (defBody s_are_digits) (defScope s_are_digits) .none kV6 dc6 pm6 an6 cd6 ct6), sl6⟩) (c6 : PySem.W.codeIn K cd6 "are_digits" = true) (k6 : PySem.W.keepIn K (.ref f6) = true)
    (a7 : PySem.W.nsIn K mainGlobals "are_loose_digits" = some (some (.ref f7))) (l7 : K.lookup f7 = some ⟨oc7, od7, .func (PySem.W.fnOf "are_loose_digits" "are_loose_digits" (defArgs s_are_loose_digits) (defBody s_are_loose_digits) (defScope s_are_loose_digits) .none kV7 dc7 pm7 an7 cd7 ct7), sl7⟩) (c7 : PySem.W.codeIn K cd7 "are_loose_digits" = true) (k7 : PySem.W.keepIn K (.ref f7) = true)
    (a8 : PySem.W.nsIn K mainGlobals "is_digit" = some (some (.ref f8))) (l8 : K.lookup f8 = some ⟨oc8, od8, .func (PySem.W.fnOf "is_digit" "is_digit" (defArgs s_is_digit) (defBody s_is_digit) (defScope s_is_digit) .none kV8 dc8 pm8 an8 cd8 ct8), sl8⟩) (c8 : PySem.W.codeIn K cd8 "is_digit" = true) (k8 : PySem.W.keepIn K (.ref f8) = true)
    (a9 : PySem.W.nsIn K mainGlobals "_is_ascending" = some (some (.ref f9))) (l9 : K.lookup f9 = some ⟨oc9, od9, .func (PySem.W.fnOf "_is_ascending" "_is_ascending" (defArgs s_is_ascending) (defBody s_is_ascending) (defScope s_is_ascending) .none kV9 dc9 pm9 an9 cd9 ct9), sl9⟩) (c9 : PySem.W.codeIn K cd9 "_is_ascending" = true) (k9 : PySem.W.keepIn K (.ref f9) = true)
    (a10 : PySem.W.nsIn K mainGlobals "_is_place" = some (some (.ref f10))) (l10 : K.lookup f10 = some ⟨oc10, od10, .func (PySem.W.fnOf "_is_place" "_is_place" (defArgs s_is_place) (defBody s_is_place) (defScope s_is_place) .none kV10 dc10 pm10 an10 cd10 ct10), sl10⟩) (c10 : PySem.W.codeIn K cd10 "_is_place" = true) (k10 : PySem.W.keepIn K (.ref f10) = true)
    (a11 : PySem.W.nsIn K mainGlobals "_are_reads" = some (some (.ref f11))) (l11 : K.lookup f11 = some ⟨oc11, od11, .func (PySem.W.fnOf "_are_reads" "_are_reads" (defArgs s_are_reads) (defBody s_are_reads) (defScope s_are_reads) .none kV11 dc11 pm11 an11 cd11 ct11), sl11⟩) (c11 : PySem.W.codeIn K cd11 "_are_reads" = true) (k11 : PySem.W.keepIn K (.ref f11) = true)
    (a12 : PySem.W.nsIn K mainGlobals "_all_states" = some (some (.ref f12))) (l12 : K.lookup f12 = some ⟨oc12, od12, .func (PySem.W.fnOf "_all_states" "_all_states" (defArgs s_all_states) (defBody s_all_states) (defScope s_all_states) .none kV12 dc12 pm12 an12 cd12 ct12), sl12⟩) (c12 : PySem.W.codeIn K cd12 "_all_states" = true) (k12 : PySem.W.keepIn K (.ref f12) = true)
    (a13 : PySem.W.nsIn K mainGlobals "_is_reader" = some (some (.ref f13))) (l13 : K.lookup f13 = some ⟨oc13, od13, .func (PySem.W.fnOf "_is_reader" "_is_reader" (defArgs s_is_reader) (defBody s_is_reader) (defScope s_is_reader) .none kV13 dc13 pm13 an13 cd13 ct13), sl13⟩) (c13 : PySem.W.codeIn K cd13 "_is_reader" = true) (k13 : PySem.W.keepIn K (.ref f13) = true)
    (a14 : PySem.W.nsIn K mainGlobals "_reached" = some (some (.ref f14))) (l14 : K.lookup f14 = some ⟨oc14, od14, .func (PySem.W.fnOf "_reached" "_reached" (defArgs s_reached) (defBody s_reached) (defScope s_reached) .none kV14 dc14 pm14 an14 cd14 ct14), sl14⟩) (c14 : PySem.W.codeIn K cd14 "_reached" = true) (k14 : PySem.W.keepIn K (.ref f14) = true)
    (a15 : PySem.W.nsIn K mainGlobals "_spare" = some (some (.ref f15))) (l15 : K.lookup f15 = some ⟨oc15, od15, .func (PySem.W.fnOf "_spare" "_spare" (defArgs s_spare) (defBody s_spare) (defScope s_spare) .none kV15 dc15 pm15 an15 cd15 ct15), sl15⟩) (c15 : PySem.W.codeIn K cd15 "_spare" = true) (k15 : PySem.W.keepIn K (.ref f15) = true)
    (a16 : PySem.W.nsIn K mainGlobals "_representatives" = some (some (.ref f16))) (l16 : K.lookup f16 = some ⟨oc16, od16, .func (PySem.W.fnOf "_representatives" "_representatives" (defArgs s_representatives) (defBody s_representatives) (defScope s_representatives) .none kV16 dc16 pm16 an16 cd16 ct16), sl16⟩) (c16 : PySem.W.codeIn K cd16 "_representatives" = true) (k16 : PySem.W.keepIn K (.ref f16) = true)
    (a17 : PySem.W.nsIn K mainGlobals "_lines_from" = some (some (.ref f17))) (l17 : K.lookup f17 = some ⟨oc17, od17, .func (PySem.W.fnOf "_lines_from" "_lines_from" (defArgs s_lines_from) (defBody s_lines_from) (defScope s_lines_from) .none kV17 dc17 pm17 an17 cd17 ct17), sl17⟩) (c17 : PySem.W.codeIn K cd17 "_lines_from" = true) (k17 : PySem.W.keepIn K (.ref f17) = true)
    (a18 : PySem.W.nsIn K mainGlobals "_merged_states" = some (some (.ref f18))) (l18 : K.lookup f18 = some ⟨oc18, od18, .func (PySem.W.fnOf "_merged_states" "_merged_states" (defArgs s_merged_states) (defBody s_merged_states) (defScope s_merged_states) .none kV18 dc18 pm18 an18 cd18 ct18), sl18⟩) (c18 : PySem.W.codeIn K cd18 "_merged_states" = true) (k18 : PySem.W.keepIn K (.ref f18) = true)
    (a19 : PySem.W.nsIn K mainGlobals "_law_dice" = some (some (.ref f19))) (l19 : K.lookup f19 = some ⟨oc19, od19, .func (PySem.W.fnOf "_law_dice" "_law_dice" (defArgs s_law_dice) (defBody s_law_dice) (defScope s_law_dice) .none kV19 dc19 pm19 an19 cd19 ct19), sl19⟩) (c19 : PySem.W.codeIn K cd19 "_law_dice" = true) (k19 : PySem.W.keepIn K (.ref f19) = true)
    (a20 : PySem.W.nsIn K mainGlobals "_law_roll" = some (some (.ref f20))) (l20 : K.lookup f20 = some ⟨oc20, od20, .func (PySem.W.fnOf "_law_roll" "_law_roll" (defArgs s_law_roll) (defBody s_law_roll) (defScope s_law_roll) .none kV20 dc20 pm20 an20 cd20 ct20), sl20⟩) (c20 : PySem.W.codeIn K cd20 "_law_roll" = true) (k20 : PySem.W.keepIn K (.ref f20) = true)
    (a21 : PySem.W.nsIn K mainGlobals "_law_pick" = some (some (.ref f21))) (l21 : K.lookup f21 = some ⟨oc21, od21, .func (PySem.W.fnOf "_law_pick" "_law_pick" (defArgs s_law_pick) (defBody s_law_pick) (defScope s_law_pick) .none kV21 dc21 pm21 an21 cd21 ct21), sl21⟩) (c21 : PySem.W.codeIn K cd21 "_law_pick" = true) (k21 : PySem.W.keepIn K (.ref f21) = true)
    (a22 : PySem.W.nsIn K mainGlobals "_law_mixed" = some (some (.ref f22))) (l22 : K.lookup f22 = some ⟨oc22, od22, .func (PySem.W.fnOf "_law_mixed" "_law_mixed" (defArgs s_law_mixed) (defBody s_law_mixed) (defScope s_law_mixed) .none kV22 dc22 pm22 an22 cd22 ct22), sl22⟩) (c22 : PySem.W.codeIn K cd22 "_law_mixed" = true) (k22 : PySem.W.keepIn K (.ref f22) = true)
    (a23 : PySem.W.nsIn K mainGlobals "_law_digit_text" = some (some (.ref f23))) (l23 : K.lookup f23 = some ⟨oc23, od23, .func (PySem.W.fnOf "_law_digit_text" "_law_digit_text" (defArgs s_law_digit_text) (defBody s_law_digit_text) (defScope s_law_digit_text) .none kV23 dc23 pm23 an23 cd23 ct23), sl23⟩) (c23 : PySem.W.codeIn K cd23 "_law_digit_text" = true) (k23 : PySem.W.keepIn K (.ref f23) = true)
    (a24 : PySem.W.nsIn K mainGlobals "_law_made_reader" = some (some (.ref f24))) (l24 : K.lookup f24 = some ⟨oc24, od24, .func (PySem.W.fnOf "_law_made_reader" "_law_made_reader" (defArgs s_law_made_reader) (defBody s_law_made_reader) (defScope s_law_made_reader) .none kV24 dc24 pm24 an24 cd24 ct24), sl24⟩) (c24 : PySem.W.codeIn K cd24 "_law_made_reader" = true) (k24 : PySem.W.keepIn K (.ref f24) = true)
    (a25 : PySem.W.nsIn K mainGlobals "_law_state_names" = some (some (.ref f25))) (l25 : K.lookup f25 = some ⟨oc25, od25, .func (PySem.W.fnOf "_law_state_names" "_law_state_names" (defArgs s_law_state_names) (defBody s_law_state_names) (defScope s_law_state_names) .none kV25 dc25 pm25 an25 cd25 ct25), sl25⟩) (c25 : PySem.W.codeIn K cd25 "_law_state_names" = true) (k25 : PySem.W.keepIn K (.ref f25) = true)
    (a26 : PySem.W.nsIn K mainGlobals "_law_all_digits" = some (some (.ref f26))) (l26 : K.lookup f26 = some ⟨oc26, od26, .func (PySem.W.fnOf "_law_all_digits" "_law_all_digits" (defArgs s_law_all_digits) (defBody s_law_all_digits) (defScope s_law_all_digits) .none kV26 dc26 pm26 an26 cd26 ct26), sl26⟩) (c26 : PySem.W.codeIn K cd26 "_law_all_digits" = true) (k26 : PySem.W.keepIn K (.ref f26) = true)
    (a27 : PySem.W.nsIn K mainGlobals "_law_some_digits" = some (some (.ref f27))) (l27 : K.lookup f27 = some ⟨oc27, od27, .func (PySem.W.fnOf "_law_some_digits" "_law_some_digits" (defArgs s_law_some_digits) (defBody s_law_some_digits) (defScope s_law_some_digits) .none kV27 dc27 pm27 an27 cd27 ct27), sl27⟩) (c27 : PySem.W.codeIn K cd27 "_law_some_digits" = true) (k27 : PySem.W.keepIn K (.ref f27) = true)
    (a28 : PySem.W.nsIn K mainGlobals "_law_plain_reader" = some (some (.ref f28))) (l28 : K.lookup f28 = some ⟨oc28, od28, .func (PySem.W.fnOf "_law_plain_reader" "_law_plain_reader" (defArgs s_law_plain_reader) (defBody s_law_plain_reader) (defScope s_law_plain_reader) .none kV28 dc28 pm28 an28 cd28 ct28), sl28⟩) (c28 : PySem.W.codeIn K cd28 "_law_plain_reader" = true) (k28 : PySem.W.keepIn K (.ref f28) = true)
    (a29 : PySem.W.nsIn K mainGlobals "_law_reader_states" = some (some (.ref f29))) (l29 : K.lookup f29 = some ⟨oc29, od29, .func (PySem.W.fnOf "_law_reader_states" "_law_reader_states" (defArgs s_law_reader_states) (defBody s_law_reader_states) (defScope s_law_reader_states) .none kV29 dc29 pm29 an29 cd29 ct29), sl29⟩) (c29 : PySem.W.codeIn K cd29 "_law_reader_states" = true) (k29 : PySem.W.keepIn K (.ref f29) = true)
    (a30 : PySem.W.nsIn K mainGlobals "_law_reader_digits" = some (some (.ref f30))) (l30 : K.lookup f30 = some ⟨oc30, od30, .func (PySem.W.fnOf "_law_reader_digits" "_law_reader_digits" (defArgs s_law_reader_digits) (defBody s_law_reader_digits) (defScope s_law_reader_digits) .none kV30 dc30 pm30 an30 cd30 ct30), sl30⟩) (c30 : PySem.W.codeIn K cd30 "_law_reader_digits" = true) (k30 : PySem.W.keepIn K (.ref f30) = true)
    (a31 : PySem.W.nsIn K mainGlobals "_law_reader_lines" = some (some (.ref f31))) (l31 : K.lookup f31 = some ⟨oc31, od31, .func (PySem.W.fnOf "_law_reader_lines" "_law_reader_lines" (defArgs s_law_reader_lines) (defBody s_law_reader_lines) (defScope s_law_reader_lines) .none kV31 dc31 pm31 an31 cd31 ct31), sl31⟩) (c31 : PySem.W.codeIn K cd31 "_law_reader_lines" = true) (k31 : PySem.W.keepIn K (.ref f31) = true)
    (a32 : PySem.W.nsIn K mainGlobals "_law_told_right" = some (some (.ref f32))) (l32 : K.lookup f32 = some ⟨oc32, od32, .func (PySem.W.fnOf "_law_told_right" "_law_told_right" (defArgs s_law_told_right) (defBody s_law_told_right) (defScope s_law_told_right) .none kV32 dc32 pm32 an32 cd32 ct32), sl32⟩) (c32 : PySem.W.codeIn K cd32 "_law_told_right" = true) (k32 : PySem.W.keepIn K (.ref f32) = true)
    (a33 : PySem.W.nsIn K mainGlobals "_law_near" = some (some (.ref f33))) (l33 : K.lookup f33 = some ⟨oc33, od33, .func (PySem.W.fnOf "_law_near" "_law_near" (defArgs s_law_near) (defBody s_law_near) (defScope s_law_near) .none kV33 dc33 pm33 an33 cd33 ct33), sl33⟩) (c33 : PySem.W.codeIn K cd33 "_law_near" = true) (k33 : PySem.W.keepIn K (.ref f33) = true)
    (a34 : PySem.W.nsIn K mainGlobals "_law_equal_right" = some (some (.ref f34))) (l34 : K.lookup f34 = some ⟨oc34, od34, .func (PySem.W.fnOf "_law_equal_right" "_law_equal_right" (defArgs s_law_equal_right) (defBody s_law_equal_right) (defScope s_law_equal_right) .none kV34 dc34 pm34 an34 cd34 ct34), sl34⟩) (c34 : PySem.W.codeIn K cd34 "_law_equal_right" = true) (k34 : PySem.W.keepIn K (.ref f34) = true)
    (a35 : PySem.W.nsIn K mainGlobals "law" = some (some (.ref f35))) (l35 : K.lookup f35 = some ⟨oc35, od35, .func (PySem.W.fnOf "law" "law" (defArgs s_law) (defBody s_law) (defScope s_law) .none kV35 dc35 pm35 an35 cd35 ct35), sl35⟩) (c35 : PySem.W.codeIn K cd35 "law" = true) (k35 : PySem.W.keepIn K (.ref f35) = true)
    (goReader : PySem.W.nsIn K mainGlobals "Reader" = some (some (.ref CoReader)))
    (pgoReader : PySem.W.plainGet K CoReader Str.empty = true)
    (hdoReader : PySem.W.hasDictIn K CoReader = true)
    (pooReader : PySem.W.plainOver K CoReader = true)
    (saoReader : PySem.W.findIn K (.ref CoReader) "__setattr__" = some (some (.builtin "object.__setattr__")))
    (mkoReader : PySem.W.makesIn K CoReader = true)
    (kcoReader : PySem.W.keepIn K (.ref CoReader) = true)
    (neoReader : PySem.W.findIn K (.ref CoReader) "__ne__" = some (some (.builtin "object.__ne__")))
    (oboReader : PySem.W.mroIn K CoReader (.type "object") = some true)
    (kioReader : PySem.W.kitOne K (.ref CoReader) (.ref CoReader) = some true)
    (ktoReader : PySem.W.kitOne K (.type "tuple") (.ref CoReader) = some false)
    (kdoReader : PySem.W.kitOne K (.type "dict") (.ref CoReader) = some false)
    (kroReader : PySem.W.kitOne K (.ref CoReader) (.type "tuple") = some false)
    (ksoReader : PySem.W.kitOne K (.ref CoReader) (.type "str") = some false)
    (kNoneTypeoReader : PySem.W.kitOne K (.type "NoneType") (.ref CoReader) = some false)
    (kintoReader : PySem.W.kitOne K (.type "int") (.ref CoReader) = some false)
    (kbooloReader : PySem.W.kitOne K (.type "bool") (.ref CoReader) = some false)
    (kstroReader : PySem.W.kitOne K (.type "str") (.ref CoReader) = some false)
    (klistoReader : PySem.W.kitOne K (.type "list") (.ref CoReader) = some false)
    (caoReader : PySem.W.findIn K (.ref CoReader) "__class__" = some (some (.builtin "object.__class__")))
    (cgoReader : PySem.W.specialIn K (.builtin "object.__class__") "__get__" = some (some (.builtin "getset_descriptor.__get__")))
    (ctoReader : PySem.W.takesIn K (.builtin "object.__class__") = some true)
    (n_firstoReader : PySem.W.findIn K (.ref CoReader) "_first" = some none)
    (n_endsoReader : PySem.W.findIn K (.ref CoReader) "_ends" = some none)
    (n_readsoReader : PySem.W.findIn K (.ref CoReader) "_reads" = some none)
    (n_statesoReader : PySem.W.findIn K (.ref CoReader) "_states" = some none)
    (n_spareoReader : PySem.W.findIn K (.ref CoReader) "_spare" = some none)
    (atM0Reader : PySem.W.findIn K (.ref CoReader) "__init__" = some (some (.ref fM0Reader)))
    (ifM0Reader : PySem.W.isFn K (.ref fM0Reader) = true)
    (lM0Reader : K.lookup fM0Reader = some ⟨ocM0Reader, odM0Reader, .func (PySem.W.fnOf "__init__" "Reader.__init__" (defArgs s_Reader_init) (defBody s_Reader_init) (defScope s_Reader_init) .none kVM0Reader dcM0Reader pmM0Reader anM0Reader cdM0Reader ctM0Reader), slM0Reader⟩)
    (cM0Reader : PySem.W.codeIn K cdM0Reader "Reader.__init__" = true)
    (kM0Reader : PySem.W.keepIn K (.ref fM0Reader) = true)
    (atM2Reader : PySem.W.findIn K (.ref CoReader) "first" = some (some (.ref qM2Reader)))
    (geM2Reader : PySem.W.specialIn K (.ref qM2Reader) "__get__" = some (some (.builtin "property.__get__")))
    (taM2Reader : PySem.W.takesIn K (.ref qM2Reader) = some true)
    (reM2Reader : PySem.W.recIn K qM2Reader "property" = some (.ref fM2Reader :: rsM2Reader))
    (lM2Reader : K.lookup fM2Reader = some ⟨ocM2Reader, odM2Reader, .func (PySem.W.fnOf "first" "Reader.first" (defArgs s_Reader_first) (defBody s_Reader_first) (defScope s_Reader_first) .none kVM2Reader dcM2Reader pmM2Reader anM2Reader cdM2Reader ctM2Reader), slM2Reader⟩)
    (cM2Reader : PySem.W.codeIn K cdM2Reader "Reader.first" = true)
    (kM2Reader : PySem.W.keepIn K (.ref fM2Reader) = true)
    (atM3Reader : PySem.W.findIn K (.ref CoReader) "ends" = some (some (.ref qM3Reader)))
    (geM3Reader : PySem.W.specialIn K (.ref qM3Reader) "__get__" = some (some (.builtin "property.__get__")))
    (taM3Reader : PySem.W.takesIn K (.ref qM3Reader) = some true)
    (reM3Reader : PySem.W.recIn K qM3Reader "property" = some (.ref fM3Reader :: rsM3Reader))
    (lM3Reader : K.lookup fM3Reader = some ⟨ocM3Reader, odM3Reader, .func (PySem.W.fnOf "ends" "Reader.ends" (defArgs s_Reader_ends) (defBody s_Reader_ends) (defScope s_Reader_ends) .none kVM3Reader dcM3Reader pmM3Reader anM3Reader cdM3Reader ctM3Reader), slM3Reader⟩)
    (cM3Reader : PySem.W.codeIn K cdM3Reader "Reader.ends" = true)
    (kM3Reader : PySem.W.keepIn K (.ref fM3Reader) = true)
    (atM4Reader : PySem.W.findIn K (.ref CoReader) "reads" = some (some (.ref qM4Reader)))
    (geM4Reader : PySem.W.specialIn K (.ref qM4Reader) "__get__" = some (some (.builtin "property.__get__")))
    (taM4Reader : PySem.W.takesIn K (.ref qM4Reader) = some true)
    (reM4Reader : PySem.W.recIn K qM4Reader "property" = some (.ref fM4Reader :: rsM4Reader))
    (lM4Reader : K.lookup fM4Reader = some ⟨ocM4Reader, odM4Reader, .func (PySem.W.fnOf "reads" "Reader.reads" (defArgs s_Reader_reads) (defBody s_Reader_reads) (defScope s_Reader_reads) .none kVM4Reader dcM4Reader pmM4Reader anM4Reader cdM4Reader ctM4Reader), slM4Reader⟩)
    (cM4Reader : PySem.W.codeIn K cdM4Reader "Reader.reads" = true)
    (kM4Reader : PySem.W.keepIn K (.ref fM4Reader) = true)
    (atM5Reader : PySem.W.findIn K (.ref CoReader) "states" = some (some (.ref qM5Reader)))
    (geM5Reader : PySem.W.specialIn K (.ref qM5Reader) "__get__" = some (some (.builtin "property.__get__")))
    (taM5Reader : PySem.W.takesIn K (.ref qM5Reader) = some true)
    (reM5Reader : PySem.W.recIn K qM5Reader "property" = some (.ref fM5Reader :: rsM5Reader))
    (lM5Reader : K.lookup fM5Reader = some ⟨ocM5Reader, odM5Reader, .func (PySem.W.fnOf "states" "Reader.states" (defArgs s_Reader_states) (defBody s_Reader_states) (defScope s_Reader_states) .none kVM5Reader dcM5Reader pmM5Reader anM5Reader cdM5Reader ctM5Reader), slM5Reader⟩)
    (cM5Reader : PySem.W.codeIn K cdM5Reader "Reader.states" = true)
    (kM5Reader : PySem.W.keepIn K (.ref fM5Reader) = true)
    (atM6Reader : PySem.W.findIn K (.ref CoReader) "digits" = some (some (.ref qM6Reader)))
    (geM6Reader : PySem.W.specialIn K (.ref qM6Reader) "__get__" = some (some (.builtin "property.__get__")))
    (taM6Reader : PySem.W.takesIn K (.ref qM6Reader) = some true)
    (reM6Reader : PySem.W.recIn K qM6Reader "property" = some (.ref fM6Reader :: rsM6Reader))
    (lM6Reader : K.lookup fM6Reader = some ⟨ocM6Reader, odM6Reader, .func (PySem.W.fnOf "digits" "Reader.digits" (defArgs s_Reader_digits) (defBody s_Reader_digits) (defScope s_Reader_digits) .none kVM6Reader dcM6Reader pmM6Reader anM6Reader cdM6Reader ctM6Reader), slM6Reader⟩)
    (cM6Reader : PySem.W.codeIn K cdM6Reader "Reader.digits" = true)
    (kM6Reader : PySem.W.keepIn K (.ref fM6Reader) = true)
    (atM7Reader : PySem.W.findIn K (.ref CoReader) "lines" = some (some (.ref qM7Reader)))
    (geM7Reader : PySem.W.specialIn K (.ref qM7Reader) "__get__" = some (some (.builtin "property.__get__")))
    (taM7Reader : PySem.W.takesIn K (.ref qM7Reader) = some true)
    (reM7Reader : PySem.W.recIn K qM7Reader "property" = some (.ref fM7Reader :: rsM7Reader))
    (lM7Reader : K.lookup fM7Reader = some ⟨ocM7Reader, odM7Reader, .func (PySem.W.fnOf "lines" "Reader.lines" (defArgs s_Reader_lines) (defBody s_Reader_lines) (defScope s_Reader_lines) .none kVM7Reader dcM7Reader pmM7Reader anM7Reader cdM7Reader ctM7Reader), slM7Reader⟩)
    (cM7Reader : PySem.W.codeIn K cdM7Reader "Reader.lines" = true)
    (kM7Reader : PySem.W.keepIn K (.ref fM7Reader) = true)
    (atM9Reader : PySem.W.findIn K (.ref CoReader) "behind" = some (some (.ref fM9Reader)))
    (ifM9Reader : PySem.W.isFn K (.ref fM9Reader) = true)
    (lM9Reader : K.lookup fM9Reader = some ⟨ocM9Reader, odM9Reader, .func (PySem.W.fnOf "behind" "Reader.behind" (defArgs s_Reader_behind) (defBody s_Reader_behind) (defScope s_Reader_behind) .none kVM9Reader dcM9Reader pmM9Reader anM9Reader cdM9Reader ctM9Reader), slM9Reader⟩)
    (cM9Reader : PySem.W.codeIn K cdM9Reader "Reader.behind" = true)
    (kM9Reader : PySem.W.keepIn K (.ref fM9Reader) = true)
    (atM10Reader : PySem.W.findIn K (.ref CoReader) "takes" = some (some (.ref fM10Reader)))
    (ifM10Reader : PySem.W.isFn K (.ref fM10Reader) = true)
    (lM10Reader : K.lookup fM10Reader = some ⟨ocM10Reader, odM10Reader, .func (PySem.W.fnOf "takes" "Reader.takes" (defArgs s_Reader_takes) (defBody s_Reader_takes) (defScope s_Reader_takes) .none kVM10Reader dcM10Reader pmM10Reader anM10Reader cdM10Reader ctM10Reader), slM10Reader⟩)
    (cM10Reader : PySem.W.codeIn K cdM10Reader "Reader.takes" = true)
    (kM10Reader : PySem.W.keepIn K (.ref fM10Reader) = true)
    (atM11Reader : PySem.W.findIn K (.ref CoReader) "least" = some (some (.ref fM11Reader)))
    (ifM11Reader : PySem.W.isFn K (.ref fM11Reader) = true)
    (lM11Reader : K.lookup fM11Reader = some ⟨ocM11Reader, odM11Reader, .func (PySem.W.fnOf "least" "Reader.least" (defArgs s_Reader_least) (defBody s_Reader_least) (defScope s_Reader_least) .none kVM11Reader dcM11Reader pmM11Reader anM11Reader cdM11Reader ctM11Reader), slM11Reader⟩)
    (cM11Reader : PySem.W.codeIn K cdM11Reader "Reader.least" = true)
    (kM11Reader : PySem.W.keepIn K (.ref fM11Reader) = true)
    (atM12Reader : PySem.W.findIn K (.ref CoReader) "__len__" = some (some (.ref fM12Reader)))
    (ifM12Reader : PySem.W.isFn K (.ref fM12Reader) = true)
    (lM12Reader : K.lookup fM12Reader = some ⟨ocM12Reader, odM12Reader, .func (PySem.W.fnOf "__len__" "Reader.__len__" (defArgs s_Reader_len) (defBody s_Reader_len) (defScope s_Reader_len) .none kVM12Reader dcM12Reader pmM12Reader anM12Reader cdM12Reader ctM12Reader), slM12Reader⟩)
    (cM12Reader : PySem.W.codeIn K cdM12Reader "Reader.__len__" = true)
    (kM12Reader : PySem.W.keepIn K (.ref fM12Reader) = true)
    (atM13Reader : PySem.W.findIn K (.ref CoReader) "__eq__" = some (some (.ref fM13Reader)))
    (ifM13Reader : PySem.W.isFn K (.ref fM13Reader) = true)
    (lM13Reader : K.lookup fM13Reader = some ⟨ocM13Reader, odM13Reader, .func (PySem.W.fnOf "__eq__" "Reader.__eq__" (defArgs s_Reader_eq) (defBody s_Reader_eq) (defScope s_Reader_eq) .none kVM13Reader dcM13Reader pmM13Reader anM13Reader cdM13Reader ctM13Reader), slM13Reader⟩)
    (cM13Reader : PySem.W.codeIn K cdM13Reader "Reader.__eq__" = true)
    (kM13Reader : PySem.W.keepIn K (.ref fM13Reader) = true)
    (atM14Reader : PySem.W.findIn K (.ref CoReader) "__str__" = some (some (.ref fM14Reader)))
    (ifM14Reader : PySem.W.isFn K (.ref fM14Reader) = true)
    (lM14Reader : K.lookup fM14Reader = some ⟨ocM14Reader, odM14Reader, .func (PySem.W.fnOf "__str__" "Reader.__str__" (defArgs s_Reader_str) (defBody s_Reader_str) (defScope s_Reader_str) .none kVM14Reader dcM14Reader pmM14Reader anM14Reader cdM14Reader ctM14Reader), slM14Reader⟩)
    (cM14Reader : PySem.W.codeIn K cdM14Reader "Reader.__str__" = true)
    (kM14Reader : PySem.W.keepIn K (.ref fM14Reader) = true)
    (m0 : PySem.W.nsIn K mainGlobals "MAX_LETTERS" = some (some (.int 8 t0)))
    (m1 : PySem.W.nsIn K mainGlobals "_TOO_LONG" = some (some (.int 1000000000000000000000000000000000000000000000000000000000000 t1)))
    (m2 : PySem.W.nsIn K mainGlobals "MAX_DIGIT" = some (some (.int 3 t2)))
    (m3 : PySem.W.nsIn K mainGlobals "LOOSE_DIGIT" = some (some (.int 20 t3)))
    (m4 : PySem.W.nsIn K mainGlobals "_LOOSE_RANKS" = some (some (.int 402 t4)))
    (m5 : PySem.W.nsIn K mainGlobals "MAX_STATES" = some (some (.int 6 t5)))
    (m6 : PySem.W.nsIn K mainGlobals "MAX_READS" = some (some (.int 40 t6)))
    (z0 : PySem.W.nsIn K mainGlobals "IndexError" = some none)
    (z1 : PySem.W.nsIn K mainGlobals "ValueError" = some none)
    (z2 : PySem.W.nsIn K mainGlobals "abs" = some none)
    (z3 : PySem.W.nsIn K mainGlobals "all" = some none)
    (z4 : PySem.W.nsIn K mainGlobals "bool" = some none)
    (z5 : PySem.W.nsIn K mainGlobals "classmethod" = some none)
    (z6 : PySem.W.nsIn K mainGlobals "dict" = some none)
    (z7 : PySem.W.nsIn K mainGlobals "enumerate" = some none)
    (z8 : PySem.W.nsIn K mainGlobals "int" = some none)
    (z9 : PySem.W.nsIn K mainGlobals "isinstance" = some none)
    (z10 : PySem.W.nsIn K mainGlobals "len" = some none)
    (z11 : PySem.W.nsIn K mainGlobals "list" = some none)
    (z12 : PySem.W.nsIn K mainGlobals "max" = some none)
    (z13 : PySem.W.nsIn K mainGlobals "min" = some none)
    (z14 : PySem.W.nsIn K mainGlobals "property" = some none)
    (z15 : PySem.W.nsIn K mainGlobals "range" = some none)
    (z16 : PySem.W.nsIn K mainGlobals "repr" = some none)
    (z17 : PySem.W.nsIn K mainGlobals "set" = some none)
    (z18 : PySem.W.nsIn K mainGlobals "sorted" = some none)
    (z19 : PySem.W.nsIn K mainGlobals "str" = some none)
    (z20 : PySem.W.nsIn K mainGlobals "tuple" = some none) :
    ∃ fd : FuncData, (∀ (s : Shared) (v : Value), BindsTo s fd ⟨[v], []⟩ [("_law_script", v)]) ∧ ∀ base : Heap, K.In base → base.Ns mainGlobals mg → FnG l.prog w K mg base CX0 40 fa fd ["_law_script"] (spLaw K) := by
  have e := hfa.symm.trans (PySem.W.mg_of X G a35)
  cases e
  have T : Top K mg := {
    p_InvalidReader := ⟨Cy0, ⟨PySem.W.mg_of X G gy0, ⟨_, _, _, _, _, _, _, _, _, _, _, _, _, _, _, _, hy0, ty0⟩, iy0, ky0⟩, xclsB_ok zy0, exm_own by0 xy0 wy0 ry0⟩
    d_wall := ⟨_, _, fun_mk l0 c0 k0, (fun_mk (st := s_wall) l0 c0 k0).binds (ps := ["k"]) fun _ _ _ _ _ _ us hl => match us, hl with | [_], _ => rfl, PySem.W.mg_of X G a0⟩
    d_is_integer := ⟨_, _, fun_mk l1 c1 k1, (fun_mk (st := s_is_integer) l1 c1 k1).binds (ps := ["value"]) fun _ _ _ _ _ _ us hl => match us, hl with | [_], _ => rfl, PySem.W.mg_of X G a1⟩
    d_is_count := ⟨_, _, fun_mk l2 c2 k2, (fun_mk (st := s_is_count) l2 c2 k2).binds (ps := ["value"]) fun _ _ _ _ _ _ us hl => match us, hl with | [_], _ => rfl, PySem.W.mg_of X G a2⟩
    d_is_name := ⟨_, _, fun_mk l3 c3 k3, (fun_mk (st := s_is_name) l3 c3 k3).binds (ps := ["value"]) fun _ _ _ _ _ _ us hl => match us, hl with | [_], _ => rfl, PySem.W.mg_of X G a3⟩
    d_is_sorted := ⟨_, _, fun_mk l4 c4 k4, kbn_of fun us ws h1 h2 => match us, ws, h1, h2 with | [_], [_], _, _ => by first | rfl | with_unfolding_all rfl, PySem.W.mg_of X G a4⟩
    d_text_of := ⟨_, _, fun_mk l5 c5 k5, (fun_mk (st := s_text_of) l5 c5 k5).binds (ps := ["names"]) fun _ _ _ _ _ _ us hl => match us, hl with | [_], _ => rfl, PySem.W.mg_of X G a5⟩
    d_are_digits := ⟨_, _, fun_mk l6 c6 k6, (fun_mk (st := s_are_digits) l6 c6 k6).binds (ps := ["value"]) fun _ _ _ _ _ _ us hl => match us, hl with | [_], _ => rfl, PySem.W.mg_of X G a6⟩
    d_are_loose_digits := ⟨_, _, fun_mk l7 c7 k7, (fun_mk (st := s_are_loose_digits) l7 c7 k7).binds (ps := ["value"]) fun _ _ _ _ _ _ us hl => match us, hl with | [_], _ => rfl, PySem.W.mg_of X G a7⟩
    d_is_digit := ⟨_, _, fun_mk l8 c8 k8, (fun_mk (st := s_is_digit) l8 c8 k8).binds (ps := ["value"]) fun _ _ _ _ _ _ us hl => match us, hl with | [_], _ => rfl, PySem.W.mg_of X G a8⟩
    d_is_ascending := ⟨_, _, fun_mk l9 c9 k9, (fun_mk (st := s_is_ascending) l9 c9 k9).binds (ps := ["value"]) fun _ _ _ _ _ _ us hl => match us, hl with | [_], _ => rfl, PySem.W.mg_of X G a9⟩
    d_is_place := ⟨_, _, fun_mk l10 c10 k10, (fun_mk (st := s_is_place) l10 c10 k10).binds (ps := ["value"]) fun _ _ _ _ _ _ us hl => match us, hl with | [_], _ => rfl, PySem.W.mg_of X G a10⟩
    d_are_reads := ⟨_, _, fun_mk l11 c11 k11, (fun_mk (st := s_are_reads) l11 c11 k11).binds (ps := ["value"]) fun _ _ _ _ _ _ us hl => match us, hl with | [_], _ => rfl, PySem.W.mg_of X G a11⟩
    d_all_states := ⟨_, _, fun_mk l12 c12 k12, (fun_mk (st := s_all_states) l12 c12 k12).binds (ps := ["first", "ends", "reads"]) fun _ _ _ _ _ _ us hl => match us, hl with | [_, _, _], _ => rfl, PySem.W.mg_of X G a12⟩
    d_is_reader := ⟨_, _, fun_mk l13 c13 k13, (fun_mk (st := s_is_reader) l13 c13 k13).binds (ps := ["first", "ends", "reads"]) fun _ _ _ _ _ _ us hl => match us, hl with | [_, _, _], _ => rfl, PySem.W.mg_of X G a13⟩
    d_reached := ⟨_, _, fun_mk l14 c14 k14, (fun_mk (st := s_reached) l14 c14 k14).binds (ps := ["starts", "pairs"]) fun _ _ _ _ _ _ us hl => match us, hl with | [_, _], _ => rfl, PySem.W.mg_of X G a14⟩
    d_spare := ⟨_, _, fun_mk l15 c15 k15, (fun_mk (st := s_spare) l15 c15 k15).binds (ps := ["first", "ends", "reads"]) fun _ _ _ _ _ _ us hl => match us, hl with | [_, _, _], _ => rfl, PySem.W.mg_of X G a15⟩
    d_representatives := ⟨_, _, fun_mk l16 c16 k16, (fun_mk (st := s_representatives) l16 c16 k16).binds (ps := ["marks"]) fun _ _ _ _ _ _ us hl => match us, hl with | [_], _ => rfl, PySem.W.mg_of X G a16⟩
    d_lines_from := ⟨_, _, fun_mk l17 c17 k17, (fun_mk (st := s_lines_from) l17 c17 k17).binds (ps := ["state", "reads", "names"]) fun _ _ _ _ _ _ us hl => match us, hl with | [_, _, _], _ => rfl, PySem.W.mg_of X G a17⟩
    d_merged_states := ⟨_, _, fun_mk l18 c18 k18, (fun_mk (st := s_merged_states) l18 c18 k18).binds (ps := ["first", "ends", "reads"]) fun _ _ _ _ _ _ us hl => match us, hl with | [_, _, _], _ => rfl, PySem.W.mg_of X G a18⟩
    d_law_dice := ⟨_, _, fun_mk l19 c19 k19, (fun_mk (st := s_law_dice) l19 c19 k19).binds (ps := ["_law_script", "_law_spot"]) fun _ _ _ _ _ _ us hl => match us, hl with | [_, _], _ => rfl, PySem.W.mg_of X G a19⟩
    d_law_roll := ⟨_, _, fun_mk l20 c20 k20, (fun_mk (st := s_law_roll) l20 c20 k20).binds (ps := ["_law_dice_here", "_law_total"]) fun _ _ _ _ _ _ us hl => match us, hl with | [_, _], _ => rfl, PySem.W.mg_of X G a20⟩
    d_law_pick := ⟨_, _, fun_mk l21 c21 k21, (fun_mk (st := s_law_pick) l21 c21 k21).binds (ps := ["_law_dice_here", "_law_items"]) fun _ _ _ _ _ _ us hl => match us, hl with | [_, _], _ => rfl, PySem.W.mg_of X G a21⟩
    d_law_mixed := ⟨_, _, fun_mk l22 c22 k22, (fun_mk (st := s_law_mixed) l22 c22 k22).binds (ps := ["_law_dice_here", "_law_items"]) fun _ _ _ _ _ _ us hl => match us, hl with | [_, _], _ => rfl, PySem.W.mg_of X G a22⟩
    d_law_digit_text := ⟨_, _, fun_mk l23 c23 k23, (fun_mk (st := s_law_digit_text) l23 c23 k23).binds (ps := ["_law_digit"]) fun _ _ _ _ _ _ us hl => match us, hl with | [_], _ => rfl, PySem.W.mg_of X G a23⟩
    d_law_made_reader := ⟨_, _, fun_mk l24 c24 k24, (fun_mk (st := s_law_made_reader) l24 c24 k24).binds (ps := ["_law_plain"]) fun _ _ _ _ _ _ us hl => match us, hl with | [_], _ => rfl, PySem.W.mg_of X G a24⟩
    d_law_state_names := ⟨_, _, fun_mk l25 c25 k25, (fun_mk (st := s_law_state_names) l25 c25 k25).binds (ps := ["_law_dice_here", "_law_many"]) fun _ _ _ _ _ _ us hl => match us, hl with | [_, _], _ => rfl, PySem.W.mg_of X G a25⟩
    d_law_all_digits := ⟨_, _, fun_mk l26 c26 k26, (fun_mk (st := s_law_all_digits) l26 c26 k26).binds (ps := ["_law_names"]) fun _ _ _ _ _ _ us hl => match us, hl with | [_], _ => rfl, PySem.W.mg_of X G a26⟩
    d_law_some_digits := ⟨_, _, fun_mk l27 c27 k27, (fun_mk (st := s_law_some_digits) l27 c27 k27).binds (ps := ["_law_dice_here", "_law_most"]) fun _ _ _ _ _ _ us hl => match us, hl with | [_, _], _ => rfl, PySem.W.mg_of X G a27⟩
    d_law_plain_reader := ⟨_, _, fun_mk l28 c28 k28, (fun_mk (st := s_law_plain_reader) l28 c28 k28).binds (ps := ["_law_dice_here", "_law_states", "_law_digits"]) fun _ _ _ _ _ _ us hl => match us, hl with | [_, _, _], _ => rfl, PySem.W.mg_of X G a28⟩
    d_law_reader_states := ⟨_, _, fun_mk l29 c29 k29, (fun_mk (st := s_law_reader_states) l29 c29 k29).binds (ps := ["_law_plain"]) fun _ _ _ _ _ _ us hl => match us, hl with | [_], _ => rfl, PySem.W.mg_of X G a29⟩
    d_law_reader_digits := ⟨_, _, fun_mk l30 c30 k30, (fun_mk (st := s_law_reader_digits) l30 c30 k30).binds (ps := ["_law_plain"]) fun _ _ _ _ _ _ us hl => match us, hl with | [_], _ => rfl, PySem.W.mg_of X G a30⟩
    d_law_reader_lines := ⟨_, _, fun_mk l31 c31 k31, (fun_mk (st := s_law_reader_lines) l31 c31 k31).binds (ps := ["_law_plain"]) fun _ _ _ _ _ _ us hl => match us, hl with | [_], _ => rfl, PySem.W.mg_of X G a31⟩
    d_law_told_right := ⟨_, _, fun_mk l32 c32 k32, (fun_mk (st := s_law_told_right) l32 c32 k32).binds (ps := ["_law_dice_here", "_law_plain"]) fun _ _ _ _ _ _ us hl => match us, hl with | [_, _], _ => rfl, PySem.W.mg_of X G a32⟩
    d_law_near := ⟨_, _, fun_mk l33 c33 k33, (fun_mk (st := s_law_near) l33 c33 k33).binds (ps := ["_law_dice_here", "_law_plain"]) fun _ _ _ _ _ _ us hl => match us, hl with | [_, _], _ => rfl, PySem.W.mg_of X G a33⟩
    d_law_equal_right := ⟨_, _, fun_mk l34 c34 k34, (fun_mk (st := s_law_equal_right) l34 c34 k34).binds (ps := ["_law_dice_here", "_law_plain"]) fun _ _ _ _ _ _ us hl => match us, hl with | [_, _], _ => rfl, PySem.W.mg_of X G a34⟩
    c_Reader := ⟨CoReader, { gC := PySem.W.mg_of X G goReader, cl := ⟨pgoReader, hdoReader, pooReader, saoReader⟩, ne := neoReader, ob := oboReader, kit := kioReader, kitT := ktoReader, kitD := kdoReader, ca := caoReader, cg := cgoReader, ct := ctoReader, kitR := kroReader, kitS := ksoReader, kit_NoneType := kNoneTypeoReader, kit_int := kintoReader, kit_bool := kbooloReader, kit_str := kstroReader, kit_list := klistoReader, n_first := n_firstoReader, n_ends := n_endsoReader, n_reads := n_readsoReader, n_states := n_statesoReader, n_spare := n_spareoReader, made := ⟨_, _, ⟨mkoReader, atM0Reader, ifM0Reader, kcoReader⟩, fun_mk (st := s_Reader_init) lM0Reader cM0Reader kM0Reader, (fun_mk (st := s_Reader_init) lM0Reader cM0Reader kM0Reader).binds (ps := ["self", "first", "ends", "reads"]) fun _ _ _ _ _ _ us hl => match us, hl with | [_, _, _, _], _ => rfl⟩, p_first := ⟨_, _, _, ⟨atM2Reader, geM2Reader, taM2Reader, ⟨_, reM2Reader⟩⟩, fun_mk (st := s_Reader_first) lM2Reader cM2Reader kM2Reader, (fun_mk (st := s_Reader_first) lM2Reader cM2Reader kM2Reader).binds (ps := ["self"]) fun _ _ _ _ _ _ us hl => match us, hl with | [_], _ => rfl⟩, p_ends := ⟨_, _, _, ⟨atM3Reader, geM3Reader, taM3Reader, ⟨_, reM3Reader⟩⟩, fun_mk (st := s_Reader_ends) lM3Reader cM3Reader kM3Reader, (fun_mk (st := s_Reader_ends) lM3Reader cM3Reader kM3Reader).binds (ps := ["self"]) fun _ _ _ _ _ _ us hl => match us, hl with | [_], _ => rfl⟩, p_reads := ⟨_, _, _, ⟨atM4Reader, geM4Reader, taM4Reader, ⟨_, reM4Reader⟩⟩, fun_mk (st := s_Reader_reads) lM4Reader cM4Reader kM4Reader, (fun_mk (st := s_Reader_reads) lM4Reader cM4Reader kM4Reader).binds (ps := ["self"]) fun _ _ _ _ _ _ us hl => match us, hl with | [_], _ => rfl⟩, p_states := ⟨_, _, _, ⟨atM5Reader, geM5Reader, taM5Reader, ⟨_, reM5Reader⟩⟩, fun_mk (st := s_Reader_states) lM5Reader cM5Reader kM5Reader, (fun_mk (st := s_Reader_states) lM5Reader cM5Reader kM5Reader).binds (ps := ["self"]) fun _ _ _ _ _ _ us hl => match us, hl with | [_], _ => rfl⟩, p_digits := ⟨_, _, _, ⟨atM6Reader, geM6Reader, taM6Reader, ⟨_, reM6Reader⟩⟩, fun_mk (st := s_Reader_digits) lM6Reader cM6Reader kM6Reader, (fun_mk (st := s_Reader_digits) lM6Reader cM6Reader kM6Reader).binds (ps := ["self"]) fun _ _ _ _ _ _ us hl => match us, hl with | [_], _ => rfl⟩, p_lines := ⟨_, _, _, ⟨atM7Reader, geM7Reader, taM7Reader, ⟨_, reM7Reader⟩⟩, fun_mk (st := s_Reader_lines) lM7Reader cM7Reader kM7Reader, (fun_mk (st := s_Reader_lines) lM7Reader cM7Reader kM7Reader).binds (ps := ["self"]) fun _ _ _ _ _ _ us hl => match us, hl with | [_], _ => rfl⟩, m_behind := ⟨_, _, fun_mk (st := s_Reader_behind) lM9Reader cM9Reader kM9Reader, ⟨atM9Reader, ifM9Reader, kM9Reader⟩, ((fun_mk (st := s_Reader_behind) lM9Reader cM9Reader kM9Reader).binds (ps := ["self", "digits"]) fun _ _ _ _ _ _ us hl => match us, hl with | [_, _], _ => rfl), fn_in lM9Reader⟩, m_takes := ⟨_, _, fun_mk (st := s_Reader_takes) lM10Reader cM10Reader kM10Reader, ⟨atM10Reader, ifM10Reader, kM10Reader⟩, ((fun_mk (st := s_Reader_takes) lM10Reader cM10Reader kM10Reader).binds (ps := ["self", "digits"]) fun _ _ _ _ _ _ us hl => match us, hl with | [_, _], _ => rfl), fn_in lM10Reader⟩, m_least := ⟨_, _, fun_mk (st := s_Reader_least) lM11Reader cM11Reader kM11Reader, ⟨atM11Reader, ifM11Reader, kM11Reader⟩, ((fun_mk (st := s_Reader_least) lM11Reader cM11Reader kM11Reader).binds (ps := ["self"]) fun _ _ _ _ _ _ us hl => match us, hl with | [_], _ => rfl), fn_in lM11Reader⟩, m_len := ⟨_, _, fun_mk (st := s_Reader_len) lM12Reader cM12Reader kM12Reader, ⟨atM12Reader, ifM12Reader, kM12Reader⟩, ((fun_mk (st := s_Reader_len) lM12Reader cM12Reader kM12Reader).binds (ps := ["self"]) fun _ _ _ _ _ _ us hl => match us, hl with | [_], _ => rfl), fn_in lM12Reader⟩, m_eq := ⟨_, _, fun_mk (st := s_Reader_eq) lM13Reader cM13Reader kM13Reader, ⟨atM13Reader, ifM13Reader, kM13Reader⟩, ((fun_mk (st := s_Reader_eq) lM13Reader cM13Reader kM13Reader).binds (ps := ["self", "other"]) fun _ _ _ _ _ _ us hl => match us, hl with | [_, _], _ => rfl), fn_in lM13Reader⟩, m_str := ⟨_, _, fun_mk (st := s_Reader_str) lM14Reader cM14Reader kM14Reader, ⟨atM14Reader, ifM14Reader, kM14Reader⟩, ((fun_mk (st := s_Reader_str) lM14Reader cM14Reader kM14Reader).binds (ps := ["self"]) fun _ _ _ _ _ _ us hl => match us, hl with | [_], _ => rfl), fn_in lM14Reader⟩ }⟩
    g_MAX_LETTERS := ⟨_, PySem.W.mg_of X G m0⟩
    g__TOO_LONG := ⟨_, PySem.W.mg_of X G m1⟩
    g_MAX_DIGIT := ⟨_, PySem.W.mg_of X G m2⟩
    g_LOOSE_DIGIT := ⟨_, PySem.W.mg_of X G m3⟩
    g__LOOSE_RANKS := ⟨_, PySem.W.mg_of X G m4⟩
    g_MAX_STATES := ⟨_, PySem.W.mg_of X G m5⟩
    g_MAX_READS := ⟨_, PySem.W.mg_of X G m6⟩
    b_IndexError := PySem.W.mg_none_of X G z0
    b_ValueError := PySem.W.mg_none_of X G z1
    b_abs := PySem.W.mg_none_of X G z2
    b_all := PySem.W.mg_none_of X G z3
    b_bool := PySem.W.mg_none_of X G z4
    b_classmethod := PySem.W.mg_none_of X G z5
    b_dict := PySem.W.mg_none_of X G z6
    b_enumerate := PySem.W.mg_none_of X G z7
    b_int := PySem.W.mg_none_of X G z8
    b_isinstance := PySem.W.mg_none_of X G z9
    b_len := PySem.W.mg_none_of X G z10
    b_list := PySem.W.mg_none_of X G z11
    b_max := PySem.W.mg_none_of X G z12
    b_min := PySem.W.mg_none_of X G z13
    b_property := PySem.W.mg_none_of X G z14
    b_range := PySem.W.mg_none_of X G z15
    b_repr := PySem.W.mg_none_of X G z16
    b_set := PySem.W.mg_none_of X G z17
    b_sorted := PySem.W.mg_none_of X G z18
    b_str := PySem.W.mg_none_of X G z19
    b_tuple := PySem.W.mg_none_of X G z20 }
  exact ⟨PySem.W.fnOf "law" "law" (defArgs s_law) (defBody s_law) (defScope s_law) .none kV35 dc35 pm35 an35 cd35 ct35, fun s v => .of_eq rfl, fun base _ _ => ok_law (fun_mk (st := s_law) l35 c35 k35) T⟩
end Kl
open PySem PySem.W PyProof.Rows
set_option maxHeartbeats 0 in
theorem PySem.Challenge.cw_linkbooks_k17_readers_told_holds : PySem.Challenge.rw_linkbooks_k17_readers_told.Holds := by
  w_on; o_law; k_head; (case hw => w_witness2)
  k_fill
  refine Gx.walkG (l := PySem.Challenge.rw_linkbooks_k17_readers_told) (n := 63) (k := 40) (x := "_law_script") (CX := fun _ => L2.CX0) (sp := fun w => Kl.spLaw _) rfl (by decide) rfl ⟨rfl, by decide, by decide⟩ (fun w h Y => PySem.W.kIn_of Y) ?F (fun _ _ a ns hl _ hS => ⟨a, ns, rfl, hS, hl, fun _ => rfl⟩) (fun _ _ _ _ _ h => h)
  case F =>
    intro w mg fa h KX G hmg
    refine' Kl.all_mk KX G hmg ?gy0 ?hy0 ?ty0 ?iy0 ?ky0 ?by0 ?wy0 ?xy0 ?ry0 ?zy0 ?a0 ?l0 ?c0 ?k0 ?a1 ?l1 ?c1 ?k1 ?a2 ?l2 ?c2 ?k2 ?a3 ?l3 ?c3 ?k3 ?a4 ?l4 ?c4 ?k4 ?a5 ?l5 ?c5 ?k5 ?a6 ?l6 ?c6 ?k6 ?a7 ?l7 ?c7 ?k7 ?a8 ?l8 ?c8 ?k8 ?a9 ?l9 ?c9 ?k9 ?a10 ?l10 ?c10 ?k10 ?a11 ?l11 ?c11 ?k11 ?a12 ?l12 ?c12 ?k12 ?a13 ?l13 ?c13 ?k13 ?a14 ?l14 ?c14 ?k14 ?a15 ?l15 ?c15 ?k15 ?a16 ?l16 ?c16 ?k16 ?a17 ?l17 ?c17 ?k17 ?a18 ?l18 ?c18 ?k18 ?a19 ?l19 ?c19 ?k19 ?a20 ?l20 ?c20 ?k20 ?a21 ?l21 ?c21 ?k21 ?a22 ?l22 ?c22 ?k22 ?a23 ?l23 ?c23 ?k23 ?a24 ?l24 ?c24 ?k24 ?a25 ?l25 ?c25 ?k25 ?a26 ?l26 ?c26 ?k26 ?a27 ?l27 ?c27 ?k27 ?a28 ?l28 ?c28 ?k28 ?a29 ?l29 ?c29 ?k29 ?a30 ?l30 ?c30 ?k30 ?a31 ?l31 ?c31 ?k31 ?a32 ?l32 ?c32 ?k32 ?a33 ?l33 ?c33 ?k33 ?a34 ?l34 ?c34 ?k34 ?a35 ?l35 ?c35 ?k35 ?goReader ?pgoReader ?hdoReader ?pooReader ?saoReader ?mkoReader ?kcoReader ?neoReader ?oboReader ?kioReader ?ktoReader ?kdoReader ?kroReader ?ksoReader ?kNoneTypeoReader ?kintoReader ?kbooloReader ?kstroReader ?klistoReader ?caoReader ?cgoReader ?ctoReader ?n_firstoReader ?n_endsoReader ?n_readsoReader ?n_statesoReader ?n_spareoReader ?atM0Reader ?ifM0Reader ?lM0Reader ?cM0Reader ?kM0Reader ?atM2Reader ?geM2Reader ?taM2Reader ?reM2Reader ?lM2Reader ?cM2Reader ?kM2Reader ?atM3Reader ?geM3Reader ?taM3Reader ?reM3Reader ?lM3Reader ?cM3Reader ?kM3Reader ?atM4Reader ?geM4Reader ?taM4Reader ?reM4Reader ?lM4Reader ?cM4Reader ?kM4Reader ?atM5Reader ?geM5Reader ?taM5Reader ?reM5Reader ?lM5Reader ?cM5Reader ?kM5Reader ?atM6Reader ?geM6Reader ?taM6Reader ?reM6Reader ?lM6Reader ?cM6Reader ?kM6Reader ?atM7Reader ?geM7Reader ?taM7Reader ?reM7Reader ?lM7Reader ?cM7Reader ?kM7Reader ?atM9Reader ?ifM9Reader ?lM9Reader ?cM9Reader ?kM9Reader ?atM10Reader ?ifM10Reader ?lM10Reader ?cM10Reader ?kM10Reader ?atM11Reader ?ifM11Reader ?lM11Reader ?cM11Reader ?kM11Reader ?atM12Reader ?ifM12Reader ?lM12Reader ?cM12Reader ?kM12Reader ?atM13Reader ?ifM13Reader ?lM13Reader ?cM13Reader ?kM13Reader ?atM14Reader ?ifM14Reader ?lM14Reader ?cM14Reader ?kM14Reader ?m0 ?m1 ?m2 ?m3 ?m4 ?m5 ?m6 ?z0 ?z1 ?z2 ?z3 ?z4 ?z5 ?z6 ?z7 ?z8 ?z9 ?z10 ?z11 ?z12 ?z13 ?z14 ?z15 ?z16 ?z17 ?z18 ?z19 ?z20
    (case gy0 => k_is); (case hy0 => k_is); (case ty0 => decide +kernel); (case iy0 => k_is); (case ky0 => k_is); (case by0 => k_is); (case wy0 => k_is); (case xy0 => k_is); (case ry0 => first | rfl | k_is); (case zy0 => kernel_rfl); (case a0 => k_is); (case l0 => k_is); (case c0 => k_is); (case k0 => k_is); (case a1 => k_is); (case l1 => k_is); (case c1 => k_is); (case k1 => k_is); (case a2 => k_is); (case l2 => k_is); (case c2 => k_is); (case k2 => k_is); (case a3 => k_is); (case l3 => k_is); (case c3 => k_is); (case k3 => k_is); (case a4 => k_is); (case l4 => k_is); (case c4 => k_is); (case k4 => k_is); (case a5 => k_is); (case l5 => k_is); (case c5 => k_is); (case k5 => k_is); (case a6 => k_is); (case l6 => k_is); (case c6 => k_is); (case k6 => k_is); (case a7 => k_is); (case l7 => k_is); (case c7 => k_is); (case k7 => k_is); (case a8 => k_is); (case l8 => k_is); (case c8 => k_is); (case k8 => k_is); (case a9 => k_is); (case l9 => k_is); (case c9 => k_is); (case k9 => k_is); (case a10 => k_is); (case l10 => k_is); (case c10 => k_is); (case k10 => k_is); (case a11 => k_is); (case l11 => k_is); (case c11 => k_is); (case k11 => k_is); (case a12 => k_is); (case l12 => k_is); (case c12 => k_is); (case k12 => k_is); (case a13 => k_is); (case l13 => k_is); (case c13 => k_is); (case k13 => k_is); (case a14 => k_is); (case l14 => k_is); (case c14 => k_is); (case k14 => k_is); (case a15 => k_is); (case l15 => k_is); (case c15 => k_is); (case k15 => k_is); (case a16 => k_is); (case l16 => k_is); (case c16 => k_is); (case k16 => k_is); (case a17 => k_is); (case l17 => k_is); (case c17 => k_is); (case k17 => k_is); (case a18 => k_is); (case l18 => k_is); (case c18 => k_is); (case k18 => k_is); (case a19 => k_is); (case l19 => k_is); (case c19 => k_is); (case k19 => k_is); (case a20 => k_is); (case l20 => k_is); (case c20 => k_is); (case k20 => k_is); (case a21 => k_is); (case l21 => k_is); (case c21 => k_is); (case k21 => k_is); (case a22 => k_is); (case l22 => k_is); (case c22 => k_is); (case k22 => k_is); (case a23 => k_is); (case l23 => k_is); (case c23 => k_is); (case k23 => k_is); (case a24 => k_is); (case l24 => k_is); (case c24 => k_is); (case k24 => k_is); (case a25 => k_is); (case l25 => k_is); (case c25 => k_is); (case k25 => k_is); (case a26 => k_is); (case l26 => k_is); (case c26 => k_is); (case k26 => k_is); (case a27 => k_is); (case l27 => k_is); (case c27 => k_is); (case k27 => k_is); (case a28 => k_is); (case l28 => k_is); (case c28 => k_is); (case k28 => k_is); (case a29 => k_is); (case l29 => k_is); (case c29 => k_is); (case k29 => k_is); (case a30 => k_is); (case l30 => k_is); (case c30 => k_is); (case k30 => k_is); (case a31 => k_is); (case l31 => k_is); (case c31 => k_is); (case k31 => k_is); (case a32 => k_is); (case l32 => k_is); (case c32 => k_is); (case k32 => k_is); (case a33 => k_is); (case l33 => k_is); (case c33 => k_is); (case k33 => k_is); (case a34 => k_is); (case l34 => k_is); (case c34 => k_is); (case k34 => k_is); (case a35 => k_is); (case l35 => k_is); (case c35 => k_is); (case k35 => k_is); (case goReader => k_is); (case pgoReader => k_is); (case hdoReader => k_is); (case pooReader => k_is); (case saoReader => k_is); (case mkoReader => k_is); (case kcoReader => k_is); (case neoReader => k_is); (case oboReader => k_is); (case kioReader => first | rfl | k_is); (case ktoReader => first | rfl | k_is); (case kdoReader => first | rfl | k_is); (case kroReader => first | rfl | k_is); (case ksoReader => first | rfl | k_is); (case kNoneTypeoReader => first | rfl | k_is); (case kintoReader => first | rfl | k_is); (case kbooloReader => first | rfl | k_is); (case kstroReader => first | rfl | k_is); (case klistoReader => first | rfl | k_is); (case caoReader => k_is); (case cgoReader => k_is); (case ctoReader => k_is); (case n_firstoReader => k_is); (case n_endsoReader => k_is); (case n_readsoReader => k_is); (case n_statesoReader => k_is); (case n_spareoReader => k_is); (case atM0Reader => k_is); (case ifM0Reader => k_is); (case lM0Reader => k_is); (case cM0Reader => k_is); (case kM0Reader => k_is); (case atM2Reader => k_is); (case geM2Reader => k_is); (case taM2Reader => k_is); (case reM2Reader => k_is); (case lM2Reader => k_is); (case cM2Reader => k_is); (case kM2Reader => k_is); (case atM3Reader => k_is); (case geM3Reader => k_is); (case taM3Reader => k_is); (case reM3Reader => k_is); (case lM3Reader => k_is); (case cM3Reader => k_is); (case kM3Reader => k_is); (case atM4Reader => k_is); (case geM4Reader => k_is); (case taM4Reader => k_is); (case reM4Reader => k_is); (case lM4Reader => k_is); (case cM4Reader => k_is); (case kM4Reader => k_is); (case atM5Reader => k_is); (case geM5Reader => k_is); (case taM5Reader => k_is); (case reM5Reader => k_is); (case lM5Reader => k_is); (case cM5Reader => k_is); (case kM5Reader => k_is); (case atM6Reader => k_is); (case geM6Reader => k_is); (case taM6Reader => k_is); (case reM6Reader => k_is); (case lM6Reader => k_is); (case cM6Reader => k_is); (case kM6Reader => k_is); (case atM7Reader => k_is); (case geM7Reader => k_is); (case taM7Reader => k_is); (case reM7Reader => k_is); (case lM7Reader => k_is); (case cM7Reader => k_is); (case kM7Reader => k_is); (case atM9Reader => k_is); (case ifM9Reader => k_is); (case lM9Reader => k_is); (case cM9Reader => k_is); (case kM9Reader => k_is); (case atM10Reader => k_is); (case ifM10Reader => k_is); (case lM10Reader => k_is); (case cM10Reader => k_is); (case kM10Reader => k_is); (case atM11Reader => k_is); (case ifM11Reader => k_is); (case lM11Reader => k_is); (case cM11Reader => k_is); (case kM11Reader => k_is); (case atM12Reader => k_is); (case ifM12Reader => k_is); (case lM12Reader => k_is); (case cM12Reader => k_is); (case kM12Reader => k_is); (case atM13Reader => k_is); (case ifM13Reader => k_is); (case lM13Reader => k_is); (case cM13Reader => k_is); (case kM13Reader => k_is); (case atM14Reader => k_is); (case ifM14Reader => k_is); (case lM14Reader => k_is); (case cM14Reader => k_is); (case kM14Reader => k_is); (case m0 => k_is); (case m1 => k_is); (case m2 => k_is); (case m3 => k_is); (case m4 => k_is); (case m5 => k_is); (case m6 => k_is); (case z0 => k_is); (case z1 => k_is); (case z2 => k_is); (case z3 => k_is); (case z4 => k_is); (case z5 => k_is); (case z6 => k_is); (case z7 => k_is); (case z8 => k_is); (case z9 => k_is); (case z10 => k_is); (case z11 => k_is); (case z12 => k_is); (case z13 => k_is); (case z14 => k_is); (case z15 => k_is); (case z16 => k_is); (case z17 => k_is); (case z18 => k_is); (case z19 => k_is); (case z20 => k_is)
