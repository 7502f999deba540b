import PyProof.Rows.All
import Wide.All
import OpenK.AllK
import Wide.FinOn
import KE.KCallOwn
import KE.KEqDict
import PyProof.InstEq
import HandS.Base
import HandS.Call
import HandS.List
import HandS.Dict
import HandS.More
import HandS.Comp
import HandS.Words
import HandS.Property
import HandS.IsInst
import PyProof.Rows.SortShellAny
import PyProof.Rows.SetFrom
import HandS.Set
import PyProof.Rows.StrCountLaw
import HandS.ForMost
import HandS.Wide
import HandS.StrMore
import HandS.Style
import PyProof.ReprReads
import HandS.Ends
import PyProof.ReprRoads
import PyProof.TupleOfSeq
import KE.KExcInit
import HandS.ForExc
import HandS.TryMany
import HandS.Defaults
import HandS.Deep
import HandS.ExcValue
import KE.KExcMake
import KE.KExcIs
import HandS.Walk
import HandS.FStr
import HandS.DictComp
import HandS.ListItems
import HandS.TupAny
import HandS.Star
import HandS.Strs
import HandS.Small
import HandS.Flow
import HandS.ReCall
import PyProof.AssignAttr
import KE.SortData
import HandS.Zip
import HandS.SetFor
import HandS.Sort
import PyProof.ListRange
import KE.GoesEnum
import PyProof.Rows.RegFStrParts
import KE.KRevSl
import PySem.Challenge.RW_linkbooks_k11_whole_trees_opened_along_w
set_option Elab.async false
set_option linter.all false
set_option maxRecDepth 100000
set_option maxHeartbeats 4000000
namespace Gx
open PySem PySem.Spec PySem.Calls PyProof.Rows L2
/-! ### own protocols: in, [], len, str, == and != of instances -/
theorem rel_ref (a : Addr) : RelV (V.ref a) (Value.ref a) := rfl
/-- a method of the class at C that keeps the promise sp, by at most level k -/
def CalM (P : Program) (w : World) (K : PySem.W.Frag) (mg : Str → Option Value) (base : Heap) (C : Addr) (m : Str) (k : Nat) (ps : List Str) (sp : Sp) : Prop :=
  ∃ (f : Addr) (fd : FuncData), FnOk P w K mg base CX0 k f fd ps sp ∧ Meth K C m f ∧ Binds K fd ps [] ∧ PySem.W.fnIn K f = true
theorem CalM.mono {P : Program} {w : World} {K : PySem.W.Frag} {mg : Str → Option Value} {base : Heap} {C : Addr} {m : Str} {j k : Nat} {ps : List Str} {sp : Sp} (c : CalM P w K mg base C m j ps sp) (h : j ≤ k) : CalM P w K mg base C m k ps sp := by
  obtain ⟨f, fd, F, more⟩ := c
  exact ⟨f, fd, F.mono h, more⟩
section
variable {X : Cx} {C : Addr} {k : Nat} {ps : List Str} {sp : Sp} {m : Str}
/-- the method runs, somewhere below the body -/
theorem run_below {f : Addr} {fd : FuncData} {A : Around} {pins : List (Addr × Obj)} {σ : L2.St} {H : Hp} {s : Shared} {us : List Value} {vs : List V} {Q : VK} {E : Value → Shared → Prop} (F : FnOk X.prog X.w X.K X.mg X.base CX0 k f fd ps sp) (room : Room k A) (fr : A.frames = X.A.frames) (b : Binds X.K fd ps [])
    (I : Inv X pins σ H s) (r : Vals vs us) (want : sp vs H Q E0) : wpAny (model X.prog X.w) A (call (.ref f) us) (EP X pins σ Q) E s := by
  have e0 : Env0 X.prog X.w X.K X.mg X.base A X.stack s H := by
    have e := I.env0
    exact ⟨by rw [fr]; exact e.frames, e.mod, e.bs, e.bsz, e.funs, e.frf, e.hok, e.bare⟩
  have hl : us.length = ps.length := r.length.symm.trans (F.len _ _ _ _ want)
  have bt : BindsTo s fd ⟨us, []⟩ (ps.zip us) := by
    have q := b s us I.kIn (by rw [List.append_nil]; exact hl)
    rw [List.append_nil] at q
    exact q
  refine wpAny_call (codeAny_mono (F.run A X.stack s H ⟨us, []⟩ us vs Q E0 room e0 bt r want) fun res s' hres => ?_)
  match res, hres with
  | .error e, hres => exact hres.elim
  | .ok (.ret u), hres => exact I.after hres
/-- x in o, x not in o -/
def rInM (C : Addr) (sp : Sp) (neg : Bool) : R2 := fun x y H Q => ∃ a dx fs, y = .ref a ∧ H a = some (.ins C dx fs) ∧ sp [.ref a, x] H (fun v H' => ∃ b, v = .bl b ∧ Q (.bl (if neg then !b else b)) H') E0
theorem op_inM (c : CalM X.prog X.w X.K X.mg X.base C "__contains__" k ps sp) (hr : Room k X.A) : OpR X (compareOp .In) (rInM C sp false) := by
  intro pins s σ H x y v u Q I rx ry h
  obtain ⟨f, fd, F, me, b, _⟩ := c
  obtain ⟨a, dx, fs, rfl, ea, q⟩ := h
  obtain rfl : u = Value.ref a := ry
  obtain ⟨mA, O, _⟩ := ins_get I.hok ea
  obtain ⟨od, J, _⟩ := O.look
  obtain ⟨mm, hF⟩ := I.fr
  refine PySem.W.in_K hF I.ok.mod.kin J me.at_ me.fn (wpAny_mono (run_below F hr rfl b I (.cons (rel_ref a) (.cons rx .nil)) q) (fun r s' z => ?_) fun _ _ e => e)
  obtain ⟨v', H', I', rv, t, rfl, q'⟩ := z
  cases rv
  exact wpAny_truthy_bool ⟨.bl t, H', I', rfl, q'⟩
theorem op_notinM (c : CalM X.prog X.w X.K X.mg X.base C "__contains__" k ps sp) (hr : Room k X.A) : OpR X (compareOp .NotIn) (rInM C sp true) := by
  intro pins s σ H x y v u Q I rx ry h
  obtain ⟨f, fd, F, me, b, _⟩ := c
  obtain ⟨a, dx, fs, rfl, ea, q⟩ := h
  obtain rfl : u = Value.ref a := ry
  obtain ⟨mA, O, _⟩ := ins_get I.hok ea
  obtain ⟨od, J, _⟩ := O.look
  obtain ⟨mm, hF⟩ := I.fr
  refine PySem.W.notIn_K hF I.ok.mod.kin J me.at_ me.fn (wpAny_mono (run_below F hr rfl b I (.cons (rel_ref a) (.cons rx .nil)) q) (fun r s' z => ?_) fun _ _ e => e)
  obtain ⟨v', H', I', rv, t, rfl, q'⟩ := z
  cases rv
  exact wpAny_truthy_bool ⟨.bl (!t), H', I', rfl, q'⟩
/-- o[x] -/
def rIxM (C : Addr) (sp : Sp) : R2 := fun x y H Q => ∃ a dx fs, x = .ref a ∧ H a = some (.ins C dx fs) ∧ sp [.ref a, y] H Q E0
theorem pe_ixM {a b : Expr} {ta tb : TE} {pos : Pos} (c : CalM X.prog X.w X.K X.mg X.base C "__getitem__" k ps sp) (hr : Room (k + 1) X.A) (ha : PE X a ta) (hb : PE X b tb)
    (hs : ∀ v u, subscripted b true v u = runValue (.builtin "lifetime.subscript" ⟨[v, u], []⟩)) : PE X (.Subscript a b pos) (tOp (rIxM C sp) ta tb) := by
  obtain ⟨f, fd, F, me, bi, fi⟩ := c
  refine ⟨fun pins s σ H Q I h => ?_⟩
  refine Subscript_ (binT ha hb I h fun v u s2 x y H2 I2 rx ry q => ?_)
  obtain ⟨p, dx, fs, rfl, ea, q⟩ := q
  obtain rfl : v = Value.ref p := rx
  obtain ⟨mA, O, _⟩ := ins_get I2.hok ea
  obtain ⟨od, J, _⟩ := O.look
  obtain ⟨mm, hF⟩ := I2.fr
  exact PySem.W.sub_K hF I2.ok.mod.kin J me.at_ fi me.fn (run_below F hr.in1 rfl bi I2 (.cons (rel_ref _) (.cons ry .nil)) q) (hs _ _)
/-- len(o) -/
def rLenM (C : Addr) (sp : Sp) : List V → Hp → VK → Prop := fun vs H Q => ∃ a dx fs, vs = [.ref a] ∧ H a = some (.ins C dx fs) ∧ sp [.ref a] H (fun v H' => ∃ n : Nat, v = .int n ∧ n ≤ 1000000 ∧ Q (.int n) H') E0
theorem call_lenM (c : CalM X.prog X.w X.K X.mg X.base C "__len__" k ps sp) (hr : Room (k + 1) X.A) : CallR X (.builtin "len") (rLenM C sp) := by
  intro pins s σ H xs us Q I r h
  obtain ⟨f, fd, F, me, b, _⟩ := c
  obtain ⟨a, dx, fs, rfl, ea, q⟩ := h
  rw [Vals.ref1 r]
  obtain ⟨mA, O, _⟩ := ins_get I.hok ea
  obtain ⟨od, J, _⟩ := O.look
  obtain ⟨mm, hF⟩ := I.fr
  refine PySem.W.len_K hF I.ok.mod.kin J me.at_ me.fn (wpAny_mono (run_below F hr.in1 rfl b I (.cons (rel_ref a) .nil) q) (fun r s' z => ?_) fun _ _ e => e)
  obtain ⟨v', H', I', rv, n, rfl, hn, q'⟩ := z
  obtain ⟨t, rfl⟩ := (show ∃ t, r = Value.int n t from rv)
  exact ⟨⟨by omega, by omega⟩, .int n, H', I'.tok _, ⟨_, rfl⟩, q'⟩
/-- str(o) -/
def rStrM (C : Addr) (sp : Sp) : List V → Hp → VK → Prop := fun vs H Q => ∃ a dx fs, vs = [.ref a] ∧ H a = some (.ins C dx fs) ∧ sp [.ref a] H (fun v H' => ∃ z : Str, v = .str z ∧ Q (.str z) H') E0
theorem call_strM (c : CalM X.prog X.w X.K X.mg X.base C "__str__" k ps sp) (hr : Room (k + 2) X.A) : CallR X (.type "str") (rStrM C sp) := by
  intro pins s σ H xs us Q I r h
  obtain ⟨f, fd, F, me, b, _⟩ := c
  obtain ⟨a, dx, fs, rfl, ea, q⟩ := h
  rw [Vals.ref1 r]
  obtain ⟨mA, O, _⟩ := ins_get I.hok ea
  obtain ⟨od, J, _⟩ := O.look
  have r2 : Room k X.A.in1.in1 := (hr.in1).in1
  refine PySem.W.kso_call r2.units0 I.kIn J me.at_ me.fn (wpAny_mono (run_below F r2 rfl b I (.cons (rel_ref a) .nil) q) (fun r s' z => ?_) fun _ _ e => e)
  obtain ⟨v', H', I', rv, y, rfl, q'⟩ := z
  obtain ⟨t, rfl⟩ := (show ∃ t, r = Value.str y t from rv)
  exact ⟨.str y, H', I', ⟨_, rfl⟩, q'⟩
/-- what an instance of the class at C may be compared with: another one, a tuple, a dict -/
inductive Oth (K : PySem.W.Frag) (H : Hp) (C : Addr) : V → Value → Prop
  | ins {a dx : Addr} {fs : List (Str × V)} (e : H a = some (.ins C dx fs)) : Oth K H C (.ref a) (.ref C)
  | tup {a : Addr} {xs : List V} (e : SqT K H a xs) : Oth K H C (.ref a) (.type "tuple")
  | dict {a : Addr} {kvs : List (Key × V)} (e : H a = some (.dK kvs)) : Oth K H C (.ref a) (.type "dict")
theorem sub_tuple_own {K : PySem.W.Frag} {C : Addr} : PySem.W.subIn K (.type "tuple") (.ref C) = some false := by
  have e : fastBuiltinMro "tuple" = some [.type "tuple", .type "object"] := by decide +kernel
  show (fastBuiltinMro "tuple").map (·.contains (.ref C)) = some false
  rw [e]
  first
    | rfl
    | simp
theorem sub_dict_own {K : PySem.W.Frag} {C : Addr} : PySem.W.subIn K (.type "dict") (.ref C) = some false := by
  have e : fastBuiltinMro "dict" = some [.type "dict", .type "object"] := by decide +kernel
  show (fastBuiltinMro "dict").map (·.contains (.ref C)) = some false
  rw [e]
  first
    | rfl
    | simp
theorem Oth.looks {M : Model} {pins : List (Addr × Obj)} {σ : L2.St} {H : Hp} {s : Shared} {y : V} {u t : Value} (I : Inv X pins σ H s) (o : Oth X.K H C y t) (r : RelV y u) :
    PySem.W.Looks M s.heap (typeOf u) t ∧ PySem.W.notFirst X.K C t = true := by
  cases o with
  | @ins a dx fs e =>
    obtain rfl : u = Value.ref a := r
    obtain ⟨mA, O, _⟩ := ins_get I.hok e
    obtain ⟨od, J, _⟩ := O.look
    exact ⟨J.type, by simp [PySem.W.notFirst]⟩
  | @tup a xs e =>
    obtain rfl : u = Value.ref a := r
    obtain ⟨its, rv, ⟨ob, ho, hc, _⟩, _⟩ := I.tuple e
    refine ⟨?_, by simp [PySem.W.notFirst, sub_tuple_own]⟩
    intro A Q E s' kp q
    exact wpAny_typeOf (T := "tuple") ⟨ob, kp _ _ ho, hc⟩ q
  | @dict a kvs e =>
    obtain rfl : u = Value.ref a := r
    obtain ⟨_, _, vs, _, dd⟩ := dk_of I.hok e
    refine ⟨?_, by simp [PySem.W.notFirst, sub_dict_own]⟩
    intro A Q E s' kp q
    obtain ⟨ob, ho, hc⟩ := dd.typeIs
    exact wpAny_typeOf (T := "dict") ⟨ob, kp _ _ ho, hc⟩ q
/-- o == y by the class's own == -/
def rEqM (K : PySem.W.Frag) (C : Addr) (sp : Sp) : R2 := fun x y H Q => ∃ a dx fs t, x = .ref a ∧ H a = some (.ins C dx fs) ∧ Oth K H C y t ∧ sp [.ref a, y] H (fun v H' => ∃ b, v = .bl b ∧ Q (.bl b) H') E0
theorem op_eqM (c : CalM X.prog X.w X.K X.mg X.base C "__eq__" k ps sp) (hr : Room k X.A) : OpR X (compareOp .Eq) (rEqM X.K C sp) := by
  intro pins s σ H x y v u Q I rx ry h
  obtain ⟨f, fd, F, me, b, _⟩ := c
  obtain ⟨a, dx, fs, t, rfl, ea, o, q⟩ := h
  obtain rfl : v = Value.ref a := rx
  obtain ⟨mA, O, _⟩ := ins_get I.hok ea
  obtain ⟨od, J, _⟩ := O.look
  obtain ⟨mm, hF⟩ := I.fr
  obtain ⟨lk, nf⟩ := o.looks (M := model X.prog X.w) I ry
  show wpAny _ _ (richCompare .Eq (.ref a) u) _ _ _
  refine PySem.W.cmp_K (op := .Eq) hr.units0 hF I.ok.mod.kin J lk nf me.at_ me.fn (wpAny_mono (run_below F hr rfl b I (.cons (rel_ref _) (.cons ry .nil)) q) (fun r s' z => ?_) fun _ _ e => e)
  obtain ⟨v', H', I', rv, t, rfl, q'⟩ := z
  cases rv
  exact ⟨.bl t, H', I', rfl, q'⟩
end
section
variable {prog : Program} {w : World} {A : Around} {E : Value → Shared → Prop} {s : Shared} {K : PySem.W.Frag} {x C f : Addr} {ox : Obj} {od : Option Obj} {y : Value}
theorem objNe_by (inK : K.In s.heap) (J : PySem.W.InstAt s.heap x ox C od) (hs : PySem.W.findIn K (.ref C) "__eq__" = some (some (.ref f))) (hf : PySem.W.isFn K (.ref f) = true) (hu : A.units < cLine) {Q : Fin → Shared → Prop}
    (hcall : wpAny (model prog w) A (call (.ref f) [.ref x, y]) (fun v s' => ∃ b, v = .bool b ∧ Q (.done (.ret (.bool (!b)))) s') E s) : wpAny (model prog w) A (Builtin.«object.__ne__» ⟨[.ref x, y], []⟩) Q E s := by
  unfold Builtin.«object.__ne__»
  repeat (first
    | with_reducible refine wpAny_cRoomFor hu ?_
    | (refine wpAny_bind (m := callSpecialIfBound? (.ref x) (Str.ofString "__eq__") [y]) (PySem.W.ifBound_K inK J hs hf (wpAny_mono hcall (fun r s' hr => by
          obtain ⟨b, rfl, hq⟩ := hr
          repeat (first | exact hq | exact wpAny_pure hq | exact wpAny_truthy_bool hq | (refine wpAny_bind (m := truthy (.bool _)) (wpAny_truthy_bool ?_)) | wp_step)) fun _ _ e => e)))
    | wp_step)
theorem bound_ne {args : List Value} {Q : Option Value → Shared → Prop} (inK : K.In s.heap) (J : PySem.W.InstAt s.heap x ox C od) (hs : PySem.W.findIn K (.ref C) "__ne__" = some (some (.builtin "object.__ne__")))
    (h : wpAny (model prog w) A (call (.builtin "object.__ne__") (.ref x :: args)) (fun v => Q (some v)) E s) : wpAny (model prog w) A (callSpecialIfBound? (.ref x) "__ne__" args) Q E s := by
  simp only [callSpecialIfBound?, bindSpecialIfBound?]
  refine wpAny_holding (wpAny_bind (wpAny_bind (wpAny_bind (J.type.here ((PySem.W.looks_findIn inK hs).here ?_)))))
  refine wpAny_bind (wpAny_askSetting (wpAny_ite ?_))
  have last : wpAny (model prog w) A (call (.builtin "object.__ne__") ([.ref x] ++ args) >>= fun v => pure (some v)) Q E s := wpAny_bind (wpAny_mono h (fun v s' h' => wpAny_pure h') fun _ _ h' => h')
  split
  · exact wpAny_bind (wpAny_of_eq (PySem.F.cmp_object.ne.bind _) (wpAny_pure (by exact last)))
  · exact wpAny_tryCatch (wpAny_bind (wpAny_of_eq (PySem.F.cmp_object.ne.bind _) (wpAny_pure (by exact last))))
theorem rc_neM {tb : Value} {Q : Value → Shared → Prop} (inK : K.In s.heap) (J : PySem.W.InstAt s.heap x ox C od) (hm : PySem.W.mroIn K C (.type "object") = some true) (hn : PySem.W.findIn K (.ref C) "__ne__" = some (some (.builtin "object.__ne__")))
    (hs : PySem.W.findIn K (.ref C) "__eq__" = some (some (.ref f))) (hf : PySem.W.isFn K (.ref f) = true) (hu : A.units < cLine) (hu1 : A.in1.units < cLine) (lk : PySem.W.Looks (model prog w) s.heap (typeOf y) tb) (nf : PySem.W.notFirst K C tb = true)
    (hcall : wpAny (model prog w) A.in1 (call (.ref f) [.ref x, y]) (fun v s' => ∃ b, v = .bool b ∧ Q (.bool (!b)) s') E s) : wpAny (model prog w) A (richCompare .NotEq (.ref x) y) Q E s := by
  have one : wpAny (model prog w) A (tryCompare (.ref x) "__ne__" y) (fun r s' => ∃ v, r = some v ∧ Q v s') E s := by
    unfold tryCompare
    refine wpAny_bind (bound_ne inK J hn (wpAny_call (codeAny_call_builtin PySem.F.cmp_object.ne.plain PySem.F.cmpEntry_ne
      (PySem.W.check_slot PySem.F.cmpKind_ne PySem.F.cmpSplit_ne (J.type.andThen (PySem.W.looks_mroIn inK hm)) (PySem.F.cmpArgs_ne _ _) (objNe_by inK J hs hf hu1 (wpAny_mono hcall (fun v s' hv => ?_) fun _ _ e => e))))))
    obtain ⟨b, rfl, q⟩ := hv
    first
      | exact ⟨b, rfl, wpAny_pure ⟨_, rfl, q⟩⟩
      | exact ⟨b, rfl, wpAny_pure (wpAny_pure ⟨_, rfl, q⟩)⟩
      | exact ⟨b, rfl, ⟨_, rfl, q⟩⟩
  unfold richCompare
  simp only [oneThing_ref]
  refine wpAny_holding (wpAny_bind (wpAny_cRoomFor hu ?_))
  refine wpAny_bind (J.type.here (wpAny_bind (lk.here ?_)))
  split
  · rename_i q
    have e : PySem.W.subIn K tb (.ref C) = some false := by
      rcases Bool.or_eq_true_iff.mp nf with e | e
      · rw [beq_iff_eq.mp e] at q
        simp at q
      · exact beq_iff_eq.mp e
    refine wpAny_bind ((PySem.W.looks_subIn inK e).here ?_)
    simp only [Bool.false_eq_true, if_false]
    refine wpAny_bind (wpAny_mono one (fun r s' z => ?_) fun _ _ e => e)
    obtain ⟨v, rfl, hq⟩ := z
    exact wpAny_pure hq
  · refine wpAny_bind (wpAny_pure ?_)
    simp only [Bool.false_eq_true, if_false]
    refine wpAny_bind (wpAny_mono one (fun r s' z => ?_) fun _ _ e => e)
    obtain ⟨v, rfl, hq⟩ := z
    exact wpAny_pure hq
end
section
variable {X : Cx} {C : Addr} {k : Nat} {ps : List Str} {sp : Sp}
/-- o != y, the class having no != of its own -/
def rNeM (K : PySem.W.Frag) (C : Addr) (sp : Sp) : R2 := fun x y H Q => ∃ a dx fs t, x = .ref a ∧ H a = some (.ins C dx fs) ∧ Oth K H C y t ∧ sp [.ref a, y] H (fun v H' => ∃ b, v = .bl b ∧ Q (.bl (!b)) H') E0
theorem op_neM (c : CalM X.prog X.w X.K X.mg X.base C "__eq__" k ps sp) (hn : PySem.W.findIn X.K (.ref C) "__ne__" = some (some (.builtin "object.__ne__"))) (hm : PySem.W.mroIn X.K C (.type "object") = some true) (hr : Room (k + 1) X.A) :
    OpR X (compareOp .NotEq) (rNeM X.K C sp) := by
  intro pins s σ H x y v u Q I rx ry h
  obtain ⟨f, fd, F, me, b, _⟩ := c
  obtain ⟨a, dx, fs, t, rfl, ea, o, q⟩ := h
  obtain rfl : v = Value.ref a := rx
  obtain ⟨mA, O, _⟩ := ins_get I.hok ea
  obtain ⟨od, J, _⟩ := O.look
  obtain ⟨lk, nf⟩ := o.looks (M := model X.prog X.w) I ry
  show wpAny _ _ (richCompare .NotEq (.ref a) u) _ _ _
  refine rc_neM I.kIn J hm hn me.at_ me.fn hr.units0 hr.in1.units0 lk nf (wpAny_mono (run_below F hr.in1 rfl b I (.cons (rel_ref _) (.cons ry .nil)) q) (fun r s' z => ?_) fun _ _ e => e)
  obtain ⟨v', H', I', rv, t, rfl, q'⟩ := z
  cases rv
  exact ⟨t, rfl, .bl (!t), H', I', rfl, q'⟩
/-! ### dicts of data compared -/
/-- the pairs ks, one by one, in the dict of the pairs ls -/
inductive HitsV (K : PySem.W.Frag) (H : Hp) (ls : List (Key × V)) : List (Key × V) → Bool → Prop
  | nil : HitsV K H ls [] true
  | miss {p : Key × V} {r : List (Key × V)} (e : valV ls p.1 = none) : HitsV K H ls (p :: r) false
  | hit {p : Key × V} {r : List (Key × V)} {y : V} {d e : PyData} {b : Bool} (at_ : valV ls p.1 = some y) (hd : Dp K H p.2 d) (he : Dp K H y e) (sd : SeqAt.shaped d = true) (se : SeqAt.shaped e = true) (more : HitsV K H ls r b) : HitsV K H ls (p :: r) (PyData.eqv d e && b)
theorem HitsV.raw {pins : List (Addr × Obj)} {σ : L2.St} {H : Hp} {s : Shared} (I : Inv X pins σ H s) (hu : X.A.in1.units + 64 < cLine) {ls : List (Key × V)} {vb : List (Key × Value)} (rb : KV ls vb) {ks : List (Key × V)} {r : Bool} (h : HitsV X.K H ls ks r) :
    ∀ {va : List (Key × Value)}, KV ks va → PySem.W.KeqHits X.A.in1 s vb va r := by
  induction h with
  | nil =>
    intro va ra
    unfold KV at ra
    cases ra
    exact .nil
  | @miss p r e =>
    intro va ra
    unfold KV at ra
    cases ra with
    | @cons _ q _ qs h t =>
      obtain ⟨k, v⟩ := q
      obtain ⟨h1, h2⟩ := h
      have h1' : p.1 = k := h1
      have rr := rb.val p.1
      rw [e, h1'] at rr
      refine .miss ?_
      cases c : valueAt vb k with
      | none => rfl
      | some z => rw [c] at rr; exact rr.elim
  | @hit p r y d e b at_ hd he sd se more ih =>
    intro va ra
    unfold KV at ra
    cases ra with
    | @cons _ q _ qs h t =>
      obtain ⟨k, v⟩ := q
      obtain ⟨h1, h2⟩ := h
      have h1' : p.1 = k := h1
      have rr := rb.val p.1
      rw [at_, h1'] at rr
      obtain ⟨z, hz, rz⟩ := RelO.some_of rr
      obtain ⟨as, r1⟩ := Dp.reads I d p.2 v hd h2
      obtain ⟨bs, r2⟩ := Dp.reads I e y z he rz
      exact .hit hz (PySem.W.keq_at r1 r2 sd se hu) (ih t)
def rEqDX (K : PySem.W.Frag) : R2 := fun x y H Q => ∃ a b ks ls r, x = .ref a ∧ y = .ref b ∧ H a = some (.dK ks) ∧ H b = some (.dK ls) ∧ (ks.length = ls.length → HitsV K H ls ks r) ∧ Q (.bl (ks.length == ls.length && r)) H
theorem op_eqDX (hu : X.A.units + 66 < cLine) : OpR X (compareOp .Eq) (rEqDX X.K) := by
  intro pins s σ H x y v u Q I rx ry h
  obtain ⟨a, b, ks, ls, r, rfl, rfl, ea, eb, hits, q⟩ := h
  obtain rfl : v = Value.ref a := rx
  obtain rfl : u = Value.ref b := ry
  obtain ⟨_, ya, va, ra, da⟩ := dk_of I.hok ea
  obtain ⟨_, yb, vb, rb, db⟩ := dk_of I.hok eb
  have l1 := ra.length
  have l2 := rb.length
  have u1 : X.A.in1.units + 64 < cLine := by
    have e : X.A.in1.units ≤ X.A.units + 1 := by
      show X.A.units + 1 ≤ _
      exact Nat.le_refl _
    omega
  refine PySem.W.keq_eq (knd := mixKind X.prog X.w) (r := r) ya yb da db (by omega) (fun e => (hits (by omega)).raw I u1 rb ra) (fin_bl I q ?_)
  rw [l1, l2]
/-! ### a star before a dict -/
def tStarD (te : TE) (t : TA) : TA := fun σ H Q => te σ H fun x H1 => ∃ p kvs, x = V.ref p ∧ H1 p = some (.dK kvs) ∧ t σ H1 fun ys H2 => Q ((kvs.map fun kv => kV kv.1) ++ ys) H2
theorem star_dict {pins : List (Addr × Obj)} {σ : L2.St} {H : Hp} {s : Shared} (hc : X.calm = true) {a : Addr} {kvs : List (Key × V)} {E : Value → Shared → Prop} {Q : List Value → Shared → Prop} (I : Inv X pins σ H s) (h : H a = some (.dK kvs)) (hQ : ∀ us s', Inv X pins σ H s' → Vals (kvs.map fun kv => kV kv.1) us → Q us s') :
    PySem.W.StarOf (model X.prog X.w) X.A E (.ref a) Q s := by
  obtain ⟨z, lo, vs, rel, dd⟩ := dk_of I.hok h
  obtain ⟨ep, hat⟩ := dd.dictAt
  have hT : s.TypeIs (.ref a) "dict" := dd.typeIs
  have z2 : vs.length ≤ sizeLine := by rw [← rel.length]; exact z
  have ek : (kvs.map fun kv => kV kv.1) = vs.map fun p => kV p.1 := by
    have e := congrArg (List.map kV) rel.keys
    rw [List.map_map, List.map_map] at e
    exact e
  have g : wpAny (model X.prog X.w) X.A (collect (.ref a)) Q E s := by
    refine PySem.W.kdu_collect (PySem.W.kdl_dict (knd := mixKind X.prog X.w) (kvs := vs) (ep := ep) lo) (I.ok.hd hc) hat z2 fun h' tk acc hk hacc => ?_
    have hv : Vals (vs.map fun p => kV p.1) acc.toList := keys_at (by rw [Array.length_toList]; exact hacc.1) fun j v e => hacc.2 j v (by rw [← Array.getElem?_toList]; exact e)
    exact hQ _ _ (I.kept (t' := tk) hk) (by rw [ek]; exact hv)
  unfold PySem.W.StarOf notIterableAtAll
  exact wpAny_bind (wpAny_specialOf hT PySem.F.slot_dict_iter.lookup (wpAny_pure ⟨rfl, g⟩))
theorem pa_starD {e : Expr} {es : List Expr} {te : TE} {t : TA} {p : Pos} (hc : X.calm = true) (he : PE X e te) (hr : PA X es t) (hs : starEach (.Starred e p :: es) X.env = (true, eval e X.env) :: starEach es X.env := by rfl) : PA X (.Starred e p :: es) (tStarD te t) := by
  refine ⟨fun pos pins s σ H Q I h => ?_⟩
  refine PySem.W.items_star (thn (he.run pins s σ H _ I h) fun v s1 ⟨y, H1, I1, ry, a, kvs, ey, hx, q⟩ => ?_) hs
  subst ey
  obtain rfl : v = Value.ref a := ry
  refine star_dict hc I1 hx fun us s2 I2 rv => ?_
  exact thn (hr.run pos pins s2 σ H1 _ I2 q) fun ws s3 ⟨vs, H3, I3, r3, q3⟩ => ⟨_, H3, I3, rv.append r3, q3⟩
end
end Gx

set_option maxRecDepth 100000
set_option maxHeartbeats 4000000
namespace Gx
open PySem PySem.Spec PyProof.Rows L2
/-! ### classes of the top: methods, properties, making -/
theorem fn_in {K : PySem.W.Frag} {f : Addr} {oc : Value} {od : Option Addr} {fd : FuncData} {sl : Array (Option Value)} (l : K.lookup f = some ⟨oc, od, .func fd, sl⟩) : PySem.W.fnIn K f = true := by
  unfold PySem.W.fnIn
  rw [l]
/-- the class at C has the def st as its property m -/
def PropD (K : PySem.W.Frag) (C : Addr) (m qual : Str) (st : Stmt) : Prop := ∃ (p f : Addr) (fd : FuncData), PropOf K C m p f ∧ Fun K m qual st f fd ∧ Binds K fd ["self"] []
/-- .. as its method m -/
def DefM (K : PySem.W.Frag) (C : Addr) (m qual : Str) (st : Stmt) (ps : List Str) : Prop := ∃ (f : Addr) (fd : FuncData), Fun K m qual st f fd ∧ Meth K C m f ∧ Binds K fd ps [] ∧ PySem.W.fnIn K f = true
/-- a property that keeps the promise sp -/
def CalP (P : Program) (w : World) (K : PySem.W.Frag) (mg : Str → Option Value) (base : Heap) (C : Addr) (m : Str) (k : Nat) (sp : Sp) : Prop :=
  ∃ (p f : Addr) (fd : FuncData), PropOf K C m p f ∧ FnOk P w K mg base CX0 k f fd ["self"] sp ∧ Binds K fd ["self"] []
/-- C(..) by its __init__'s promise -/
def CalI (P : Program) (w : World) (K : PySem.W.Frag) (mg : Str → Option Value) (base : Heap) (C : Addr) (k : Nat) (ps : List Str) (sp : Sp) : Prop :=
  ∃ (f : Addr) (fd : FuncData), Mk K C f ∧ FnOk P w K mg base CX0 k f fd ps sp ∧ Binds K fd ps []
section
variable {P : Program} {w : World} {K : PySem.W.Frag} {mg : Str → Option Value} {base : Heap} {C : Addr} {m qual : Str} {st : Stmt} {k : Nat} {ps : List Str} {sp : Sp}
theorem DefM.cal (d : DefM K C m qual st ps) (h : ∀ f fd, Fun K m qual st f fd → FnOk P w K mg base CX0 k f fd ps sp) : CalM P w K mg base C m k ps sp := by
  obtain ⟨f, fd, F, me, b, fi⟩ := d
  exact ⟨f, fd, h f fd F, me, b, fi⟩
theorem PropD.cal (d : PropD K C m qual st) (h : ∀ f fd, Fun K m qual st f fd → FnOk P w K mg base CX0 k f fd ["self"] sp) : CalP P w K mg base C m k sp := by
  obtain ⟨p, f, fd, pr, F, b⟩ := d
  exact ⟨p, f, fd, pr, h f fd F, b⟩
theorem CalP.mono {j : Nat} (c : CalP P w K mg base C m j sp) (h : j ≤ k) : CalP P w K mg base C m k sp := by
  obtain ⟨p, f, fd, pr, F, b⟩ := c
  exact ⟨p, f, fd, pr, F.mono h, b⟩
theorem CalI.mono {j : Nat} (c : CalI P w K mg base C j ps sp) (h : j ≤ k) : CalI P w K mg base C k ps sp := by
  obtain ⟨f, fd, M, F, b⟩ := c
  exact ⟨f, fd, M, F.mono h, b⟩
end
section
variable {X : Cx} {C : Addr} {m x : Str} {k : Nat} {ps : List Str} {sp : Sp} {ta : TE} {t : TA} {o e : Expr} {es : List Expr} {pos apos p : Pos}
/-- o.m, a property -/
def tPropC (C : Addr) (sp : Sp) (ta : TE) : TE := fun σ H Q => ta σ H fun x H1 => ∃ a dx fs, x = .ref a ∧ H1 a = some (.ins C dx fs) ∧ sp [.ref a] H1 Q E0
theorem pe_propC (he : PE X o ta) (cl : Cls X.K C) (c : CalP X.prog X.w X.K X.mg X.base C m k sp) (hr : Room (k + 1) X.A) (hab : attributeBase o m X.env (eval o X.env) = eval o X.env := by rfl) : PE X (.Attribute o m pos) (tPropC C sp ta) := by
  obtain ⟨p, f, fd, pr, F, b⟩ := c
  have h := pe_prop (pos := pos) (E := E0) he cl pr F hr b .nil pass0 hab
  exact h
/-- o.m(..) -/
def tMethC (C : Addr) (m : Str) (sp : Sp) (ta : TE) (t : TA) : TE := fun σ H Q => ta σ H fun x H1 => ∃ a dx fs, x = .ref a ∧ H1 a = some (.ins C dx fs) ∧ fs.lookup m = none ∧ t σ H1 fun vs H2 => sp (x :: vs) H2 Q E0
theorem tMethC_eq : tMeth C m sp [] E0 ta t = tMethC C m sp ta t := by
  funext σ H Q
  show ta σ H _ = ta σ H _
  congr 1
  funext x H1
  simp only [List.append_nil]
theorem pe_methC {pl : Sem Bool} (he : PE X o ta) (cl : Cls X.K C) (c : CalM X.prog X.w X.K X.mg X.base C m k ps sp) (hr : Room k X.A) (ha : PA X (e :: es) t)
    (hst : starEach (e :: es) X.env = (false, eval e X.env) :: starEach es X.env := by rfl) (hpl : (backTo pos (starEach es X.env)).any (·.1) = false := by rfl)
    (ht : eval (.Call (.Attribute o m apos) (e :: es) [] pos) X.env = (do
      let ov ← eval o X.env
      standAt apos.atName
      let (f, first) ← holding [ov] (getMethod ov m pl)
      callWith pos f first (backTo pos (starEach (e :: es) X.env)) (backToKw pos (keywordEach [] X.env))) := by rfl) :
    PE X (.Call (.Attribute o m apos) (e :: es) [] pos) (tMethC C m sp ta t) := by
  obtain ⟨f, fd, F, me, b, fi⟩ := c
  rw [← tMethC_eq]
  exact pe_meth (pl := pl) he cl me F hr b .nil pass0 ha hst hpl ht
/-- C(..) -/
def tMakeC (C : Addr) (sp : Sp) (t : TA) : TE := fun σ H Q => t σ H fun vs H1 => ∀ x dx, H1 x = none → H1 dx = none → dx ≠ x →
  sp (.ref x :: vs) (upd (upd H1 dx (.own x)) x (.ins C dx [])) (fun v H2 => v = .non ∧ Q (.ref x) H2) E0
theorem tMakeC_eq : tMake C sp [] E0 t = tMakeC C sp t := by
  funext σ H Q
  show t σ H _ = t σ H _
  congr 1
  funext vs H1
  simp only [List.append_nil]
theorem pe_makeC (c : CalI X.prog X.w X.K X.mg X.base C k ps sp) (hr : Room (k + 1) X.A) (hg : Gl X x) (hm : X.mg x = some (.ref C)) (ha : PA X (e :: es) t)
    (hdb : (x == ("__debug__" : Str)) = false := by decide) (he : starEach (e :: es) X.env = (false, eval e X.env) :: starEach es X.env := by rfl) (hpl : (backTo pos (starEach es X.env)).any (·.1) = false := by rfl) :
    PE X (.Call (.Name x p) (e :: es) [] pos) (tMakeC C sp t) := by
  obtain ⟨f, fd, M, F, b⟩ := c
  rw [← tMakeC_eq]
  exact pe_make M F hr hg hm b .nil pass0 ha hdb he hpl
end
/-! ### dicts walked under their lock -/
theorem same_lock {H : Hp} {d : Addr} {u : HO} {o : Obj} (e : H d = some u) {b : Addr} {ob : HO} (n : b ≠ d) (h : H b = some ob) : upd H d (.frz o u) b = some ob := by
  rw [upd_ne n]
  exact h
theorem same_unlock {H H' : Hp} {d : Addr} {u : HO} {o : Obj} (e : H d = some u) (s : Same (upd H d (.frz o u)) H') : Same H (upd H' d u) := by
  intro b ob h
  by_cases n : b = d
  · subst n
    rw [upd_same]
    exact e.symm.trans h
  · rw [upd_ne n]
    exact s b ob (by rw [upd_ne n]; exact h)
end Gx

set_option maxRecDepth 100000
set_option maxHeartbeats 4000000
namespace Gx
open PySem PySem.Spec PyProof.Rows L2
/-! ### sets of texts: set(list), sorted(set) -/
/-- a member's text -/
def txE (m : Int × Value) : Str :=
  match m.2 with
  | .str z _ => z
  | _ => Str.empty
def TxE (P : Program) (w : World) (m : Int × Value) : Prop := ∃ z tk, m.2 = Value.str z tk ∧ m.1 = (PySem.strKind P w).hash z
/-- at a stands the set of the texts of L, some of which may be there twice; its table can be walked -/
def SetX (P : Program) (w : World) (h : Heap) (a : Addr) (L : List Str) : Prop :=
  ∃ ob ms ep tb, h.get? a = some ob ∧ ob.ExactSet ∧ ob.data = .set ms ep tb ∧ (∀ m ∈ ms.toList, TxE P w m) ∧ (ms.toList.map txE).Nodup ∧ (∀ z, z ∈ L ↔ z ∈ ms.toList.map txE) ∧
    ms.size < scanBound ∧ tb.fits ms.size = true ∧ ms.size ≤ L.length ∧ Ris tb.place.toList ∧ (w.params.followText "set-order" = true ∨ tb.led = true)
section
variable {P : Program} {w : World} {h h' : Heap} {a : Addr} {L : List Str}
theorem SetX.at (R : SetX P w h a L) (k : ∀ o, h.get? a = some o → h'.get? a = some o) : SetX P w h' a L := by
  obtain ⟨ob, ms, ep, tb, here, more⟩ := R
  exact ⟨ob, ms, ep, tb, k ob here, more⟩
theorem SetX.same {L' : List Str} (R : SetX P w h a L) (e : ∀ z, z ∈ L' ↔ z ∈ L) (hl : L.length ≤ L'.length) : SetX P w h a L' := by
  obtain ⟨ob, ms, ep, tb, here, ex, dt, gd, nd, mem, bd, ft, le, more⟩ := R
  exact ⟨ob, ms, ep, tb, here, ex, dt, gd, nd, fun z => (e z).trans (mem z), bd, ft, Nat.le_trans le hl, more⟩
theorem tx_elems {l : List (Int × Value)} (gd : ∀ m ∈ l, TxE P w m) : ElemsOf (PySem.strKind P w) l := by
  intro m hm
  obtain ⟨z, tk, e1, e2⟩ := gd m hm
  refine ⟨⟨z, ?_, e2⟩, ?_⟩
  · rw [e1]
    exact strKind_is P w z tk
  · rw [e1]
    rfl
theorem tx_is {m : Int × Value} (gd : TxE P w m) (z : Str) : (PySem.strKind P w).is z m.2 = true ↔ txE m = z := by
  obtain ⟨y, tk, e1, _⟩ := gd
  have e3 : txE m = y := by unfold txE; rw [e1]
  rw [e3, e1]
  constructor
  · intro q
    obtain ⟨t, q⟩ := Value.isStrOf_shape (show Value.isStrOf z (.str y tk) = true from q)
    cases q
    rfl
  · rintro rfl
    exact strKind_is P w y tk
theorem tx_mem {l : List (Int × Value)} (gd : ∀ m ∈ l, TxE P w m) (z : Str) : z ∈ l.map txE ↔ ∃ m ∈ l, (PySem.strKind P w).is z m.2 = true := by
  rw [List.mem_map]
  exact ⟨fun ⟨m, hm, q⟩ => ⟨m, hm, (tx_is (gd m hm) z).2 q⟩, fun ⟨m, hm, q⟩ => ⟨m, hm, (tx_is (gd m hm) z).1 q⟩⟩
end
section
variable {P : Program} {w : World} {A : Around} {E : Value → Shared → Prop} {s : Shared} {a : Addr} {L : List Str}
/-! ### one text more -/
theorem setX_tail {g : Bool → Sem Unit} (hg : ∀ (b : Bool) (s₁ : Shared) (Q' : Unit → Shared → Prop), Q' () s₁ → wpAny (model P w) A (g b) Q' E s₁)
    {ob : Obj} {ms : Array (Int × Value)} {ep : Nat} {tb : SetTable} (here : s.heap.get? a = some ob) (ex : ob.ExactSet) (dt : ob.data = .set ms ep tb)
    {ms1 : Array (Int × Value)} {tb2 : SetTable} {L' : List Str} (g1 : ∀ m ∈ ms1.toList, TxE P w m) (nd1 : (ms1.toList.map txE).Nodup) (m1 : ∀ z, z ∈ L' ↔ z ∈ ms1.toList.map txE)
    (bd1 : ms1.size < scanBound) (ft2 : tb2.fits ms1.size = true) (le1 : ms1.size ≤ L'.length) (ri : Ris tb2.place.toList) (ld : w.params.followText "set-order" = true ∨ tb2.led = true) {dummy : Bool} {R : Option Bool → Shared → Prop}
    (hR : ∀ h', Heap.SameBut a s.heap h' → SetX P w h' a L' → R (some true) { s with heap := h' }) :
    wpAny (model P w) A (do
        storeSet a ms1 tb2
        if (!dummy && tb2.tooFull) = true then do
            g (relayAll tb2 ms1 (SetTable.grown ms1.size)).2.2
            storeSet a (relayAll tb2 ms1 (SetTable.grown ms1.size)).1 (relayAll tb2 ms1 (SetTable.grown ms1.size)).2.1
            pure (some true)
          else pure (some true)) R E s := by
  refine wpAny_bind (wpAny_storeSet_of here dt ?_ (fits_of_scanBound bd1))
  have at1 := store_at (es' := ms1) (t' := tb2) here dt
  have but1 := Heap.SameBut.update s.heap a (Obj.putSet ms1 tb2)
  split
  · have perm2 := relayAll_perm tb2 ms1 (SetTable.grown ms1.size)
    have ft3 := relayAll_fits tb2 ms1 (SetTable.grown ms1.size)
    have ri3 := relayAll_ris tb2 ms1 (SetTable.grown ms1.size)
    have ld3 := relayAll_led tb2 ms1 (SetTable.grown ms1.size)
    generalize relayAll tb2 ms1 (SetTable.grown ms1.size) = laid at perm2 ft3 ri3 ld3 ⊢
    obtain ⟨ms2, tb3, gave⟩ := laid
    dsimp only at perm2 ft3 ri3 ld3 ⊢
    have sz2 : ms2.size = ms1.size := by rw [← Array.length_toList, perm2.length_eq, Array.length_toList]
    have bd2 : ms2.size < scanBound := sz2 ▸ bd1
    refine wpAny_bind (hg _ _ _ ?_)
    refine wpAny_bind (wpAny_storeSet_of at1 rfl ?_ (fits_of_scanBound bd2))
    have at2 := store_at (es' := ms2) (t' := tb3) at1 rfl
    refine wpAny_pure (hR _ (but1.trans (Heap.SameBut.update _ a _)) ⟨_, ms2, _, tb3, at2, ex, rfl, fun m hm => g1 m (perm2.mem_iff.mp hm), (perm2.map txE).nodup_iff.mpr nd1, fun z => (m1 z).trans (perm2.map txE).mem_iff.symm, bd2, ?_, by rw [sz2]; exact le1, ri3, ?_⟩)
    · exact ft3
    · exact ld.imp id fun z => by rw [ld3]; exact z
  · exact wpAny_pure (hR _ but1 ⟨_, ms1, _, tb2, at1, ex, rfl, g1, nd1, m1, bd1, ft2, le1, ri, ld⟩)
theorem setX_add {z : Str} {tk : Tok} {Q : Bool → Shared → Prop} (R : SetX P w s.heap a L) (room : L.length + 1 < scanBound)
    (hQ : ∀ h' b, Heap.SameBut a s.heap h' → SetX P w h' a (L ++ [z]) → Q b { s with heap := h' }) :
    wpAny (model P w) A (setAddHashed a (.str z tk) ((PySem.strKind P w).hash z)) Q E s := by
  obtain ⟨ob, ms, ep, tb, here, ex, dt, gd, nd, mem, bd, ft, le, ri, ld⟩ := R
  have isz : (PySem.strKind P w).is z (.str z tk) = true := strKind_is P w z tk
  have scz : (Value.str z tk).scannable = true := rfl
  have els : ElemsOf (PySem.strKind P w) ms.toList := tx_elems gd
  unfold setAddHashed setAddHashedIn
  refine wpAny_holding (wpAny_bind (wpAny_setState_of here dt ft ?_))
  dsimp only
  rw [byScan_of scz bd els]
  simp only [↓reduceIte]
  unfold setAddByScan
  refine wpAny_bind ?_
  refine wpAny_bind (wpAny_rule ?_)
  refine wpAny_bind (wpAny_setScan_of isz here dt ft els ?_)
  cases hfi : List.findIdx? (fun m => (PySem.strKind P w).is z m.2) ms.toList with
  | some j =>
    dsimp only
    obtain ⟨hj, pj, _⟩ := List.findIdx?_eq_some_iff_getElem.mp hfi
    have inL : z ∈ L := (mem z).2 ((tx_mem (P := P) (w := w) gd z).2 ⟨ms.toList[j], List.getElem_mem hj, pj⟩)
    refine wpAny_pure (wpAny_pure ?_)
    refine hQ s.heap _ (Heap.SameBut.refl a s.heap) ⟨ob, ms, ep, tb, here, ex, dt, gd, nd, fun y => ?_, bd, ft, by rw [List.length_append]; omega, ri, ld⟩
    rw [← mem y, List.mem_append, List.mem_singleton]
    exact ⟨fun q => q.elim id fun e => e ▸ inL, .inl⟩
  | none =>
    dsimp only
    have notIn : z ∉ ms.toList.map txE := by
      intro q
      obtain ⟨m, hm, q⟩ := (tx_mem (P := P) (w := w) gd z).1 q
      have c := List.findIdx?_eq_none_iff.mp hfi m hm
      rw [q] at c
      cases c
    have way : ∀ (b : Bool) {s₁ : Shared} {Q' : Unit → Shared → Prop}, Q' () s₁ → wpAny (model P w) A (match b with | true => rule "set.scan.the-table-gave-way" | false => pure ()) Q' E s₁ := by
      intro b s₁ Q' q
      cases b
      · exact wpAny_pure q
      · exact wpAny_rule q
    have perm1 := layNew_perm tb ms ((PySem.strKind P w).hash z) (.str z tk)
    have ft1 := layNew_fits tb ms ((PySem.strKind P w).hash z) (.str z tk)
    have ri1 := layNew_ris tb ms ((PySem.strKind P w).hash z) (.str z tk) ri
    have ld1 := layNew_led tb ms ((PySem.strKind P w).hash z) (.str z tk)
    generalize layNew tb ms ((PySem.strKind P w).hash z) (.str z tk) = laid at perm1 ft1 ri1 ld1 ⊢
    obtain ⟨ms1, tb1, dummy, gave⟩ := laid
    dsimp only at perm1 ft1 ri1 ld1 ⊢
    rw [Array.toList_push] at perm1
    have permC : ms1.toList.Perm (((PySem.strKind P w).hash z, Value.str z tk) :: ms.toList) := perm1.trans (List.perm_append_singleton _ _)
    have permK : (ms1.toList.map txE).Perm (z :: ms.toList.map txE) := permC.map txE
    have g1 : ∀ m ∈ ms1.toList, TxE P w m := by
      intro m hm
      rcases List.mem_cons.mp (permC.mem_iff.mp hm) with q | q
      · rw [q]
        exact ⟨z, tk, rfl, rfl⟩
      · exact gd m q
    have nd1 : (ms1.toList.map txE).Nodup := permK.nodup_iff.mpr (List.nodup_cons.mpr ⟨notIn, nd⟩)
    have m1 : ∀ y, y ∈ L ++ [z] ↔ y ∈ ms1.toList.map txE := by
      intro y
      rw [List.mem_append, List.mem_singleton, mem y, permK.mem_iff, List.mem_cons]
      exact Or.comm
    have sz1 : ms1.size = ms.size + 1 := by rw [← Array.length_toList, permC.length_eq, List.length_cons, Array.length_toList]
    have bd1 : ms1.size < scanBound := by omega
    have le1 : ms1.size ≤ (L ++ [z]).length := by rw [List.length_append, List.length_singleton]; omega
    have led1 : w.params.followText "set-order" = true ∨ tb1.led = true := ld.imp id fun q => by rw [ld1]; exact q
    refine wpAny_bind (way _ ?_)
    split
    · refine wpAny_bind ?_
      rw [hashByValue_scannable 8 scz]
      refine wpAny_pure ?_
      refine setX_tail ?_ here ex dt g1 nd1 m1 bd1 ?_ le1 ?_ ?_ ?_
      · intro b s₁ Q' q
        cases b <;> first | exact wpAny_pure q | exact wpAny_rule q
      · first | (split <;> first | exact ft1 | exact SetTable.fits_plain_off ft1) | exact ft1
      · first | (split <;> exact ri1) | exact ri1
      · first | (split <;> exact led1) | exact led1
      · intro h' sb r
        dsimp only
        exact wpAny_pure (hQ h' _ sb r)
    · refine wpAny_bind (wpAny_pure ?_)
      simp only [↓reduceIte]
      refine setX_tail ?_ here ex dt g1 nd1 m1 bd1 ft1 le1 ri1 led1 ?_
      · intro b s₁ Q' q
        cases b <;> first | exact wpAny_pure q | exact wpAny_rule q
      · intro h' sb r
        dsimp only
        exact wpAny_pure (hQ h' _ sb r)
end
/-- the texts of a list of values, by place -/
theorem texts_at : ∀ {us : List Value} {xs : List Str}, StrsAre us xs → ∀ (i : Nat) (v : Value), us[i]? = some v → ∃ x t, xs[i]? = some x ∧ v = .str x t
  | _, _, .nil, i, v, h => by cases h
  | _, _, .cons n t r, 0, v, h => by
    cases h
    exact ⟨n, t, rfl, rfl⟩
  | _, _, .cons n t r, i + 1, v, h => texts_at r i v h
section
variable {prog : Program} {w : World} {A : Around} {R : Result → Shared → Prop} {I : Addr} {fp wr : List Addr} {G : Array GenState → Array GenState → Prop} {n : Nat} {P : Nat → Value → Prop} {St : Nat → Shared → Prop}
/-- all texts of an iterator put into the set at S -/
theorem setX_loop (W : WalksS prog w A.in1 I fp wr G n P St) (S : Addr) (off : S ∉ fp) (xs : List Str) (len : xs.length = n) (few : n + 1 < scanBound)
    (val : ∀ i v, P i v → ∃ x t, xs[i]? = some x ∧ v = .str x t) : ∀ (k i : Nat) (s : Shared), n - i = k → i ≤ n → St i s → SetX prog w s.heap S (xs.take i) →
      (∀ s', Moved (S :: wr) G s s' → SetX prog w s'.heap S xs → R (.ok (.ret .none)) s') →
      codeAny (model prog w) A (.builtin "set.update.loop" ⟨[.ref S, .ref I], []⟩) R s := by
  have offW : S ∉ wr := fun z => off (W.sub _ z)
  have sub : ∀ b ∈ wr, b ∈ S :: wr := fun b hb => List.mem_cons_of_mem _ hb
  intro k
  induction k with
  | zero =>
    intro i s hk hi st hS hR
    obtain rfl : i = n := by omega
    rw [← len, List.take_length] at hS
    refine codeAny_builtin PyProof.Rows.F.entry_set_update_loop ?_
    rw [Around.under_plainId PyProof.Rows.F.plain_set_update_loop _]
    show wpAny _ A.in1 (pyNext (.ref I) >>= _) _ _ s
    refine wpAny_bind (W.done s _ _ st fun s' mv => ?_)
    show wpAny _ A.in1 (ret Value.none) _ _ s'
    exact wpAny_pure (hR s' (mv.mono sub) (hS.at fun o e => mv.heap S _ offW e))
  | succ k ih =>
    intro i s hk hi st hS hR
    have lt : i < n := by omega
    refine codeAny_builtin PyProof.Rows.F.entry_set_update_loop ?_
    rw [Around.under_plainId PyProof.Rows.F.plain_set_update_loop _]
    show wpAny _ A.in1 (pyNext (.ref I) >>= _) _ _ s
    refine wpAny_bind (W.item i s _ _ lt st fun v s' hP st' mv => ?_)
    obtain ⟨x, t, hx, rfl⟩ := val i v hP
    have hS' : SetX prog w s'.heap S (xs.take i) := hS.at fun o e => mv.heap S _ offW e
    show wpAny _ A.in1 (holding [Value.str x t] (setAdd S (.str x t)) >>= _) _ _ s'
    refine wpAny_bind (wpAny_holding ?_)
    unfold setAdd
    refine wpAny_holding ?_
    refine wpAny_bind ((PySem.strKind prog w).pyHash (k := x) (strKind_is _ _ _ _) ?_)
    refine setX_add (s := { s' with toks := s'.toks + 1 }) hS' (by rw [List.length_take]; omega) fun h' b sb hS2 => ?_
    have hS3 : SetX prog w h' S (xs.take (i + 1)) := by
      have e : xs.take (i + 1) = xs.take i ++ [x] := by rw [List.take_add_one, hx]; rfl
      rw [e]
      exact hS2
    refine wpAny_pure ⟨plainId_quiet PyProof.Rows.F.plain_set_update_loop _, ih (i + 1) _ (by omega) lt (W.frame _ s' _ _ st' (Nat.le_succ _) fun b hb o e => ?_) hS3 fun s'' mv2 hS4 => ?_⟩
    · rw [sb.2 b (fun z : b = S => off (z ▸ hb))]
      exact e
    · refine hR s'' (Moved.trans W.gtrans ((mv.mono sub).then_heap (Nat.le_succ _) fun b o hb e => ?_) mv2) hS4
      rw [sb.2 b (fun z : b = S => hb (by rw [z]; exact List.mem_cons_self))]
      exact e
end
section
variable {P : Program} {w : World} {A : Around} {E : Value → Shared → Prop} {s : Shared}
theorem code_setX {x : Value} {Q₁ : Value → Shared → Prop}
    (h : Q₁ (.ref s.heap.objs.size) { s with heap := s.heap.push { cls := .type "set", dict := none, data := .set #[] 0 (.fresh 0 0 (!w.params.followText "set-order")) } }) :
    codeAny (model P w) A (.call (.builtin "set.__new__") ⟨[.type "set", x], []⟩) (wants Q₁ E) s := by
  refine codeAny_of_tree ?_
  show wpAny _ A.in1 (do checkBuiltinCall "set.__new__" ⟨[.type "set", x], []⟩; again (.builtin "set.__new__" ⟨[.type "set", x], []⟩)) _ _ s
  refine wpAny_bind (wpAny_of_eq (PySem.F.newCall_set_1 x) (wpAny_pure ⟨plainId_quiet F.plain_set_new _, codeAny_builtin F.entry_set_new ?_⟩))
  rw [Around.under_plainId F.plain_set_new _]
  unfold Builtin.«set.__new__» Builtin.Frozenset.newClass
  have hsub := sub_set_self
  obtain ⟨hp, g, d, tk, os⟩ := s
  dsimp only
  wp_walk
  refine wpAny_askSetting (wpAny_pure ?_)
  dsimp only
  simp only [newObj]
  exact wpAny_bind (wpAny_alloc (wpAny_pure (wpAny_pure h)))
theorem setX_fresh {h : Heap} : SetX P w (h.push { cls := .type "set", dict := none, data := .set #[] 0 (.fresh 0 0 (!w.params.followText "set-order")) }) h.objs.size [] := by
  refine ⟨_, #[], 0, _, Heap.get?_push_size _ rfl, ⟨rfl, rfl, rfl⟩, rfl, (fun m hm => by simp at hm), (by simp), (fun z => by simp), (by decide), (by rfl), (Nat.zero_le _), List.Pairwise.nil, ?_⟩
  show _ ∨ (!w.params.followText "set-order") = true
  cases w.params.followText "set-order"
  · exact .inr rfl
  · exact .inl rfl
set_option maxHeartbeats 6400000 in
/-- set(list of texts) -/
theorem call_setX {l : Addr} {items : Array Value} {xs : List Str} {Q : Value → Shared → Prop} (hh : A.handled = none) (hl : s.heap.IsList l items) (hi : StrsAre items.toList xs) (few : xs.length + 1 < scanBound)
    (h : ∀ (h' : Heap) (tk : Nat), SetX P w h' s.heap.objs.size xs → (∀ b o, b < s.heap.objs.size → s.heap.get? b = some o → h'.get? b = some o) → Q (.ref s.heap.objs.size) { s with heap := h', toks := tk }) :
    wpAny (model P w) A (call (.type "set") [.ref l]) Q E s := by
  obtain ⟨c, tl, hmro⟩ := PySem.F.called_set.mro
  have hmade := PySem.F.called_set.made
  have hsub := PySem.F.called_set.sub
  refine wpAny_call (codeAny_of_tree ?_)
  show wpAny _ _ (callAny (.type "set") _) _ _ _
  refine wpAny_pure ⟨Code.quiet_builtin _ (by decide +kernel), codeAny_builtin PySem.F.entry_type_call ?_⟩
  rw [Around.under_plain (weight_type_call_type "set" [.ref l] []) rfl]
  have h1 := PySem.F.called_set.notType
  have h2 := PySem.F.called_set.canCreate
  have hct := PySem.F.typeCall_set_1 (.ref l)
  repeat (any_goals (first | assumption | wp_step))
  have R0 : SetX P w (s.heap.push { cls := .type "set", dict := none, data := .set #[] 0 (.fresh 0 0 (!w.params.followText "set-order")) }) s.heap.objs.size [] := setX_fresh
  refine codeAny_mono (code_setX (x := .ref l) (E := E) (Q₁ := fun obj s₁ => obj = .ref s.heap.objs.size ∧ s₁ = { s with heap := s.heap.push { cls := .type "set", dict := none, data := .set #[] 0 (.fresh 0 0 (!w.params.followText "set-order")) } }) ⟨rfl, rfl⟩) fun r s₁ hr => ?_
  have hS : (s.heap.push { cls := .type "set", dict := none, data := .set #[] 0 (.fresh 0 0 (!w.params.followText "set-order")) }).get? s.heap.objs.size = some { cls := .type "set", dict := none, data := .set #[] 0 (.fresh 0 0 (!w.params.followText "set-order")) } := Heap.get?_push_size _ rfl
  cases r with
  | error e => exact hr
  | ok fl =>
    cases fl with
    | ret obj =>
      obtain ⟨rfl, rfl⟩ := hr
      have hT : Shared.TypeIs { s with heap := s.heap.push ({ cls := .type "set", dict := none, data := .set #[] 0 (.fresh 0 0 (!w.params.followText "set-order")) } : Obj) } (.ref s.heap.objs.size) "set" := ⟨_, hS, rfl⟩
      have hli := PySem.F.called_set.init.lookup
      have hbi := PySem.F.called_set.init.bind (.ref s.heap.objs.size)
      repeat (any_goals (first | assumption | wp_step))
      refine codeAny_mono (codeAny_call_builtin (R := wants (fun r s₂ => r = .none ∧ ∃ h' tk, s₂ = { s with heap := h', toks := tk } ∧ SetX P w h' s.heap.objs.size xs ∧
          (∀ b o, b < s.heap.objs.size → s.heap.get? b = some o → h'.get? b = some o)) E) PySem.F.called_set.init.plain PySem.F.entry_set_init (check_set_init_1 hT ?_)) fun r₂ s₂ hr₂ => ?_
      · obtain ⟨ol, hol, hcl, nl, hdl⟩ := hl
        obtain ⟨ocls, odict, odata, oslots⟩ := ol
        simp only at hcl hdl
        subst hcl; subst hdl
        have hol' : (s.heap.push ({ cls := .type "set", dict := none, data := .set #[] 0 (.fresh 0 0 (!w.params.followText "set-order")) } : Obj)).get? l = some { cls := .type "list", dict := odict, data := .seq items nl, slots := oslots } := Heap.get?_push_of_some _ hol
        have hsls := PySem.F.sub_list_set
        have hslf := PySem.F.sub_list_frozenset
        have hne : (Value.type "list" == Value.type "dict") = false := by decide
        have hl1 : (s.heap.push ({ cls := .type "set", dict := none, data := .set #[] 0 (.fresh 0 0 (!w.params.followText "set-order")) } : Obj)).IsList l items := ⟨_, hol', rfl, nl, rfl⟩
        unfold Builtin.«set.__init__» noKeywords Builtin.Frozenset.updateFrom
        generalize hPI : pyIter = PI
        wp_walk
        subst hPI
        refine wpAny_pyIter_list hl1 ?_
        refine wpAny_bind (wpAny_runValue ?_)
        have hlS : l < s.heap.objs.size := Heap.lt_size hol
        have hh3 : A.in1.in1.in1.handled = none := by simp [hh]
        have szp : (s.heap.push ({ cls := .type "set", dict := none, data := .set #[] 0 (.fresh 0 0 (!w.params.followText "set-order")) } : Obj)).objs.size = s.heap.objs.size + 1 := Heap.size_push _ _
        have hneI : l ≠ (s.heap.push ({ cls := .type "set", dict := none, data := .set #[] 0 (.fresh 0 0 (!w.params.followText "set-order")) } : Obj)).objs.size := by rw [szp]; exact Nat.ne_of_lt (Nat.lt_succ_of_lt hlS)
        have hSf : s.heap.objs.size ∉ [(s.heap.push ({ cls := .type "set", dict := none, data := .set #[] 0 (.fresh 0 0 (!w.params.followText "set-order")) } : Obj)).objs.size, l] := by
          rw [szp]
          simp only [List.mem_cons, List.not_mem_nil, or_false, not_or]
          exact ⟨Nat.ne_of_lt (Nat.lt_succ_self _), Nat.ne_of_gt hlS⟩
        have hsz : xs.length = items.size := by rw [← StrsAre.len_eq hi, Array.length_toList]
        refine setX_loop ((Walks.list hh3 _ l hneI items).toS) s.heap.objs.size hSf xs hsz (by rw [← hsz]; exact few) (fun i v hv => texts_at hi i v (by rw [Array.getElem?_toList]; exact hv))
          (items.size - 0) 0 _ (by omega) (Nat.zero_le _) ⟨⟨_, Heap.get?_push_size _ rfl, rfl, rfl⟩, (hl1.push _)⟩ ?hS0 ?hR
        case hS0 => exact R0.at fun o e => Heap.get?_push_of_some _ e
        case hR =>
          intro s' hm hS'
          obtain ⟨h', g', d', tk', os'⟩ := s'
          obtain rfl : g' = s.gens := hm.gens
          obtain rfl : d' = s.drawn := hm.drawn
          obtain rfl : os' = s.os := hm.os
          show wpAny _ _ _ _ _ _
          refine wpAny_pure ?_
          show wpAny _ _ (ret Value.none) _ _ _
          refine wpAny_pure ⟨rfl, h', tk', rfl, hS', fun b o hb e => hm.heap b o ?_ (Heap.get?_push_of_some _ (Heap.get?_push_of_some _ e))⟩
          rw [szp]
          simp only [List.mem_cons, List.not_mem_nil, or_false, not_or]
          exact ⟨Nat.ne_of_lt hb, Nat.ne_of_lt (Nat.lt_succ_of_lt hb)⟩
      · cases r₂ with
        | error e => exact hr₂
        | ok fl₂ =>
          cases fl₂ with
          | ret r =>
            obtain ⟨rfl, h', tk, rfl, hS', hk'⟩ := hr₂
            repeat (any_goals (first | assumption | wp_step))
            exact h _ _ hS' hk'
          | _ => exact hr₂.elim
    | _ => exact hr.elim
theorem strs_of : ∀ (l : List Value), (∀ v ∈ l, ∃ z tk, v = Value.str z tk) → ∃ xs, StrsAre l xs ∧ xs = l.map fun v => txE (0, v)
  | [], _ => ⟨[], .nil, rfl⟩
  | v :: l, h => by
    obtain ⟨z, tk, rfl⟩ := h v List.mem_cons_self
    obtain ⟨xs, h1, rfl⟩ := strs_of l fun u hu => h u (List.mem_cons_of_mem _ hu)
    exact ⟨_, .cons z tk h1, rfl⟩
/-- sorted(set of texts) -/
theorem sorted_setX {a : Addr} {L : List Str} {Q : Value → Shared → Prop} (R : SetX P w s.heap a L) (hh : A.handled = none)
    (hQ : ∀ s' p (out : Array Value) (c : Nat) (ys : List Str), (∀ b o, s.heap.get? b = some o → s'.heap.get? b = some o) → s'.gens = s.gens → s'.os = s.os → s.heap.objs.size ≤ p →
      s'.heap.get? p = some (seqObj "list" out c) → StrsAre out.toList ys → sortedS ys = true → ys.Nodup → (∀ z, z ∈ ys ↔ z ∈ L) → Q (.ref p) s') :
    wpAny (model P w) A (call (.builtin "sorted") [.ref a]) Q E s := by
  obtain ⟨ob, ms, ep, tb, here, ex, dt, gd, nd, mem, bd, ft, le, ri, ld⟩ := R
  refine Calls.call_function_entry kind_sorted plain_sorted entry_sorted (args_sorted1 _) ?_
  unfold Builtin.«sorted»
  refine wpAny_bind (m := checkCount "sorted" 1 1 _) (wpAny_pure ?_)
  refine wpAny_bind (collect_set (A := A.in1) hh ⟨ob, here, ex.1, dt⟩ ft bd ri ld fun s1 vs k1 hz g1 o1 pm => ?_)
  have lenV : vs.length = ms.size := by rw [pm.length_eq, List.length_map, Array.length_toList]
  obtain ⟨xs, hS, exs⟩ := strs_of vs fun v hv => by
    obtain ⟨m, hm, q⟩ := List.mem_map.mp (pm.mem_iff.mp hv)
    obtain ⟨z, tk, e1, _⟩ := gd m hm
    exact ⟨z, tk, by rw [← q]; exact e1⟩
  have permX : xs.Perm (ms.toList.map txE) := by
    have q := pm.map fun v => txE (0, v)
    rw [List.map_map] at q
    rw [exs]
    exact q
  have lineV : vs.length ≤ sizeLine := by rw [lenV]; exact fits_of_scanBound bd
  refine wpAny_bind (wpAny_newList ?_ lineV)
  have hoL : (s1.heap.push (seqObj "list" vs.toArray 0)).get? s1.heap.objs.size = some (seqObj "list" vs.toArray 0) := Heap.get?_push_size _ rfl
  refine wpAny_bind (wpAny_holding (wpAny_call_entry slot_list_sort ⟨_, hoL, rfl⟩ entry_list_sort
    (list_sort_treeKAny strKind_oneLt (s := { s1 with heap := s1.heap.push (seqObj "list" vs.toArray 0) }) hoL hS.keysOf (fun v₁ v₂ rest e => keyKind_strs (by rw [← e]; exact hS)) lineV fun st' hp hs => ⟨_, rfl, ?_⟩) (args_list_sort _)))
  obtain ⟨ys, y1, y2, y3⟩ := sorted_out_str hS hp hs
  obtain ⟨c, hc⟩ := sortedHeap_at (vs := vs) (out := (arrOf st').map (·.2)) hoL
  have permY : ys.Perm (ms.toList.map txE) := y2.trans permX
  refine wpAny_pure ⟨_, rfl, hQ _ s1.heap.objs.size ((arrOf st').map (·.2)) c ys (fun b u e => ?_) g1 o1 hz hc y1 y3 (permY.nodup_iff.mpr nd) fun z => by rw [permY.mem_iff, ← mem z]⟩
  have q := k1 b u e
  have lt := Heap.lt_size q
  show (sortedHeap (s1.heap.push (seqObj "list" vs.toArray 0)) s1.heap.objs.size vs ((arrOf st').map (·.2))).get? b = some u
  rw [sortedHeap_old (Nat.ne_of_lt lt) (by rw [size_push']; exact Nat.lt_succ_of_lt lt)]
  exact Heap.get?_push_of_some _ q
end
/-! ### over the hand layer -/
/-- the set of the texts of L at a -/
def SetO' (P : Program) (w : World) (a : Addr) (L : List Str) : HO := .ext fun h => SetX P w h a L
section
variable {X : Cx}
def rSetX (K : PySem.W.Frag) (P : Program) (w : World) : List V → Hp → VK → Prop := fun vs H Q => ∃ (l : Addr) (xs : List Str), vs = [V.ref l] ∧ SqL K H l (xs.map V.str) ∧ xs.length ≤ 1000 ∧ ∀ p, H p = none → Q (.ref p) (upd H p (SetO' P w p xs))
theorem cr_setX (hc : X.calm = true) : CallR X (.type "set") (rSetX X.K X.prog X.w) := by
  intro pins s σ H vs us Q I r h
  obtain ⟨l, xs, rfl, hq, few, q⟩ := h
  rw [Vals.ref1 r]
  obtain ⟨its, rv, pl, hz⟩ := I.list hq
  refine call_setX (I.ok.hd hc) pl.isList (by simpa using rv.strs) (Nat.lt_of_le_of_lt (Nat.succ_le_succ few) (by decide)) fun h' tk hS hk => ?_
  have kp : ∀ b o, s.heap.get? b = some o → h'.get? b = some o := fun b o e => hk b o (Heap.lt_size e) e
  obtain ⟨ob, ms, ep, tb, here, more⟩ := id hS
  exact ⟨.ref s.heap.objs.size, _, I.laid (t' := tk) kp (Nat.le_refl _) (show ObjOk X.prog X.w _ h' _ (SetO' X.prog X.w s.heap.objs.size xs) from ⟨hS, ⟨ob, here⟩, fun h1 h2 p k => SetX.at p k⟩), rfl, q _ (I.hok.fresh (Nat.le_refl _))⟩
def rSortedX (P : Program) (w : World) : List V → Hp → VK → Prop := fun vs H Q => ∃ (a : Addr) (L : List Str), vs = [V.ref a] ∧ H a = some (SetO' P w a L) ∧ L.length ≤ 1000 ∧
  ∀ (ys : List Str) (p : Addr), sortedS ys = true → ys.Nodup → (∀ z, z ∈ ys ↔ z ∈ L) → H p = none → Q (.ref p) (upd H p (.lst (ys.map V.str)))
theorem vals_texts : ∀ {us : List Value} {xs : List Str}, StrsAre us xs → Vals (xs.map V.str) us
  | _, _, .nil => .nil
  | _, _, .cons n t r => .cons ⟨t, rfl⟩ (vals_texts r)
theorem cr_sortedX (hc : X.calm = true) : CallR X (.builtin "sorted") (rSortedX X.prog X.w) := by
  intro pins s σ H vs us Q I r h
  obtain ⟨a, L, rfl, ha, few, q⟩ := h
  rw [Vals.ref1 r]
  have hX : SetX X.prog X.w s.heap a L := (I.hok a _ ha).1
  refine sorted_setX hX (I.ok.hd hc) fun s' p out c ys k g o hp hg hi hs nd hm => ?_
  have lt : ys.length ≤ L.length := List.Nodup.length_le_of_subset nd fun z hz => (hm z).1 hz
  have hlen : (ys.map V.str).length ≤ sizeLine := by rw [List.length_map]; exact Nat.le_trans (Nat.le_trans lt few) (by decide)
  have hn : H p = none := I.hok.fresh hp
  have J : Inv X pins σ (upd H p (.lst (ys.map V.str))) { s with heap := s'.heap, gens := s'.gens, drawn := s'.drawn, toks := s'.toks } :=
    I.call (ch := []) (Un.laid k hp hn) (I.hok.laid k hp ⟨hlen, out.toList, c, vals_texts hi, hg⟩) (by rw [g]; exact I.bare) (fun _ z => nomatch z)
  obtain ⟨h', g', d', t', o'⟩ := s'
  obtain rfl : o' = s.os := o
  exact ⟨.ref p, _, J, rfl, q ys p hs nd hm hn⟩
end
end Gx

set_option maxRecDepth 100000
set_option maxHeartbeats 4000000
namespace Gx
open PySem PySem.Spec PyProof.Rows L2
/-! ### rules of my own, over any program -/
section
variable {X : Cx}
/-- repr of a truth -/
theorem call_repr_bl : CallR X (.builtin "repr") (fun xs H Q => ∃ b : Bool, xs = [.bl b] ∧ Q (.str (if b then "True" else "False")) H) := by
  intro pins s σ H xs us Q I r h
  obtain ⟨b, rfl, q⟩ := h
  obtain ⟨u, rfl, rx⟩ := vals1 r
  cases (show u = Value.bool b from rx)
  exact PySem.P.repr_of_bool ⟨.str _, H, I.tok _, ⟨_, rfl⟩, q⟩
/-- the signs of a text, a text each -/
def signV (x : Str) : List V := x.cps.toList.map fun c => V.str ⟨#[c]⟩
theorem vals_signs {x : Str} {acc : Array Value} (h : ItemsOf (SignAt x) acc x.cps.size) : Vals (signV x) acc.toList := by
  have key : ∀ (l : List Nat) (vs : List Value), vs.length = l.length → (∀ (j : Nat) (v : Value), vs[j]? = some v → ∃ (c : Nat) (u : Tok), l[j]? = some c ∧ v = Value.str ⟨#[c]⟩ u) → Vals (l.map fun c => V.str ⟨#[c]⟩) vs := by
    intro l
    induction l with
    | nil =>
      intro vs hl _
      cases vs with
      | nil => exact .nil
      | cons a r => cases hl
    | cons c l ih =>
      intro vs hl hv
      cases vs with
      | nil => cases hl
      | cons v vs =>
        obtain ⟨c', u, e1, e2⟩ := hv 0 v rfl
        have e1' : c = c' := Option.some.inj e1
        subst e1'
        exact .cons ⟨u, e2⟩ (ih vs (Nat.succ.inj hl) fun j w hw => hv (j + 1) w hw)
  refine key x.cps.toList acc.toList (by rw [Array.length_toList, Array.length_toList]; exact h.1) fun j v hv => ?_
  obtain ⟨c, u, hc, e⟩ := h.2 j v (by simpa using hv)
  exact ⟨c, u, by simpa using hc, e⟩
/-- list(text) -/
theorem call_list_text (hc : X.calm = true) : CallR X (.type "list") (fun xs H Q => ∃ x : Str, xs = [.str x] ∧ x.length ≤ sizeLine ∧ ∀ l, H l = none → Q (.ref l) (upd H l (.lst (signV x)))) := by
  intro pins s σ H xs us Q I r h
  obtain ⟨x, rfl, hz, q⟩ := h
  obtain ⟨u, rfl, t, rfl⟩ := vals1 r
  refine PySem.call_list_str (I.ok.hd hc) x t (fun h' tk acc' c' kp e ha => ?_) hz
  have hv := vals_signs ha
  refine ⟨.ref s.heap.objs.size, _, I.laid (t' := tk) kp (Nat.le_refl _) (show ObjOk X.prog X.w _ h' _ (.lst (signV x)) from ⟨?_, acc'.toList, c', hv, by simpa using e⟩), rfl, q _ (I.hok.fresh (Nat.le_refl _))⟩
  rw [hv.length, Array.length_toList]
  have := ha.1
  rw [this]
  exact hz
/-- tuple(text) -/
theorem call_tuple_text (hc : X.calm = true) : CallR X (.type "tuple") (fun xs H Q => ∃ x : Str, xs = [.str x] ∧ x.length ≤ sizeLine ∧ ∀ l, H l = none → Q (.ref l) (upd H l (.tup (signV x)))) := by
  intro pins s σ H xs us Q I r h
  obtain ⟨x, rfl, hz, q⟩ := h
  obtain ⟨u, rfl, t, rfl⟩ := vals1 r
  refine PySem.call_tuple_str (I.ok.hd hc) x t (fun h' tk acc kp ha => ?_) hz
  have hv := vals_signs ha
  have I1 : Inv X pins σ H { s with heap := h', toks := tk } := I.kept (t' := tk) kp
  have hlen : (signV x).length ≤ sizeLine := by
    rw [hv.length, Array.length_toList]
    have := ha.1
    rw [this]
    exact hz
  have I2 : Inv X pins σ (upd H h'.objs.size (.tup (signV x))) { s with heap := h'.push { cls := .type "tuple", data := .seq acc }, toks := tk } :=
    I1.laid (t' := tk) (fun b o e => Heap.get?_push_of_some _ e) (Nat.le_refl _) (show ObjOk X.prog X.w _ _ _ (.tup (signV x)) from ⟨hlen, acc.toList, hv, by simpa using IsTup.new _ _⟩)
  exact ⟨.ref h'.objs.size, _, I2, rfl, q _ (I1.hok.fresh (Nat.le_refl _))⟩
/-- text * k -/
theorem op_mul_text : OpR X (binaryOp .Mult) (fun x y H Q => ∃ (a : Str) (n : Int), x = .str a ∧ y = .int n ∧ MulOk a n ∧ Q (.str (Txt.mul a n)) H) := by
  intro pins s σ H x y v u Q I rx ry h
  obtain ⟨a, n, rfl, rfl, hz, q⟩ := h
  obtain ⟨t, rfl⟩ := rx
  obtain ⟨t', rfl⟩ := ry
  exact SB.mul hz fun t' k => ⟨.str _, H, I.tok _, ⟨_, rfl⟩, q⟩
end
theorem mulOk_small {a : Str} {n : Int} (h1 : 2 ≤ n) (h2 : n ≤ 1000) (ha : a.length ≤ 1000) : MulOk a n := by
  refine ⟨?_, fun _ _ => ?_, fun _ _ => ?_⟩
  · rw [Bool.or_eq_false_iff]
    exact ⟨decide_eq_false (by omega), decide_eq_false (by omega)⟩
  · have : (1000 : Int) ≤ (2 ^ 63 - 1) / n := by
      refine (Int.le_ediv_iff_mul_le (by omega)).mpr ?_
      have : (1000 : Int) * n ≤ 1000 * 1000 := Int.mul_le_mul_of_nonneg_left h2 (by decide)
      omega
    omega
  · unfold Builtin.Str.tooLong
    refine decide_eq_false ?_
    have h3 : a.length * n.toNat ≤ 1000 * 1000 := Nat.mul_le_mul ha (by omega)
    rw [sizeLine_eq]
    omega

/-! ### defs of the top, and what they promise -/
/-- the def st stands at the top under its name -/
def Def (K : PySem.W.Frag) (mg : Str → Option Value) (x qual : Str) (st : Stmt) (ps : List Str) : Prop :=
  ∃ (f : Addr) (fd : FuncData), Fun K x qual st f fd ∧ Binds K fd ps [] ∧ mg x = some (.ref f)
/-- the name x is a def that keeps the promise sp, by at most level k -/
def Cal (P : Program) (w : World) (K : PySem.W.Frag) (mg : Str → Option Value) (base : Heap) (k : Nat) (x : Str) (ps : List Str) (sp : Sp) : Prop :=
  ∃ (f : Addr) (fd : FuncData), FnOk P w K mg base CX0 k f fd ps sp ∧ PySem.W.keepIn K (.ref f) = true ∧ Binds K fd ps [] ∧ mg x = some (.ref f)
section
variable {P : Program} {w : World} {K : PySem.W.Frag} {mg : Str → Option Value} {base : Heap}
theorem Cal.mono {j k : Nat} {x : Str} {ps : List Str} {sp : Sp} (c : Cal P w K mg base j x ps sp) (h : j ≤ k) : Cal P w K mg base k x ps sp := by
  obtain ⟨f, fd, F, kp, b, g⟩ := c
  exact ⟨f, fd, F.mono h, kp, b, g⟩
theorem Cal.imp {k : Nat} {x : Str} {ps : List Str} {sp sp' : Sp} (c : Cal P w K mg base k x ps sp) (h : ∀ vs H Q E, sp' vs H Q E → sp vs H Q E) : Cal P w K mg base k x ps sp' := by
  obtain ⟨f, fd, F, kp, b, g⟩ := c
  exact ⟨f, fd, F.imp h, kp, b, g⟩
theorem Def.cal {x qual : Str} {st : Stmt} {ps : List Str} (d : Def K mg x qual st ps) {k : Nat} {sp : Sp} (h : ∀ f fd, Fun K x qual st f fd → FnOk P w K mg base CX0 k f fd ps sp) : Cal P w K mg base k x ps sp := by
  obtain ⟨f, fd, F, b, g⟩ := d
  exact ⟨f, fd, h f fd F, F.kp, b, g⟩
end
section
variable {X : Cx}
/-- f(..), without the empty list of defaults -/
def tCl (sp : Sp) (t : TA) : TE := fun σ H Q => t σ H fun vs H1 => sp vs H1 Q E0
theorem tCl_eq (sp : Sp) (t : TA) : tCall sp [] E0 t = tCl sp t := by
  funext σ H Q
  show t σ H _ = t σ H _
  congr 1
  funext vs H1
  rw [List.append_nil]
theorem pe_cal {x : Str} {ps : List Str} {sp : Sp} {k : Nat} {e : Expr} {es : List Expr} {t : TA} {p pos : Pos} (c : Cal X.prog X.w X.K X.mg X.base k x ps sp) (hr : Room k X.A) (hg : Gl X x) (h : PA X (e :: es) t)
    (hdb : (x == ("__debug__" : Str)) = false := by decide) (he : starEach (e :: es) X.env = (false, eval e X.env) :: starEach es X.env := by rfl) (hpl : (backTo pos (starEach es X.env)).any (·.1) = false := by rfl) :
    PE X (.Call (.Name x p) (e :: es) [] pos) (tCl sp t) := by
  obtain ⟨f, fd, F, kp, b, g⟩ := c
  rw [← tCl_eq]
  exact pe_call F hr hg g kp b .nil pass0 h hdb he hpl
theorem pe_cal0 {x : Str} {ps : List Str} {sp : Sp} {k : Nat} {p pos : Pos} (c : Cal X.prog X.w X.K X.mg X.base k x ps sp) (hr : Room k X.A) (hg : Gl X x)
    (hdb : (x == ("__debug__" : Str)) = false := by decide) : PE X (.Call (.Name x p) [] [] pos) (tCl sp tNil) := by
  obtain ⟨f, fd, F, kp, b, g⟩ := c
  rw [← tCl_eq]
  exact pe_call0 F hr hg g kp b .nil pass0 hdb
end
/-- a statement, then the rest, with a word between them: what follows is shown once -/
def tCut (t u : TS) : TS := fun D σ H => ∃ Mid : L2.St → Hp → Prop, t { D with nx := Mid } σ H ∧ ∀ σ' H', Mid σ' H' → u D σ' H'
section
variable {X : Cx}
theorem pss_cut {st : Stmt} {rest : List Stmt} {t u : TS} (h1 : PS X st t) (h2 : PSs X rest u) : PSs X (st :: rest) (tCut t u) := by
  refine ⟨fun pins s σ H D I h => ?_⟩
  obtain ⟨Mid, hm, hu⟩ := h
  refine wpAny_execs_cons (thn (h1.run pins s σ H { D with nx := Mid } I hm) fun f s1 q => ?_)
  cases f with
  | next =>
    obtain ⟨σ', H', I', q⟩ := q
    exact h2.run pins s1 σ' H' D I' (hu σ' H' q)
  | ret v => exact q
  | brk => exact q
  | cont => exact q
end
theorem sqL_ne {K : PySem.W.Frag} {H : Hp} {a d : Addr} {o : HO} {xs : List V} (n : a ≠ d) (h : SqL K H a xs) : SqL K (upd H d o) a xs := by
  rcases h with (h | ⟨u, h⟩) | h
  · exact .inl (.inl (by rw [upd_ne n]; exact h))
  · exact .inl (.inr ⟨u, by rw [upd_ne n]; exact h⟩)
  · exact .inr h
theorem sqT_ne {K : PySem.W.Frag} {H : Hp} {a d : Addr} {o : HO} {xs : List V} (n : a ≠ d) (h : SqT K H a xs) : SqT K (upd H d o) a xs := by
  rcases h with (h | ⟨u, h⟩) | h
  · exact .inl (.inl (by rw [upd_ne n]; exact h))
  · exact .inl (.inr ⟨u, by rw [upd_ne n]; exact h⟩)
  · exact .inr h
theorem atI_int {α : Type} {xs : List α} {r : Int} (h0 : 0 ≤ r) (h1 : r < xs.length) : ∃ v, v ∈ xs ∧ atI xs r = some v := by
  obtain ⟨k, rfl⟩ := Int.eq_ofNat_of_zero_le h0
  have hk : k < xs.length := by omega
  exact ⟨xs[k], List.getElem_mem hk, atI_nat (List.getElem?_eq_getElem hk)⟩
theorem signV_len (z : Str) : (signV z).length = z.length := by
  unfold signV
  rw [List.length_map, Array.length_toList]
  rfl
/-- for c in text -/
theorem for_str {x : Str} {g : TG} {tb : TS} {D : Ends} {σ : L2.St} {H : Hp} (Pv : Nat → L2.St → Hp → Prop) (h0 : Pv 0 σ H)
    (hs : ∀ (i c : Nat) (σ : L2.St) (H : Hp), x.cps.toList[i]? = some c → Pv i σ H → g (.str ⟨#[c]⟩) σ H fun σ2 H2 => tb { D with nx := Pv (i + 1), ct := Pv (i + 1), bk := D.nx } σ2 H2) (hd : ∀ σ H, Pv x.cps.size σ H → D.nx σ H) :
    ∃ W : Nat → Nat → L2.St → Hp → Prop, (∃ m, W 0 m σ H) ∧ ∀ i m σ H, W i m σ H →
      ((Its x).stop i H ∧ D.nx σ H) ∨ ((Its x).go i H ∧ ∃ N : L2.St → Hp → Prop, (∀ σ' H', N σ' H' → ∃ m', m' < m ∧ W (i + 1) m' σ' H') ∧ ∀ v H', (Its x).yld i H v H' → g v σ H' fun σ2 H2 => tb { D with nx := N, ct := N, bk := D.nx } σ2 H2) := by
  refine ⟨fun i m σ H => m = x.cps.size - i ∧ i ≤ x.cps.size ∧ Pv i σ H, ⟨x.cps.size, by simp, Nat.zero_le _, h0⟩, ?_⟩
  rintro i m σ H ⟨rfl, hi, p⟩
  by_cases hlt : i < x.cps.size
  · refine .inr ⟨hlt, Pv (i + 1), fun σ' H' p' => ⟨x.cps.size - (i + 1), by omega, rfl, hlt, p'⟩, fun v H' y => ?_⟩
    obtain ⟨e, c, hc, ev⟩ := y
    subst e ev
    exact hs i c σ _ (by simpa using hc) p
  · have e : i = x.cps.size := by omega
    subst e
    exact .inl ⟨Nat.le_refl _, hd σ H p⟩
theorem decI (a b : Int) : decide (V.int a = V.int b) = decide (a = b) := decide_eq_decide.mpr ⟨V.int.inj, fun e => e ▸ rfl⟩
theorem decS (a b : Str) : decide (V.str a = V.str b) = decide (a = b) := decide_eq_decide.mpr ⟨V.str.inj, fun e => e ▸ rfl⟩
theorem app_len (a b : Str) : (a ++ b).length = a.length + b.length := by
  show (a.cps ++ b.cps).size = _
  rw [Array.size_append]
  rfl
/-- texts of one sign each, joined by nothing -/
theorem join_one {e : Str} (he : e.length = 0) : ∀ zs : List Str, (∀ z ∈ zs, z.length = 1) → (Txt.join e zs).length = zs.length := by
  have key : ∀ zs : List Str, (∀ z ∈ zs, z.length = 1) → (Str.join e zs).length = zs.length := by
    intro zs
    induction zs with
    | nil => intro _; rfl
    | cons x r ih =>
      intro h
      cases r with
      | nil => exact h x (List.mem_cons_self ..)
      | cons y r =>
        show (x ++ e ++ Str.join e (y :: r)).length = _
        rw [app_len, app_len, he, ih fun z hz => h z (List.mem_cons_of_mem _ hz), h x (List.mem_cons_self ..), List.length_cons (a := x)]
        omega
  intro zs h
  rw [TL.join_eq]
  exact key zs h
theorem sum_ones : ∀ zs : List Str, (∀ z ∈ zs, z.length = 1) → (zs.map (·.length)).sum = zs.length
  | [], _ => rfl
  | x :: r, h => by
    rw [List.map_cons, List.sum_cons, sum_ones r fun z hz => h z (List.mem_cons_of_mem _ hz), h x (List.mem_cons_self ..), List.length_cons]
    omega
theorem mul_len {a : Str} {n : Int} (h1 : 2 ≤ n) (ha : 1 ≤ a.length) : (Txt.mul a n).length = a.length * n.toNat := by
  unfold Txt.mul
  rw [if_neg (by omega)]
  have e1 : (n == 1) = false := by rw [beq_eq_false_iff_ne]; omega
  have e2 : (a.length == 0) = false := by rw [beq_eq_false_iff_ne]; omega
  rw [e1, e2, if_neg (by decide)]
  have key : ∀ (k : Nat) (acc : Array Nat), ((List.replicate k a.cps).foldl (· ++ ·) acc).size = acc.size + k * a.cps.size := by
    intro k
    induction k with
    | zero => intro acc; show acc.size = _; omega
    | succ k ih =>
      intro acc
      rw [List.replicate_succ, List.foldl_cons, ih, Array.size_append, Nat.succ_mul]
      omega
  show ((List.replicate n.toNat a.cps).foldl (· ++ ·) #[]).size = a.cps.size * n.toNat
  rw [key, Nat.mul_comm]
  show 0 + _ = _
  omega
theorem same_at {H H' : Hp} {p : Addr} {o : HO} (n : H p = none) (s : Same H H') : Same H (upd H' p o) := fun b u e => by
  rw [upd_ne (ne_of_none e n)]
  exact s b u e
/-- the three numbers of some dice -/
def DiceAt (H : Hp) (d : Addr) : Prop := ∃ x b c : Int, H d = some (.lst [.int x, .int b, .int c])
end Gx

set_option maxRecDepth 100000
set_option maxHeartbeats 4000000
namespace Gx
open PySem PySem.Spec PyProof.Rows L2
/-! ### promises that hold where no repr is under way -/
/-- no repr is under way -/
abbrev Gd (A : Around) : Prop := A.guards = some []
structure FnG (P : Program) (w : World) (K : PySem.W.Frag) (mg : Str → Option Value) (base : Heap) (CX : CXT) (k : Nat) (f : Addr) (fd : FuncData) (ps : List Str) (sp : Sp) : Prop where
  len : ∀ vs H Q E, sp vs H Q E → vs.length = ps.length
  run : ∀ (A : Around) (outer : List Env) (s : Shared) (H : Hp) (args : Args) (us : List Value) (vs : List V) (Q : VK) (E : XK),
    Gd A → Room k A → Env0 P w K mg base A outer s H → BindsTo s fd args (ps.zip us) → Vals vs us → sp vs H Q E →
      codeAny (model P w) A (.call (.ref f) args) (CR CX outer P w H s Q E) s
section
variable {P : Program} {w : World} {K : PySem.W.Frag} {mg : Str → Option Value} {base : Heap} {CX : CXT} {k : Nat} {f : Addr} {fd : FuncData} {ps : List Str} {sp : Sp}
theorem fnG_of (F : FnOk P w K mg base CX k f fd ps sp) : FnG P w K mg base CX k f fd ps sp := ⟨F.len, fun A outer s H args us vs Q E _ => F.run A outer s H args us vs Q E⟩
theorem FnG.up {j : Nat} (F : FnG P w K mg base CX j f fd ps sp) (h : j ≤ k) : FnG P w K mg base CX k f fd ps sp :=
  ⟨F.len, fun A outer s H args us vs Q E g hr => F.run A outer s H args us vs Q E g (hr.mono h)⟩
theorem FnG.less {sp' : Sp} (F : FnG P w K mg base CX k f fd ps sp) (h : ∀ vs H Q E, sp' vs H Q E → sp vs H Q E) : FnG P w K mg base CX k f fd ps sp' :=
  ⟨fun vs H Q E q => F.len vs H Q E (h vs H Q E q), fun A outer s H args us vs Q E g hr he hb hv hs => F.run A outer s H args us vs Q E g hr he hb hv (h vs H Q E hs)⟩
end
/-- a def by its body, where no repr is under way -/
theorem fnG_body {CX : CXT} {P : Program} {w : World} {K : PySem.W.Frag} {mg : Str → Option Value} {base : Heap} {k : Nat} {f : Addr} {nm ql : Str} {prm : Arguments} {bd : List Stmt} {sc : Scope}
    {dv kv dc pm cd ct oc : Value} {an od : Option Addr} {sl : Array (Option Value)} {N ps : List Str} {sp : Sp}
    (look : K.lookup f = some ⟨oc, od, .func (PySem.W.fnOf nm ql prm bd sc dv kv dc pm an cd ct), sl⟩) (hcode : PySem.W.codeIn K cd ql = true) (S : FnScope N ps sc)
    (hlen : ∀ vs H Q E, sp vs H Q E → vs.length = ps.length)
    (hb : ∀ (A : Around) (outer : List Env) (s : Shared) (H : Hp) (vs : List V) (Q : VK) (E : XK), Gd A → Room k (A.deeper (envOfC ql sc s.heap.objs.size f cd)) → sp vs H Q E →
      ∃ t, PSs (cxOf CX P w K mg base N ql sc f cd A outer s H E) bd t ∧ t { nx := fun _ H' => Q .non H', rt := Q } (start N vs) H) :
    FnG P w K mg base CX (k + 1) f (PySem.W.fnOf nm ql prm bd sc dv kv dc pm an cd ct) ps sp := by
  constructor
  · exact hlen
  · intro A outer s H args us vs Q E g room env bind rel want
    have inS : K.In s.heap := env.mod.kin.keeps fun b o e => (env.bs b o e).1
    have noLim : s.heap.NoLimit := env.mod.nolimit.keeps fun b o e => (env.bs b o e).1
    have kinds : ∀ y ∈ ps.zip us, sc.names.lookup y.1 = some .local ∨ (sc.names.lookup y.1 = some .cell ∧ ((cellsFrom (s.heap.objs.size + 1) sc.names []).lookup y.1).isSome = true) := by
      rintro ⟨n, v⟩ hy
      rcases S.par n (List.of_mem_zip hy).1 with q | q
      · exact Or.inl q
      · exact Or.inr ⟨q, PySem.W.cellsFrom_some _ _ _ (Or.inl q)⟩
    refine codeAny_call_function room.depth (inS _ _ look) rfl S.co S.gen rfl (PySem.W.codeRec_of inS hcode)
      (bind _ _ _ _ (wpAny_newFunctionEnv_cells S.kind kinds fun env' he s1 made => ?_))
    subst he
    refine ⟨noLim.keeps made.toInCall.keep, codeAny_func ?_⟩
    obtain ⟨t, ht, hq⟩ := hb A outer s H vs Q E g (room.deeper _) want
    have I0 := inv_start (CX := CX) (E := E) (N := N) S room.hd env (hlen _ _ _ _ want) rel made
    refine wpAny_mono (ht.run [] s1 (start N vs) H _ I0 hq) ?_ (fun e s' hs => hs)
    intro fl s' hs
    cases fl with
    | brk =>
      obtain ⟨_, _, _, no⟩ := hs
      exact no.elim
    | cont =>
      obtain ⟨_, _, _, no⟩ := hs
      exact no.elim
    | next =>
      obtain ⟨σ', H', J, q⟩ := hs
      exact ⟨V.non, H', J.os, J.bare, J.base, J.hok, rfl, q⟩
    | ret u =>
      obtain ⟨v, σ', H', J, rv, q⟩ := hs
      exact ⟨v, H', J.os, J.bare, J.base, J.hok, rv, q⟩
section
variable {P : Program} {w : World} {K : PySem.W.Frag} {mg : Str → Option Value} {base : Heap}
/-- .. of the text -/
theorem okG {x qual : Str} {st : Stmt} {f : Addr} {fd : FuncData} {N ps : List Str} {k : Nat} {sp : Sp} (F : Fun K x qual st f fd) (S : FnScope N ps (defScope st)) (hlen : ∀ vs H Q E, sp vs H Q E → vs.length = ps.length)
    (hb : ∀ (cdv : Value) (A : Around) (outer : List Env) (s : Shared) (H : Hp) (vs : List V) (Q : VK) (E : XK), Gd (A.deeper (envOfC qual (defScope st) s.heap.objs.size f cdv)) → Room k (A.deeper (envOfC qual (defScope st) s.heap.objs.size f cdv)) → sp vs H Q E →
      ∃ t, PSs (cxOf CX0 P w K mg base N qual (defScope st) f cdv A outer s H E).nox (defBody st) t ∧ t { nx := fun _ H' => Q .non H', rt := Q } (start N vs) H) : FnG P w K mg base CX0 (k + 1) f fd ps sp := by
  obtain ⟨oc, od, kV, doc, pm, an, cdv, ct, osl, rfl, lk, hcd⟩ := F.ex
  refine fnG_body lk hcd S hlen fun A outer s H vs Q E g hr want => ?_
  obtain ⟨t, h, q⟩ := hb cdv A outer s H vs Q E g hr want
  exact ⟨t, h.nox, q⟩
/-- .. which may raise -/
theorem okGX {x qual : Str} {st : Stmt} {f : Addr} {fd : FuncData} {N ps : List Str} {k : Nat} {sp : Sp} (F : Fun K x qual st f fd) (S : FnScope N ps (defScope st)) (hlen : ∀ vs H Q E, sp vs H Q E → vs.length = ps.length) {CX : CXT}
    (hb : ∀ (cdv : Value) (A : Around) (outer : List Env) (s : Shared) (H : Hp) (vs : List V) (Q : VK) (E : XK), Gd (A.deeper (envOfC qual (defScope st) s.heap.objs.size f cdv)) → Room k (A.deeper (envOfC qual (defScope st) s.heap.objs.size f cdv)) → sp vs H Q E →
      ∃ t, PSs (cxOf CX P w K mg base N qual (defScope st) f cdv A outer s H E) (defBody st) t ∧ t { nx := fun _ H' => Q .non H', rt := Q } (start N vs) H) : FnG P w K mg base CX (k + 1) f fd ps sp := by
  obtain ⟨oc, od, kV, doc, pm, an, cdv, ct, osl, rfl, lk, hcd⟩ := F.ex
  exact fnG_body lk hcd S hlen fun A outer s H vs Q E g hr want => hb cdv A outer s H vs Q E g hr want
/-- the name x is a def that keeps the promise sp where no repr is under way -/
def CalG (P : Program) (w : World) (K : PySem.W.Frag) (mg : Str → Option Value) (base : Heap) (k : Nat) (x : Str) (ps : List Str) (sp : Sp) : Prop :=
  ∃ (f : Addr) (fd : FuncData), FnG P w K mg base CX0 k f fd ps sp ∧ PySem.W.keepIn K (.ref f) = true ∧ Binds K fd ps [] ∧ mg x = some (.ref f)
theorem Cal.g {k : Nat} {x : Str} {ps : List Str} {sp : Sp} (c : Cal P w K mg base k x ps sp) : CalG P w K mg base k x ps sp := by
  obtain ⟨f, fd, F, r⟩ := c
  exact ⟨f, fd, fnG_of F, r⟩
theorem CalG.up {j k : Nat} {x : Str} {ps : List Str} {sp : Sp} (c : CalG P w K mg base j x ps sp) (h : j ≤ k) : CalG P w K mg base k x ps sp := by
  obtain ⟨f, fd, F, r⟩ := c
  exact ⟨f, fd, F.up h, r⟩
theorem Def.calG {x qual : Str} {st : Stmt} {ps : List Str} (d : Def K mg x qual st ps) {k : Nat} {sp : Sp} (h : ∀ f fd, Fun K x qual st f fd → FnG P w K mg base CX0 k f fd ps sp) : CalG P w K mg base k x ps sp := by
  obtain ⟨f, fd, F, b, g⟩ := d
  exact ⟨f, fd, h f fd F, F.kp, b, g⟩
end
section
variable {X : Cx}
/-- the callee runs -/
theorem runG {CX : CXT} {k : Nat} {f : Addr} {fd : FuncData} {ps : List Str} {sp : Sp} {E : XK} {ds : List Value} {dvs : List V} {pins : List (Addr × Obj)} {σ : L2.St} {H : Hp} {s : Shared} {Q : VK} {us : List Value} {vs : List V}
    (F : FnG X.prog X.w X.K X.mg X.base CX k f fd ps sp) (g : Gd X.A) (room : Room k X.A) (hb : Binds X.K fd ps ds) (hd : Vals dvs ds) (hx : Passes CX X E)
    (I : Inv X pins σ H s) (r : Vals vs us) (want : sp (vs ++ dvs) H Q E) : wpAny (model X.prog X.w) X.A (call (.ref f) us) (EP X pins σ Q) X.xe s := by
  have rel := r.append hd
  have hl : (us ++ ds).length = ps.length := rel.length.symm.trans (F.len _ _ _ _ want)
  have hc := F.run X.A X.stack s H ⟨us, []⟩ (us ++ ds) (vs ++ dvs) Q E g room I.env0 (hb s us I.kIn hl) rel want
  refine wpAny_call (codeAny_mono hc ?_)
  intro res s' hres
  match res, hres with
  | .error e, hres => exact hx pins σ H s e s' I hres
  | .ok (.ret u), hres => exact I.after hres
theorem pe_calG {x : Str} {ps : List Str} {sp : Sp} {k : Nat} {e : Expr} {es : List Expr} {t : TA} {p pos : Pos} (c : CalG X.prog X.w X.K X.mg X.base k x ps sp) (g : Gd X.A) (room : Room k X.A) (hg : Gl X x) (h : PA X (e :: es) t)
    (hdb : (x == ("__debug__" : Str)) = false := by decide) (hst : starEach (e :: es) X.env = (false, eval e X.env) :: starEach es X.env := by rfl) (hpl : (backTo pos (starEach es X.env)).any (·.1) = false := by rfl) :
    PE X (.Call (.Name x p) (e :: es) [] pos) (tCl sp t) := by
  obtain ⟨f, fd, F, kp, b, hm⟩ := c
  rw [← tCl_eq]
  refine ⟨fun pins s σ H Q I want => wpAny_Call_Name_kw (ld_glob I hg hm ?_ hdb)⟩
  exact PySem.W.callWith_K (h₀ := X.base) I.ok.mod.kin kp (thn (h.run pos pins s σ H _ I want) fun us s1 ⟨vs, H1, I1, r, q⟩ => ⟨I1.kIn, runG F g room b .nil pass0 I1 r q⟩) hst hpl
theorem pe_calG0 {x : Str} {ps : List Str} {sp : Sp} {k : Nat} {p pos : Pos} (c : CalG X.prog X.w X.K X.mg X.base k x ps sp) (g : Gd X.A) (room : Room k X.A) (hg : Gl X x)
    (hdb : (x == ("__debug__" : Str)) = false := by decide) : PE X (.Call (.Name x p) [] [] pos) (tCl sp tNil) := by
  obtain ⟨f, fd, F, kp, b, hm⟩ := c
  rw [← tCl_eq]
  exact ⟨fun pins s σ H Q I want => wpAny_Call_Name_kw (ld_glob I hg hm (PySem.W.callWith_K0 I.kIn kp (runG (us := []) F g room b .nil pass0 I .nil want)) hdb)⟩
end
/-! ### repr of data -/
theorem repr_ref {prog : Program} {w : World} {A : Around} {E : Value → Shared → Prop} {s : Shared} {Q : Value → Shared → Prop} {a : Addr} {d : PyData} {as : List Addr}
    (r : Reads s.heap (.ref a) d as) (hs : d.showable = true) (hsm : d.hasDict = true → sysModules ∉ as) (hsz : d.shown.length ≤ sizeLine) (g : Gd A) (hu : A.units + 1 + d.depth < cLine)
    (h : ∀ h' u tk, (∀ b o, s.heap.get? b = some o → h'.get? b = some o) → Q (.str d.shown u) { s with heap := h', toks := tk }) : wpAny (model prog w) A (call (.builtin "repr") [.ref a]) Q E s := by
  obtain ⟨T, idr, B⟩ := showsBy_of_reads (prog := prog) (w := w) r hs hsm hsz
  have hT := B.typeIs s fun _ _ e => e
  refine Calls.call_function_entry F.kind_repr F.plain_repr F.entry_repr (F.args_repr1 _) ?_
  unfold Builtin.«repr»
  refine wpAny_bind (m := oneArg "repr" _) (wpAny_pure ?_)
  refine wpAny_bind (wpAny_cRoomFor (by show A.units + 1 < cLine; omega) ?_)
  refine wpAny_bind (wpAny_specialOf (name := Str.ofString "__repr__") hT B.slotRepr.lookup ?_)
  refine wpAny_bind (m := callSpecialIfBound? (.ref a) (Str.ofString "__repr__")) (wpAny_callSpecialIfBound?_slotG (name := Str.ofString "__repr__") hT B.slotRepr (B.call _ _ s _ g (by show A.units + 1 + _ < cLine; omega) (fun _ _ e => e) fun h' u tk hk => ?_))
  refine wpAny_bind (wpAny_isInstance (T := "str") (b := true) rfl isSubtype_str_str ?_)
  exact wpAny_pure ⟨_, rfl, h h' u tk hk⟩
section
variable {X : Cx}
/-- repr(x), x data without dicts -/
def rRepr (K : PySem.W.Frag) : List V → Hp → VK → Prop := fun xs H Q => ∃ (x : V) (d : PyData), xs = [x] ∧ Dp K H x d ∧ d.showable = true ∧ d.hasDict = false ∧ d.depth ≤ 60 ∧ d.shown.length ≤ sizeLine ∧ Q (.str d.shown) H
theorem call_reprD (g : Gd X.A) (hu : X.A.units + 64 < cLine) : CallR X (.builtin "repr") (rRepr X.K) := by
  intro pins s σ H xs us Q I r h
  obtain ⟨x, d, rfl, hd, h1, h2, h3, h4, q⟩ := h
  obtain ⟨u, rfl, rx⟩ := vals1 r
  obtain ⟨as, hr⟩ := Dp.reads I d x u hd rx
  cases hr with
  | none => simp only [PyData.shown] at q; exact PySem.P.repr_of_none ⟨.str _, H, I.tok _, ⟨_, rfl⟩, q⟩
  | bool b => simp only [PyData.shown] at q; exact PySem.P.repr_of_bool ⟨.str _, H, I.tok _, ⟨_, rfl⟩, q⟩
  | int i t => simp only [PyData.shown] at q; exact PySem.P.repr_of_int (by simpa [PyData.showable] using h1) ⟨.str _, H, I.tok _, ⟨_, rfl⟩, q⟩
  | str y t => simp only [PyData.shown] at q h4; exact PySem.P.repr_of_str ⟨.str _, H, I.tok _, ⟨_, rfl⟩, q⟩ h4
  | list e1 e2 e3 e4 =>
    exact repr_ref (.list e1 e2 e3 e4) h1 (fun e => by rw [h2] at e; cases e) h4 g (by omega) fun h' u tk hk => ⟨.str _, H, I.kept (t' := tk) hk, ⟨_, rfl⟩, q⟩
  | tuple e1 e2 e3 e4 =>
    exact repr_ref (.tuple e1 e2 e3 e4) h1 (fun e => by rw [h2] at e; cases e) h4 g (by omega) fun h' u tk hk => ⟨.str _, H, I.kept (t' := tk) hk, ⟨_, rfl⟩, q⟩
  | dict e1 e2 e3 e4 e5 =>
    exact repr_ref (.dict e1 e2 e3 e4 e5) h1 (fun e => by rw [h2] at e; cases e) h4 g (by omega) fun h' u tk hk => ⟨.str _, H, I.kept (t' := tk) hk, ⟨_, rfl⟩, q⟩
end
/-! ### sorted of a tuple of texts -/
section
variable {X : Cx}
def rSortedTS (K : PySem.W.Frag) : List V → Hp → VK → Prop := fun vs H Q => ∃ (a : Addr) (xs : List Str), vs = [V.ref a] ∧ SqT K H a (xs.map V.str) ∧ xs.length ≤ 100000 ∧
  ∀ (ys : List Str) (p : Addr), ys.Perm xs → sortedS ys = true → H p = none → Q (.ref p) (upd H p (.lst (ys.map V.str)))
theorem cr_sortedTS : CallR X (.builtin "sorted") (rSortedTS X.K) := by
  intro pins s σ H vs us Q I r h
  obtain ⟨a, xs, rfl, ht, hz, q⟩ := h
  obtain ⟨its, rv, ⟨o, ho, hc, n, hd⟩, _⟩ := I.tuple ht
  rw [Vals.ref1 r]
  have hln : xs.length = its.length := by
    have e := rv.length
    rw [List.length_map] at e
    exact e
  have hS : StrsAre its xs := rv.strs
  have hL : its.length ≤ sizeLine := Nat.le_trans (by omega) (show 100000 ≤ sizeLine by decide)
  refine Calls.call_function_entry kind_sorted plain_sorted entry_sorted (args_sorted1 _) ?_
  unfold Builtin.«sorted»
  refine wpAny_bind (m := checkCount "sorted" 1 1 _) (wpAny_pure ?_)
  refine wpAny_bind (wpAny_collect_seq a (.inr rfl) ho hc hd (fun h' hk => ?_) (by rw [List.size_toArray]; exact hL))
  have I1 : Inv _ pins σ H { s with heap := h' } := I.kept (t' := s.toks) hk
  rw [List.toList_toArray]
  refine wpAny_bind (wpAny_newList ?_ hL)
  have hoL : (h'.push (seqObj "list" its.toArray 0)).get? h'.objs.size = some (seqObj "list" its.toArray 0) := Heap.get?_push_size _ rfl
  show wpAny _ _ _ _ _ { s with heap := h'.push (seqObj "list" its.toArray 0) }
  refine wpAny_bind (wpAny_holding (wpAny_call_entry slot_list_sort ⟨_, hoL, rfl⟩ entry_list_sort
    (list_sort_treeKAny strKind_oneLt (s := { s with heap := h'.push (seqObj "list" its.toArray 0) }) hoL hS.keysOf (fun v₁ v₂ rest e => keyKind_strs (by rw [← e]; exact hS)) hL fun st' hp hs => ⟨_, rfl, ?_⟩) (args_list_sort _)))
  obtain ⟨ys, g1, g2, g3⟩ := sorted_out_str hS hp hs
  obtain ⟨e', he'⟩ := sortedHeap_at (vs := its) (out := (arrOf st').map (·.2)) hoL
  have hlen : (ys.map V.str).length ≤ sizeLine := by
    rw [List.length_map, g2.length_eq, hln]
    exact hL
  refine wpAny_pure ⟨_, rfl, .ref h'.objs.size, upd H h'.objs.size (.lst (ys.map V.str)), I1.laid (t' := s.toks) (fun b u e => ?_) (Nat.le_refl _)
    (show ObjOk X.prog X.w _ _ _ (.lst (ys.map V.str)) from ⟨hlen, ((arrOf st').map (·.2)).toList, e', vals_of_strs g1, by rw [Array.toArray_toList]; exact he'⟩), rfl, q ys _ g2 g3 (I1.hok.fresh (Nat.le_refl _))⟩
  have hb : b < h'.objs.size := Heap.lt_size e
  rw [sortedHeap_old (Nat.ne_of_lt hb) (by rw [size_push']; exact Nat.lt_succ_of_lt hb)]
  exact Heap.get?_push_of_some _ e
end
/-! ### the end of a law whose promise holds where no repr is under way -/
/-- the abstract heap at the law's call: the script alone, if the module does not own it -/
def H00 (a : Addr) (o : Obj) (ns : List Int) (own : Bool) : Hp := fun b => if own = false ∧ b = a then some (.frz o (.lst (ns.map V.int))) else none
theorem h00_none {a b : Addr} {o : Obj} {ns : List Int} {own : Bool} (h : own = true ∨ b ≠ a) : H00 a o ns own b = none := by
  unfold H00
  rw [if_neg]
  rintro ⟨h1, h2⟩
  rcases h with h | h
  · rw [h1] at h; cases h
  · exact h h2
theorem h00_some {a b : Addr} {o : Obj} {ns : List Int} {own : Bool} {u : HO} (h : H00 a o ns own b = some u) : own = false ∧ b = a ∧ u = .frz o (.lst (ns.map V.int)) := by
  unfold H00 at h
  by_cases c : own = false ∧ b = a
  · rw [if_pos c] at h
    exact ⟨c.1, c.2, (Option.some.inj h).symm⟩
  · rw [if_neg c] at h
    cases h
theorem lawG {P : Program} {w : World} {K : PySem.W.Frag} {mg mb : Str → Option Value} {CX : CXT} {k : Nat} {fa a : Addr} {fd : FuncData} {x : Str} {sp : Sp} {t : Shared} {vs : List Value} {ns : List Int}
    (inK : K.In t.heap) (glob : t.heap.Ns mainGlobals mg) (blt : t.heap.Ns builtinsNs mb) (boot : ∀ y : Str, y ≠ "__name__" → mb y = bootBuiltins y) (noLim : t.heap.NoLimit) (gens : t.gens = #[])
    (scr : t.heap.get? a = some { cls := .type "list", data := .seq vs.toArray }) (hints : IntsAre vs ns) (short : ns.length ≤ sizeLine) (room : Room k callerA)
    (F : ∀ base : Heap, K.In base → base.Ns mainGlobals mg → FnG P w K mg base CX k fa fd [x] sp) (bind : ∀ (s : Shared) (u : Value), BindsTo s fd ⟨[u], []⟩ [(x, u)])
    (want : ∀ H : Hp, Only H → SqL K H a (ns.map V.int) → sp [.ref a] H (fun v _ => v = .bl true) fun _ _ _ => False)
    (noErr : ∀ H e s', CX [] H t (fun _ _ _ => False) e s' → False) :
    codeAny (model P w) callerA (.call (.ref fa) ⟨[.ref a], []⟩) (fun r s' => r = .ok (.ret (.bool true)) ∧ OldK t.heap s'.heap ∧ s'.os = t.os ∧ AllBare s'.gens) t := by
  have hv : Vals (ns.map V.int) vs := vals_ints hints
  have hlv : vs.length = ns.length := hints.length
  -- does the module own the script?
  obtain ⟨own, hown⟩ : ∃ own : Bool, own = (K.lookup a).isSome := ⟨_, rfl⟩
  let o : Obj := { cls := .type "list", data := .seq vs.toArray }
  have hOk : HOk P w (H00 a o ns own) t.heap := by
    intro b u e
    obtain ⟨_, rfl, rfl⟩ := h00_some e
    exact ⟨scr, by rw [List.length_map]; exact short, vs, _, hv, scr⟩
  have keepT : ∀ {b : Addr} {ob : Obj}, t.heap.get? b = some ob → own = true ∨ b ≠ a → (hidT t.heap (H00 a o ns own)).get? b = some ob := fun e n => hidT_get e (h00_none n)
  have notScr : ∀ {b : Addr} {m : Str → Option Value}, t.heap.Ns b m → b ≠ a := by
    rintro b m ⟨ob, es, ep, e, dd, _⟩ rfl
    rw [scr] at e
    cases e
    cases dd
  have nsKeep : ∀ {b : Addr} {m : Str → Option Value}, t.heap.Ns b m → (hidT t.heap (H00 a o ns own)).Ns b m := by
    intro b m n
    have ne := notScr n
    obtain ⟨ob, es, ep, e, r⟩ := n
    exact ⟨ob, es, ep, keepT e (.inr ne), r⟩
  have inK' : K.In (hidT t.heap (H00 a o ns own)) := by
    intro b ob e
    refine keepT (inK b ob e) ?_
    by_cases hb : b = a
    · subst hb
      left
      rw [hown, e]
      rfl
    · exact .inr hb
  have noLim' : (hidT t.heap (H00 a o ns own)).NoLimit := by
    obtain ⟨mc, h1, h2⟩ := noLim
    exact ⟨mc, nsKeep h1, h2⟩
  have env : Env0 P w K mg (hidT t.heap (H00 a o ns own)) callerA [] t (H00 a o ns own) := by
    refine ⟨rfl, ⟨inK', nsKeep glob, ⟨mb, nsKeep blt, boot⟩, noLim'⟩, fun b ob e => of_hidT e, Nat.le_of_eq (hidT_size _ _), trivial, ?_, hOk, .of_eq gens⟩
    intro b hb
    exact absurd (show b ∈ ([] : List Addr) from hb) List.not_mem_nil
  have only : Only (H00 a o ns own) := by
    intro b
    cases e : H00 a o ns own b with
    | none => exact .inl rfl
    | some u =>
      obtain ⟨_, _, rfl⟩ := h00_some e
      exact .inr ⟨_, _, rfl⟩
  have hS : SqL K (H00 a o ns own) a (ns.map V.int) := by
    cases own with
    | false => exact .inl (.inr ⟨o, by unfold H00; rw [if_pos ⟨rfl, rfl⟩]⟩)
    | true =>
      obtain ⟨ob, e⟩ := Option.isSome_iff_exists.mp hown.symm
      have e2 := inK a ob e
      rw [scr] at e2
      cases e2
      exact .inr ⟨_, vs.toArray, _, e, rfl, rfl, rfl, by rw [List.size_toArray, hlv]; exact short, by simpa using hv⟩
  have runs := (F _ inK' (nsKeep glob)).run callerA [] t (H00 a o ns own) ⟨[.ref a], []⟩ [.ref a] [.ref a] _ _ rfl room env (bind t (.ref a)) (.cons rfl .nil) (want _ only hS)
  refine codeAny_mono runs ?_
  intro res s' hres
  match res, hres with
  | .error e, hres => exact (noErr _ e s' hres).elim
  | .ok (.ret u), hres =>
    obtain ⟨v, H', hos, bare, un, ok', rel, rfl⟩ := hres
    obtain rfl : u = Value.bool true := rel
    refine ⟨rfl, OldK.of_keep fun b ob e => ?_, hos, bare⟩
    cases q : H00 a o ns own b with
    | none => exact un.keep b ob e q (fun z => absurd (show b ∈ ([] : List Addr) from z) List.not_mem_nil) List.not_mem_nil
    | some u =>
      obtain ⟨_, _, rfl⟩ := h00_some q
      have q' := un.frzs b _ _ q
      have e1 := (hOk b _ q).1
      rw [e] at e1
      cases e1
      exact (ok' b _ q').1
/-- what k_head leaves -/
theorem walkG {l : PySem.W.OpenLaw} {n k : Nat} {q : Program} {loose : List Str} {XP : (Str → Option Value) → Heap → Prop} {YP : World → Heap → Prop} {d : DefRec} {K : Params → PySem.W.Frag} {CX : World → CXT} {sp : World → Sp} {x : Str}
    (most : l.most = some n) (small : n ≤ sizeLine) (plain : d.params.defaults = []) (room : Room k callerA) (hY : ∀ (w : World) (h : Heap), YP w h → (K w.params).In h)
    (F : ∀ (w : World) (mg : Str → Option Value) (fa : Addr) (h : Heap), (K w.params).In h → h.Ns mainGlobals mg → mg d.name = some (.ref fa) →
      ∃ fd : FuncData, (∀ (s : Shared) (u : Value), BindsTo s fd ⟨[u], []⟩ [(x, u)]) ∧ ∀ base : Heap, (K w.params).In base → base.Ns mainGlobals mg → FnG l.prog w (K w.params) mg base (CX w) k fa fd [x] (sp w))
    (want : ∀ (w : World) (H : Hp) (a : Addr) (ns : List Int), ns.length ≤ n → Only H → SqL (K w.params) H a (ns.map V.int) → sp w [.ref a] H (fun v _ => v = .bl true) fun _ _ _ => False)
    (noErr : ∀ (w : World) (H : Hp) (s : Shared) (e : Value) (s' : Shared), CX w [] H s (fun _ _ _ => False) e s' → False) :
    PySem.W.WalkO q loose XP YP l.row.toRowW d [] (fun f vs => PySem.call f vs) := by
  refine Att.attach_call most plain fun w s₀ t mg mb fa o pm cd doc a vs ns G Y ho hd hcd hmg scr hints hlen gens => ?_
  obtain ⟨fd, bind, body⟩ := F w mg fa _ (hY w _ Y) G.T.g hmg
  exact lawG (hY w _ Y) G.T.g G.T.b G.T.builtins G.T.nolimit gens scr hints (Nat.le_trans hlen small) room body bind (fun H hO hS => want w H a ns hlen hO hS) fun H e s' => noErr w H t e s'
end Gx

set_option maxRecDepth 100000
set_option maxHeartbeats 4000000
namespace Gx
open PySem PySem.Spec PySem.W PySem.Calls Builtin Builtin.ObjectAttr
section
variable {prog : Program} {w : World} {A : Around} {R : Result → Shared → Prop} {hp : Heap} {g : Array GenState} {d : Drawn} {t : Nat} {os : OsState} {K : Frag}
/-- the first field of an own exception, over any built-in base -/
theorem exc_storeX {B : String} {bmB : List Value} {name : Str} {tk : Tok} {v : Value} {x C t0 : Addr} (SF : StoreFacts B bmB "object.__setattr__" "object")
    (inK : K.In hp) (hx : hp.get? x = some (excObj C t0 none .none)) (over : excOver K C bmB = true) (noTake : takerIn K C name = some none) (hasD : hasDictIn K C = true)
    (hq : ∀ (h' : Heap) (tk' : Nat) (dx : Addr), (∀ b o, b ≠ x → hp.get? b = some o → h'.get? b = some o) → hp.objs.size ≤ dx → dx ≠ x → h'.get? x = some (excObj C t0 (some dx) .none) →
      h'.Ns1 dx (fun y => if y = name then some v else none) → R (.ok (.ret .none)) ⟨h', g, d, tk', os⟩) :
    codeAny (model prog w) A (.call (.builtin "object.__setattr__") ⟨[.ref x, .str name tk, v], []⟩) R ⟨hp, g, d, t, os⟩ := by
  have xs : x ≠ hp.objs.size := Nat.ne_of_lt (Heap.lt_size hx)
  refine osa_openX (s := ⟨hp, g, d, t, os⟩) (od := none) SF inK ⟨hx, rfl, rfl, trivial⟩ over noTake fun b => ?_
  obtain ⟨cd, hc, hd⟩ := any_some hasD
  refine wpAny_bind (wpAny_pure (wpAny_bind (instanceDict_exc (s := ⟨hp, g, d, t, os⟩) hx (looks_clsIn inK hc) hd ?_)))
  show wpAny _ _ (storeInDict hp.objs.size (.str name tk) name v) _ _ _
  have hx1 : (hp.push (dictOf [] 0)).get? x = some (excObj C t0 none .none) := Heap.get?_push_of_some _ hx
  refine PySem.HandSPX.store_in_new ⟨_, #[], _, (Heap.get?_update_ne _ _ _ _ xs.symm).trans (Heap.get?_push_at rfl rfl), rfl, fun e he => absurd he (by simp), fun _ => rfl⟩ fun h' tk' hn hs => ?_
  refine hq h' tk' hp.objs.size (fun b o hb ho => ?_) (Nat.le_refl _) xs.symm ((hs.2 x xs).trans (Heap.get?_update_self _ hx1 rfl)) hn
  have bl : b ≠ hp.objs.size := Nat.ne_of_lt (Heap.lt_size ho)
  exact (hs.2 b bl).trans ((Heap.get?_update_ne _ _ _ _ hb).trans (Heap.get?_push_of_some _ ho))
end
end Gx
namespace Gx
open PySem PySem.Spec PySem.W PySem.Calls PyProof.Rows L2
/-! ### own exceptions with one field: class cn(B): def __init__(self, fld): self.fld = fld -/
/-- what the written part says of the class -/
structure XTxt (K : Frag) (mg : Str → Option Value) (cn fld : Str) (newId : String) (bmB : List Value) (C fI : Addr) : Prop where
  gC : mg cn = some (.ref C)
  cls : ∃ nm q N bs bm sn sub ab col dd k0 k1 k2 k3 k5, K.lookup C = some (excClassObj nm q C N bs bm true sn sub ab col dd k0 k1 k2 k3 k5 newId) ∧ excTail bmB bm = true
  over : excOver K C bmB = true
  tak : takerIn K C fld = some none
  hdC : hasDictIn K C = true
  sa : findIn K (.ref C) "__setattr__" = some (some (.builtin "object.__setattr__"))
  ga : findIn K (.ref C) "__getattribute__" = some (some (.builtin "BaseException.__getattribute__"))
  gg : findIn K (.ref C) "__getattr__" = some none
  noN : findIn K (.ref C) fld = some none
  iC : findIn K (.ref C) "__init__" = some (some (.ref fI))
  tC : typeIn K (.ref fI) = some (.type "function")
  kC : keepIn K (.ref C) = true
  exC : subIn K (.ref C) (.type "BaseException") = some true
  tyC : typeIn K (.ref C) = some (.type "type")
  te : exmOne K (.ref C) (.ref C) = some true
/-- what __init__ leaves of a new exception at x -/
structure XInit (h h' : Heap) (x C dx t0 : Addr) (fld : Str) (v : Value) : Prop where
  keep : ∀ b o, b ≠ x → h.get? b = some o → h'.get? b = some o
  obj : h'.get? x = some (excObj C t0 (some dx) .none)
  big : h.objs.size ≤ dx
  ne : dx ≠ x
  ns : h'.Ns1 dx (fun y => if y = fld then some v else none)
/-- __init__ stores the field -/
def InitDoes (K : Frag) (C fI : Addr) (fld : Str) : Prop := ∀ (prog : Program) (w : World) (A : Around) (R : Result → Shared → Prop) (s : Shared) (x t0 : Addr) (v : Value),
  K.In s.heap → s.heap.NoLimit → s.heap.get? x = some (excObj C t0 none .none) → K.lookup x = none → A.depth < recursionLimit →
  (∀ h' tk dx, XInit s.heap h' x C dx t0 fld v → R (.ok (.ret .none)) { s with heap := h', toks := tk }) → codeAny (model prog w) A (.call (.ref fI) ⟨[.ref x, v], []⟩) R s
/-- such an exception, made -/
structure XMade (h h' : Heap) (e C d : Addr) (fld : Str) (v : Value) : Prop where
  keep : ∀ b o, h.get? b = some o → h'.get? b = some o
  new : h.objs.size ≤ e
  obj : ∃ oe vs, h'.get? e = some oe ∧ oe.cls = .ref C ∧ oe.dict = some d ∧ oe.data = .fields vs ∧ vs[1]? = some .none
  big : h.objs.size ≤ d
  ne : d ≠ e
  ns : h'.Ns1 d (fun y => if y = fld then some v else none)
theorem one_line (v : Value) : [v].length ≤ sizeLine := by
  show 1 ≤ sizeLine
  decide
section
variable {prog : Program} {w : World} {A : Around} {R : Result → Shared → Prop} {s : Shared} {K : Frag} {mg : Str → Option Value} {C fI : Addr} {cn fld : Str} {B newId initId : String} {bmB : List Value}
theorem x_made (FB : ExcBaseFacts B newId initId bmB) (T : XTxt K mg cn fld newId bmB C fI) (D : InitDoes K C fI fld) {v : Value} (inK : K.In s.heap) (lim : s.heap.NoLimit) (room : A.depth + 1 < recursionLimit)
    (hq : ∀ h' tk e d, XMade s.heap h' e C d fld v → R (.ok (.ret (.ref e))) { s with heap := h', toks := tk }) : codeAny (model prog w) A (.call (.ref C) ⟨[v], []⟩) R s := by
  obtain ⟨nm, q, N, bs, bm, sn, sub, ab, col, dd, k0, k1, k2, k3, k5, hC, tail⟩ := T.cls
  obtain ⟨hp, g, dr, tk, os⟩ := s
  have stay : ∀ b o, hp.get? b = some o → ((hp.push (kdv_tup [v])).push (excObj C hp.objs.size none .none)).get? b = some o := fun b o e => Heap.get?_push_of_some _ (Heap.get?_push_of_some _ e)
  have there : ((hp.push (kdv_tup [v])).push (excObj C hp.objs.size none .none)).get? (hp.objs.size + 1) = some (excObj C hp.objs.size none .none) := by heap_get
  have fresh : K.lookup (hp.objs.size + 1) = none := by
    cases e : K.lookup (hp.objs.size + 1) with
    | none => rfl
    | some o => exact absurd (Nat.lt_of_succ_lt (Heap.lt_size (inK _ _ e))) (Nat.lt_irrefl _)
  refine PySem.HandSPX.call_own FB (fun Y => excTail_contains Y bm tail) (inK _ _ hC) (looks_findIn inK T.iC) (fun self => bind_fn inK self T.tC) (one_line v) ?_
  refine D prog w _ _ ⟨(hp.push (kdv_tup [v])).push (excObj C hp.objs.size none .none), g, dr, tk, os⟩ _ _ v (inK.keeps stay) (lim.keeps stay) there fresh room fun h' tk' dx M => ?_
  have old : ∀ b o, hp.get? b = some o → h'.get? b = some o := fun b o e => M.keep b o (Nat.ne_of_lt (Nat.lt_succ_of_lt (Heap.lt_size e))) (stay b o e)
  have z : hp.objs.size + 1 + 1 ≤ dx := by
    have q := M.big
    first
      | exact q
      | simpa only [Heap.size_push] using q
  exact ⟨rfl, hq h' tk' (hp.objs.size + 1) dx ⟨old, Nat.le_succ _, ⟨_, _, M.obj, rfl, rfl, rfl, rfl⟩, Nat.le_trans (Nat.le_trans (Nat.le_succ _) (Nat.le_succ _)) z, M.ne, M.ns⟩⟩
end
theorem relO_one {fld : Str} {v : V} {u : Value} (r : RelV v u) (f : Str) : RelO (List.lookup f [(fld, v)]) (if f = fld then some u else none) := by
  by_cases e : f = fld
  · subst e
    rw [if_pos rfl, show List.lookup f [(f, v)] = some v by simp [List.lookup]]
    exact r
  · have q : (f == fld) = false := by simpa using e
    rw [if_neg e, show List.lookup f [(fld, v)] = none by simp [List.lookup, q]]
    trivial
section
variable {X : Cx} {C fI : Addr} {cn fld : Str} {B newId initId : String} {bmB : List Value}
/-- cn(e) -/
def tMkX (C : Addr) (fld : Str) (ta : TA) : L2.St → Hp → XK → Prop := fun σ H Q => ta σ H fun vs H1 => ∃ v, vs = [v] ∧ ∀ d, H1 d = none → Q (.ref C) (some d) (upd H1 d (.xd [(fld, v)]))
theorem pmk_x {a : Expr} {ta : TA} {p pos : Pos} {k : Nat} (FB : ExcBaseFacts B newId initId bmB) (T : XTxt X.K X.mg cn fld newId bmB C fI) (D : InitDoes X.K C fI fld) (room : Room k X.A) (ha : PA X [a] ta) (hg : Gl X cn)
    (hdb : (cn == ("__debug__" : Str)) = false := by decide) (hst : starEach (a :: []) X.env = (false, eval a X.env) :: starEach [] X.env := by rfl) (hpl : (backTo pos (starEach [] X.env)).any (·.1) = false := by rfl) :
    PMk X (.Call (.Name cn p) [a] [] pos) (tMkX C fld ta) := by
  intro pins s σ H Q I h
  refine wpAny_Call_Name_kw (ld_glob I hg T.gC ?_ hdb)
  refine PySem.W.callWith_K (h₀ := X.base) I.ok.mod.kin T.kC (thn (ha.run pos pins s σ H _ I h) ?_) hst hpl
  rintro us s1 ⟨vs, H1, I1, r1, v, rfl, q1⟩
  refine ⟨I1.kIn, ?_⟩
  obtain ⟨u, rfl, rv⟩ := vals1 r1
  show wpAny _ _ (call (.ref C) [u]) _ _ _
  have lim := I1.nolimit
  obtain ⟨hp, g, dr, tk, os⟩ := s1
  refine wpAny_call (x_made FB T D I1.kIn lim (by have := room.dp; omega) fun h' tk' e d M => ?_)
  show MkP X pins σ Q (.ref e) ⟨h', g, dr, tk', os⟩
  obtain ⟨oe, fv, hoe, hc, hd, hdat, h1⟩ := M.obj
  obtain ⟨G', g1, g2⟩ := restrict h' fun b => decide (b ≠ e)
  have off : ∀ b, b ≠ e → G'.get? b = h'.get? b := fun b hb => g1 b (decide_eq_true hb)
  have gone : G'.get? e = none := g2 e (by simp)
  have old : ∀ b o, hp.get? b = some o → G'.get? b = some o := fun b o q => (off b (Nat.ne_of_lt (Nat.lt_of_lt_of_le (Heap.lt_size q) M.new))).trans (M.keep b o q)
  have ob : ObjOk X.prog X.w (upd H1 d (.xd [(fld, v)])) G' d (.xd [(fld, v)]) := ⟨_, M.ns.at (fun o q => (off d M.ne).trans q), fun f => relO_one rv f⟩
  have J : Inv X pins σ (upd H1 d (.xd [(fld, v)])) ⟨G', g, dr, tk', os⟩ := I1.laid (t' := tk') old M.big ob
  refine ⟨e, oe, fv, ⟨G', g, dr, tk', os⟩, _, .ref C, some d, rfl, J, ?_, gone, hoe, ⟨hc, hd⟩, hdat, h1, ?_, rfl, I1.bare, raises_own T.exC T.tyC, q1 d (I1.hok.fresh M.big)⟩
  · intro b o q
    have q' : G'.get? b = some o := q
    by_cases hb : b = e
    · rw [hb, gone] at q'
      cases q'
    · exact (off b hb).symm.trans q
  · rw [upd_ne (Ne.symm M.ne)]
    exact I1.hok.fresh M.new
/-- raise cn(e) -/
def tRaiseX (C : Addr) (fld : Str) (W : WX) (ta : TA) : TS := fun _ σ H => tMkX C fld ta σ H fun cls d H' => W cls d σ H'
theorem ps_raiseX {a : Expr} {ta : TA} {W : WX} {p pos pos2 : Pos} {k : Nat} (hc : X.calm = true) (FB : ExcBaseFacts B newId initId bmB) (T : XTxt X.K X.mg cn fld newId bmB C fI) (D : InitDoes X.K C fI fld) (room : Room k X.A) (tk : Takes X W) (ha : PA X [a] ta) (hg : Gl X cn)
    (hdb : (cn == ("__debug__" : Str)) = false := by decide) (hst : starEach (a :: []) X.env = (false, eval a X.env) :: starEach [] X.env := by rfl) (hpl : (backTo pos (starEach [] X.env)).any (·.1) = false := by rfl) :
    PS X (.Raise (some (.Call (.Name cn p) [a] [] pos)) none pos2) (tRaiseX C fld W ta) := ps_raise hc tk (pmk_x FB T D room ha hg hdb hst hpl)
/-- e.fld, e the exception that the suite holds (at a; its class cls, its dict d) -/
def tByX (C : Addr) (fld : Str) (a : Addr) (cls : Value) (d : Option Addr) (te : TE) : TE := fun σ H Q => te σ H fun x H1 => x = .ref a ∧ cls = .ref C ∧ ∃ (dd : Addr) (v : V), d = some dd ∧ H1 dd = some (.xd [(fld, v)]) ∧ Q v H1
theorem pe_byX {a : Addr} {oe : Obj} {cls : Value} {d : Option Addr} {pn : List (Addr × Obj)} {e : Expr} {te : TE} {pos : Pos} (T : XTxt X.K X.mg cn fld newId bmB C fI) (hz : Zc cls d oe) (hf : ∃ vs, oe.data = .fields vs) (he : PE (X.suite a ((a, oe) :: pn)) e te)
    (hb : attributeBase e fld X.env (eval e X.env) = eval e X.env := by rfl) : PE (X.suite a ((a, oe) :: pn)) (.Attribute e fld pos) (tByX C fld a cls d te) := by
  constructor
  intro pins s σ H Q I h
  refine attr_of hb (thn (he.run pins s σ H _ I h) ?_)
  rintro u s1 ⟨x, H1, I1, rx, rfl, rfl, dd, v, rfl, ea, q⟩
  obtain rfl : u = Value.ref a := rx
  obtain ⟨here, _⟩ := I1.pin (a, oe) (List.mem_append_left _ List.mem_cons_self)
  obtain ⟨vs, hd⟩ := hf
  obtain ⟨mA, hns, hr⟩ := (show ObjOk X.prog X.w H1 s1.heap dd (.xd [(fld, v)]) from I1.hok dd _ ea)
  obtain ⟨od, ho, hl⟩ := lookIn_ns hns
  have l : List.lookup fld [(fld, v)] = some v := by simp [List.lookup]
  have hrf := hr fld
  rw [l] at hrf
  obtain ⟨u, hu, ru⟩ := RelO.some_of (v := v) (o := mA fld) hrf
  have J : PySem.W.InstAt s1.heap a oe C (some od) := ⟨here, hz.1, by unfold PySem.W.notCls; rw [hd] <;> rfl, by rw [hz.2]; exact ho⟩
  exact HandSPX.exc_get I1.kIn J T.ga T.gg T.exC (PySem.W.findObj_own T.hdC T.noN rfl (by rw [hl, hu])) (handed_of ru) ⟨v, H1, I1.tok _, ru, q⟩
end
end Gx
namespace Gx
open PySem PySem.Spec PySem.Calls PyProof.Rows L2
/-! ### calls of defs that may raise, also with keywords, where no repr is under way -/
section
variable {P : Program} {w : World} {K : PySem.W.Frag} {mg : Str → Option Value} {base : Heap}
theorem FnG.toX {k : Nat} {f : Addr} {fd : FuncData} {ps : List Str} {sp : Sp} (F : FnG P w K mg base CX0 k f fd ps sp) : FnG P w K mg base (L2.CX P w) k f fd ps sp := by
  refine ⟨F.len, fun A outer s H args us vs Q E g hr he hb hv hs => codeAny_mono (F.run A outer s H args us vs Q E g hr he hb hv hs) ?_⟩
  intro r s' h
  match r, h with
  | .error e, h => exact h.elim
  | .ok (.ret u), h => exact h
/-- the name x is a def that keeps sp, and may raise -/
def CalX (P : Program) (w : World) (K : PySem.W.Frag) (mg : Str → Option Value) (base : Heap) (k : Nat) (x : Str) (ps : List Str) (sp : Sp) : Prop :=
  ∃ (f : Addr) (fd : FuncData), FnG P w K mg base (L2.CX P w) k f fd ps sp ∧ PySem.W.keepIn K (.ref f) = true ∧ Binds K fd ps [] ∧ mg x = some (.ref f)
theorem CalX.up {j k : Nat} {x : Str} {ps : List Str} {sp : Sp} (c : CalX P w K mg base j x ps sp) (h : j ≤ k) : CalX P w K mg base k x ps sp := by
  obtain ⟨f, fd, F, r⟩ := c
  exact ⟨f, fd, F.up h, r⟩
theorem CalG.toX {k : Nat} {x : Str} {ps : List Str} {sp : Sp} (c : CalG P w K mg base k x ps sp) : CalX P w K mg base k x ps sp := by
  obtain ⟨f, fd, F, r⟩ := c
  exact ⟨f, fd, F.toX, r⟩
theorem Def.calX {x qual : Str} {st : Stmt} {ps : List Str} (d : Def K mg x qual st ps) {k : Nat} {sp : Sp} (h : ∀ f fd, Fun K x qual st f fd → FnG P w K mg base (L2.CX P w) k f fd ps sp) : CalX P w K mg base k x ps sp := by
  obtain ⟨f, fd, F, b, g⟩ := d
  exact ⟨f, fd, h f fd F, F.kp, b, g⟩
/-- .. called with n values by position and keywords ks; gV puts them in the parameters' order -/
def CalK (P : Program) (w : World) (K : PySem.W.Frag) (mg : Str → Option Value) (base : Heap) (k : Nat) (x : Str) (ps : List Str) (n : Nat) (ks : List Str) (gV : List V → List V → List V) (sp : Sp) : Prop :=
  ∃ (f : Addr) (fd : FuncData) (g : List Value → List Value → List Value), FnG P w K mg base (L2.CX P w) k f fd ps sp ∧ PySem.W.keepIn K (.ref f) = true ∧ KBn K fd ps n ks g gV ∧ mg x = some (.ref f)
theorem CalK.up {j k n : Nat} {x : Str} {ps ks : List Str} {gV : List V → List V → List V} {sp : Sp} (c : CalK P w K mg base j x ps n ks gV sp) (h : j ≤ k) : CalK P w K mg base k x ps n ks gV sp := by
  obtain ⟨f, fd, g, F, r⟩ := c
  exact ⟨f, fd, g, F.up h, r⟩
/-- the top's def with keyword-only parameters and no defaults -/
def DefK (K : PySem.W.Frag) (mg : Str → Option Value) (x qual : Str) (st : Stmt) (ps : List Str) (n : Nat) (ks : List Str) : Prop :=
  ∃ (f : Addr) (fd : FuncData), Fun K x qual st f fd ∧ KBn K fd ps n ks (fun us ws => us ++ ws) (fun vs zs => vs ++ zs) ∧ mg x = some (.ref f)
theorem DefK.calK {x qual : Str} {st : Stmt} {ps ks : List Str} {n : Nat} (d : DefK K mg x qual st ps n ks) {k : Nat} {sp : Sp} (h : ∀ f fd, Fun K x qual st f fd → FnG P w K mg base (L2.CX P w) k f fd ps sp) : CalK P w K mg base k x ps n ks (fun vs zs => vs ++ zs) sp := by
  obtain ⟨f, fd, F, b, g⟩ := d
  exact ⟨f, fd, _, h f fd F, F.kp, b, g⟩
theorem kbn_of {fd : FuncData} {ps ks : List Str} {n : Nat} (h : ∀ us ws : List Value, us.length = n → ws.length = ks.length → bindArgs fd ⟨us, ks.zip ws⟩ = pure (ps.zip (us ++ ws))) : KBn K fd ps n ks (fun us ws => us ++ ws) (fun vs zs => vs ++ zs) :=
  ⟨fun s us ws _ h1 h2 => .of_eq (h us ws h1 h2), fun r1 r2 => r1.append r2⟩
end
section
variable {X : Cx}
/-- nothing is raised -/
theorem neverAt (σ : L2.St) : PassesAt (L2.CX X.prog X.w) X σ ((fun _ => E0) σ) := by
  rintro pins H s e s' I ⟨a, B, H', cls, d, _, _, _, _, _, _, _, no⟩
  exact no.elim
theorem runX {k : Nat} {f : Addr} {fd : FuncData} {ps : List Str} {sp : Sp} {E : L2.St → XK} {args : Args} {pins : List (Addr × Obj)} {σ : L2.St} {H : Hp} {s : Shared} {Q : VK} {us : List Value} {vs : List V}
    (F : FnG X.prog X.w X.K X.mg X.base (L2.CX X.prog X.w) k f fd ps sp) (g : Gd X.A) (room : Room k X.A) (hb : BindsTo s fd args (ps.zip us)) (hx : PassesAt (L2.CX X.prog X.w) X σ (E σ))
    (I : Inv X pins σ H s) (r : Vals vs us) (want : sp vs H Q (E σ)) : wpAny (model X.prog X.w) X.A (call (.ref f) args.pos args.kw) (EP X pins σ Q) X.xe s := by
  have hc := F.run X.A X.stack s H args us vs Q (E σ) g room I.env0 hb r want
  refine wpAny_call (codeAny_mono hc ?_)
  intro res s' hres
  match res, hres with
  | .error e, hres => exact hx pins H s e s' I hres
  | .ok (.ret u), hres => exact I.after hres
def tClX (sp : Sp) (E : L2.St → XK) (t : TA) : TE := fun σ H Q => t σ H fun vs H1 => sp vs H1 Q (E σ)
theorem pe_calX {x : Str} {ps : List Str} {sp : Sp} {k : Nat} {e : Expr} {es : List Expr} {t : TA} {E : L2.St → XK} {p pos : Pos} (c : CalX X.prog X.w X.K X.mg X.base k x ps sp) (g : Gd X.A) (room : Room k X.A) (hg : Gl X x) (hx : ∀ σ, PassesAt (L2.CX X.prog X.w) X σ (E σ)) (h : PA X (e :: es) t)
    (hdb : (x == ("__debug__" : Str)) = false := by decide) (hst : starEach (e :: es) X.env = (false, eval e X.env) :: starEach es X.env := by rfl) (hpl : (backTo pos (starEach es X.env)).any (·.1) = false := by rfl) :
    PE X (.Call (.Name x p) (e :: es) [] pos) (tClX sp E t) := by
  obtain ⟨f, fd, F, kp, b, hm⟩ := c
  refine ⟨fun pins s σ H Q I want => wpAny_Call_Name_kw (ld_glob I hg hm ?_ hdb)⟩
  refine PySem.W.callWith_K (h₀ := X.base) I.ok.mod.kin kp (thn (h.run pos pins s σ H _ I want) fun us s1 ⟨vs, H1, I1, r, q⟩ => ⟨I1.kIn, ?_⟩) hst hpl
  have hl : us.length = ps.length := r.length.symm.trans (F.len _ _ _ _ q)
  have b1 := b s1 us I1.kIn (by rw [List.append_nil]; exact hl)
  rw [List.append_nil] at b1
  exact runX (args := ⟨us, []⟩) F g room b1 (hx σ) I1 r q
def tClK (n m : Nat) (sp : Sp) (gV : List V → List V → List V) (E : L2.St → XK) (t tk : TA) : TE := fun σ H Q => t σ H fun vs H1 => tk σ H1 fun zs H2 => vs.length = n ∧ zs.length = m ∧ sp (gV vs zs) H2 Q (E σ)
theorem pe_calK {x : Str} {ps ks : List Str} {n : Nat} {gV : List V → List V → List V} {sp : Sp} {k : Nat} {e : Expr} {es : List Expr} {kws : List Keyword} {t tk : TA} {E : L2.St → XK} {p pos : Pos} (c : CalK X.prog X.w X.K X.mg X.base k x ps n ks gV sp) (g : Gd X.A) (room : Room k X.A) (hg : Gl X x)
    (hx : ∀ σ, PassesAt (L2.CX X.prog X.w) X σ (E σ)) (h : PA X (e :: es) t) (hk : PK X kws tk) (hall : (backToKw pos (keywordEach kws X.env)).all (·.1.isSome) = true := by rfl) (hks : (backToKw pos (keywordEach kws X.env)).filterMap (·.1) = ks := by rfl)
    (hdb : (x == ("__debug__" : Str)) = false := by decide) (hst : starEach (e :: es) X.env = (false, eval e X.env) :: starEach es X.env := by rfl)
    (hpl : ((backTo pos (starEach (e :: es) X.env)).any (·.1) || (backToKw pos (keywordEach kws X.env)).any (·.1.isNone)) = false := by rfl) :
    PE X (.Call (.Name x p) (e :: es) kws pos) (tClK n ks.length sp gV E t tk) := by
  obtain ⟨f, fd, gg, F, kp, b, hm⟩ := c
  refine ⟨fun pins s σ H Q I want => wpAny_Call_Name_kw (ld_glob I hg hm ?_ hdb)⟩
  refine PySem.W.callWith_KW (h₀ := X.base) I.ok.mod.kin kp hall (thn (h.run pos pins s σ H _ I want) ?_) hpl hst
  rintro us s1 ⟨vs, H1, I1, r, q⟩
  refine thn (hk.run pos pins s1 σ H1 _ I1 q) ?_
  rintro ws s2 ⟨zs, H2, I2, rz, l1, l2, q2⟩
  refine ⟨I2.kIn, ?_⟩
  rw [hks]
  exact runX (args := ⟨us, ks.zip ws⟩) F g room (b.to s2 us ws I2.kIn (r.length.symm.trans l1) (rz.length.symm.trans l2)) (hx σ) I2 (b.rel r rz) q2
end
end Gx

set_option maxRecDepth 100000
set_option maxHeartbeats 4000000
namespace Mx
open PySem PySem.Spec PyProof.Rows L2 Gx
/-! ### names: the mathematics -/
def isLow (c : Nat) : Bool := decide (97 ≤ c ∧ c ≤ 122)
/-- whether a text is a name -/
def nameB (z : Str) : Bool := (decide (1 ≤ z.cps.size) && decide (z.cps.size ≤ 8)) && z.cps.toList.all isLow
theorem low_facts : ∀ c, c < 128 → (isLow c = true → Unicode.isAlpha c = true ∧ Unicode.isLower c = true ∧ Unicode.isUpper c = false ∧ Unicode.isTitle c = false) ∧ (Unicode.isAlpha c = true → Unicode.isUpper c = false → isLow c = true) := by decide +kernel
theorem isLow_lt {c : Nat} (h : isLow c = true) : c < 128 := by
  have := of_decide_eq_true h
  omega
/-- what is_name reckons of a text -/
theorem name_by (z : Str) (h1 : 1 ≤ z.cps.size) : (Txt.isascii z && (Txt.isalpha z && Txt.islower z)) = z.cps.toList.all isLow := by
  have hl : z.length = z.cps.size := rfl
  unfold Txt.isascii Txt.isalpha Txt.islower
  rw [Bool.eq_iff_iff]
  simp only [Bool.and_eq_true, Array.all_eq_true', Array.any_eq_true', List.all_eq_true, decide_eq_true_eq, Bool.not_eq_true', Array.any_eq_false', Bool.or_eq_true, not_or, Bool.not_eq_true, Array.mem_toList_iff, hl]
  constructor
  · rintro ⟨ha, ⟨_, hb⟩, _, hd⟩ c hc
    exact (low_facts c (ha c hc)).2 (hb c hc) (hd c hc).1
  · intro h
    have f := fun c hc => (low_facts c (isLow_lt (h c hc))).1 (h c hc)
    refine ⟨fun c hc => isLow_lt (h c hc), ⟨h1, fun c hc => (f c hc).1⟩, ⟨z.cps[0], Array.getElem_mem (by omega), (f _ (Array.getElem_mem (by omega))).2.1⟩, fun c hc => ⟨(f c hc).2.2.1, (f c hc).2.2.2⟩⟩
/-! ### counts -/
def abcL : List Nat := [97,98,99,100,101,102,103,104,105,106,107,108,109,110,111,112,113,114,115,116,117,118,119,120,121,122]
theorem count_cnt (x : Str) (c : Nat) : Txt.count x ⟨#[c]⟩ = cnt c x.cps.toList := count_is x c
theorem one_sum (n : Nat) : ∀ L : List Nat, L.Nodup → (L.map fun c => if n = c then (1 : Int) else 0).sum = if n ∈ L then 1 else 0
  | [], _ => rfl
  | a :: L, h => by
    obtain ⟨h1, h2⟩ := List.nodup_cons.mp h
    rw [List.map_cons, List.sum_cons, one_sum n L h2]
    by_cases e : n = a
    · subst e
      rw [if_pos rfl, if_neg h1, if_pos (List.mem_cons_self ..)]
      rfl
    · rw [if_neg e]
      by_cases m : n ∈ L
      · rw [if_pos m, if_pos (List.mem_cons_of_mem _ m)]; rfl
      · rw [if_neg m, if_neg (by
          rw [List.mem_cons]
          rintro (z | z)
          · exact e z
          · exact m z)]; rfl
theorem cnt_sum (L : List Nat) (hL : L.Nodup) : ∀ l : List Nat, (L.map fun c => cnt c l).sum = (l.countP (fun n => decide (n ∈ L)) : Nat)
  | [] => by
    have : ∀ L : List Nat, (L.map fun c => cnt c []).sum = 0 := fun L => by
      induction L with
      | nil => rfl
      | cons a L ih => rw [List.map_cons, List.sum_cons, ih]; rfl
    rw [this]
    rfl
  | n :: r => by
    have h : ∀ L : List Nat, (L.map fun c => cnt c (n :: r)).sum = (L.map fun c => if n = c then (1 : Int) else 0).sum + (L.map fun c => cnt c r).sum := fun L => by
      induction L with
      | nil => rfl
      | cons a L ih => rw [List.map_cons, List.sum_cons, ih, cnt_cons, List.map_cons, List.sum_cons, List.map_cons, List.sum_cons]; omega
    rw [h, one_sum n L hL, cnt_sum L hL r, List.countP_cons]
    by_cases m : n ∈ L
    · rw [if_pos m, if_pos (decide_eq_true m)]; omega
    · rw [if_neg m, if_neg (by rw [decide_eq_false m]; decide)]; omega
theorem mem_abc (n : Nat) : n ∈ abcL ↔ isLow n = true := by
  unfold isLow
  rw [decide_eq_true_eq]
  constructor
  · intro h
    have : ∀ n ∈ abcL, 97 ≤ n ∧ n ≤ 122 := by decide
    exact this n h
  · intro h
    have : ∀ n, n < 123 → 97 ≤ n → n ∈ abcL := by decide
    exact this n (by omega) h.1
/-- all letters' counts together -/
def known (z : Str) (L : List Nat) : Int := (L.map fun c => Txt.count z ⟨#[c]⟩).sum
theorem known_eq (z : Str) : known z abcL = (z.cps.toList.countP isLow : Nat) := by
  unfold known
  have e : (abcL.map fun c => Txt.count z ⟨#[c]⟩) = abcL.map fun c => cnt c z.cps.toList := List.map_congr_left fun c _ => count_cnt z c
  rw [e, cnt_sum abcL (by decide)]
  congr 2
  funext n
  rw [Bool.eq_iff_iff, decide_eq_true_eq, mem_abc]
theorem due_eq (z : Str) : (decide (known z abcL = (z.cps.size : Int)) && (decide ((0 : Int) < known z abcL) && decide (known z abcL < 9))) = nameB z := by
  rw [known_eq]
  unfold nameB
  have hz : z.cps.size = z.cps.toList.length := by simp
  have hle := List.countP_le_length (p := isLow) (l := z.cps.toList)
  by_cases h : z.cps.toList.countP isLow = z.cps.toList.length
  · have ha : z.cps.toList.all isLow = true := by
      rw [List.all_eq_true]
      exact List.countP_eq_length.mp h
    rw [ha, h, hz]
    generalize z.cps.toList.length = n
    rw [Bool.and_true, decide_eq_true (show (n : Int) = (n : Int) from rfl), Bool.true_and]
    have e1 : decide ((0 : Int) < (n : Int)) = decide (1 ≤ n) := decide_eq_decide.mpr (by omega)
    have e2 : decide ((n : Int) < 9) = decide (n ≤ 8) := decide_eq_decide.mpr (by omega)
    rw [e1, e2]
  · have ha : z.cps.toList.all isLow = false := by
      rw [Bool.eq_false_iff]
      intro q
      rw [List.all_eq_true] at q
      exact h (List.countP_eq_length.mpr q)
    rw [ha, Bool.and_false, decide_eq_false (by omega), Bool.false_and]
theorem known_step (z : Str) {L : List Nat} {i c : Nat} (h : L[i]? = some c) : known z (L.take (i + 1)) = known z (L.take i) + Txt.count z ⟨#[c]⟩ := by
  unfold known
  have e : (L.map fun c => Txt.count z ⟨#[c]⟩)[i]? = some (Txt.count z ⟨#[c]⟩) := by rw [List.getElem?_map, h]; rfl
  rw [List.map_take, List.map_take, sum_take e]
end Mx

set_option maxRecDepth 100000
set_option maxHeartbeats 4000000
namespace Mx
open PySem PySem.Spec PyProof.Rows L2 Gx
/-! ### the order of texts -/
/-- a is not behind b -/
def leS (a b : Str) : Prop := ¬ b.cps.toList < a.cps.toList
theorem leS_iff (a b : Str) : leS a b ↔ ltCps b.cps.toList a.cps.toList = false := by
  rw [ltCps_eq, decide_eq_false_iff_not]
  exact Iff.rfl
theorem leS_anti {a b : Str} (h1 : leS a b) (h2 : leS b a) : a = b := by
  have e : a.cps.toList = b.cps.toList := List.le_antisymm (as := a.cps.toList) (bs := b.cps.toList) h1 h2
  cases a
  cases b
  simp only [Str.mk.injEq]
  exact Array.toList_inj.mp e
theorem leS_refl (a : Str) : leS a a := List.lt_irrefl _
theorem leS_trans {a b c : Str} (h1 : leS a b) (h2 : leS b c) : leS a c :=
  List.le_trans (l₁ := a.cps.toList) (l₂ := b.cps.toList) (l₃ := c.cps.toList) h1 h2
theorem leS_total (a b : Str) : leS a b ∨ leS b a := List.le_total a.cps.toList b.cps.toList
theorem risingS_iff : ∀ (l : List Str) (p : Str), risingS p l = true ↔ (p :: l).Pairwise leS
  | [], p => by simp [risingS]
  | x :: r, p => by
    rw [risingS, Bool.and_eq_true, risingS_iff r x, Bool.not_eq_true', ← leS_iff]
    constructor
    · rintro ⟨h1, h2⟩
      refine List.pairwise_cons.mpr ⟨fun y hy => ?_, h2⟩
      rcases List.mem_cons.mp hy with rfl | hy
      · exact h1
      · exact leS_trans h1 ((List.pairwise_cons.mp h2).1 y hy)
    · intro h
      obtain ⟨h1, h2⟩ := List.pairwise_cons.mp h
      exact ⟨h1 x (List.mem_cons_self ..), h2⟩
theorem sortedS_iff (l : List Str) : sortedS l = true ↔ l.Pairwise leS := by
  cases l with
  | nil => simp [sortedS]
  | cons x r => exact risingS_iff r x
theorem sortedS_unique {l m : List Str} (h : l.Perm m) (hl : sortedS l = true) (hm : sortedS m = true) : l = m :=
  List.Perm.eq_of_pairwise (fun _ _ _ _ => leS_anti) ((sortedS_iff l).mp hl) ((sortedS_iff m).mp hm) h
/-- a list of texts is what sorting makes of it just if it is sorted -/
theorem eq_sorted_iff {l m : List Str} (h : m.Perm l) (hm : sortedS m = true) : decide (l = m) = sortedS l := by
  cases e : sortedS l with
  | true => exact decide_eq_true (sortedS_unique h.symm e hm)
  | false => exact decide_eq_false fun q => by rw [q, hm] at e; cases e
/-! ### data of texts -/
def tD (xs : List Str) : List PyData := xs.map PyData.str
theorem eqv_texts : ∀ xs ys : List Str, PyData.eqvAll (tD xs) (tD ys) = decide (xs = ys)
  | [], [] => by simp [tD, PyData.eqvAll]
  | [], y :: ys => by simp [tD, PyData.eqvAll]
  | x :: xs, [] => by simp [tD, PyData.eqvAll]
  | x :: xs, y :: ys => by
    have ih := eqv_texts xs ys
    unfold tD at ih ⊢
    rw [List.map_cons, List.map_cons, PyData.eqvAll, ih, PyData.eqv]
    by_cases h : x = y
    · subst h
      by_cases h2 : xs = ys
      · subst h2
        simp
      · rw [decide_eq_false h2, Bool.and_false, decide_eq_false fun q => h2 (List.cons.inj q).2]
    · rw [decide_eq_false fun q => h (List.cons.inj q).1, beq_eq_false_iff_ne.mpr h, Bool.false_and]
theorem dp_texts {K : PySem.W.Frag} {H : Hp} : ∀ xs : List Str, DpAll K H (xs.map V.str) (tD xs)
  | [] => .nil
  | x :: xs => .cons (.str x) (dp_texts xs)
theorem canLay_texts : ∀ xs : List Str, (∀ x ∈ xs, PyData.strOk x = true) → PyData.canLayAll0 (tD xs) = true
  | [], _ => by simp [tD, PyData.canLayAll0]
  | x :: xs, h => by
    have ih := canLay_texts xs fun y hy => h y (List.mem_cons_of_mem _ hy)
    unfold tD at ih ⊢
    rw [List.map_cons, PyData.canLayAll0, ih, PyData.canLay0, h x (List.mem_cons_self ..)]
    rfl
theorem depth_texts : ∀ xs : List Str, PyData.depthAll (tD xs) ≤ 1
  | [] => by simp [tD, PyData.depthAll]
  | x :: xs => by
    have ih := depth_texts xs
    unfold tD at ih ⊢
    rw [List.map_cons, PyData.depthAll]
    simp only [PyData.depth]
    omega
theorem shaped_texts {xs : List Str} (h : ∀ x ∈ xs, PyData.strOk x = true) : SeqAt.shaped (.list (tD xs)) = true := by
  unfold SeqAt.shaped
  rw [Bool.and_eq_true]
  refine ⟨by simp only [PyData.canLay0]; exact canLay_texts xs h, decide_eq_true ?_⟩
  have := depth_texts xs
  simp only [PyData.depth]
  omega
theorem shaped_textsT {xs : List Str} (h : ∀ x ∈ xs, PyData.strOk x = true) : SeqAt.shaped (.tuple (tD xs)) = true := by
  unfold SeqAt.shaped
  rw [Bool.and_eq_true]
  refine ⟨by simp only [PyData.canLay0]; exact canLay_texts xs h, decide_eq_true ?_⟩
  have := depth_texts xs
  simp only [PyData.depth]
  omega
end Mx

set_option maxRecDepth 100000
set_option maxHeartbeats 4000000
namespace Gx
open PySem PySem.Spec PyProof.Rows L2 SeqAt
open AutoSeq1 (wpAny_loadPart')
/-! ### a dict is no tuple -/
theorem tup_eq_dict (l b : Addr) (items : Array Value) (n : Nat) (dd dd2 : Option Addr) (sl sl2 : Array (Option Value)) (d2 : Data) :
    Meets (Builtin.«tuple.__eq__» ⟨[.ref l, .ref b], []⟩) (fun _ R s => s.heap.get? l = some { cls := .type "tuple", dict := dd, data := .seq items n, slots := sl } ∧ s.heap.get? b = some { cls := .type "dict", dict := dd2, data := d2, slots := sl2 } ∧ R (.ok (.ret .notImplemented)) s) :=
  .of_wp fun prog w A R s h => by obtain ⟨hp, g, d, tk, os⟩ := s; obtain ⟨hl, hb, h⟩ := h; have f1 := F.sub_dict_tuple; wp_walk using wpAny_loadPart' hl, wpAny_loadPart' hb; exact ⟨_, rfl, h⟩
theorem dict_eq_tup {prog : Program} {w : World} {A : Around} {E : Value → Shared → Prop} {s : Shared} {Q : Value → Shared → Prop} {a b : Addr} (da : s.TypeIs (.ref a) "dict") (hb : s.TypeIs (.ref b) "tuple") (h : Q .notImplemented s) :
    wpAny (model prog w) A (call (.builtin "dict.__eq__") [.ref a, .ref b]) Q E s := by
  refine wpAny_call_entry PySem.F.slot_dict_eq da PySem.F.entry_dict_eq ?_ (PySem.F.args_dict_eq_2 _ _)
  show wpAny _ _ (Builtin.Dict.dictSlotArgs "__eq__" ⟨[.ref a, .ref b], []⟩ >>= _) _ _ s
  refine wpAny_bind ?_
  unfold Builtin.Dict.dictSlotArgs
  refine wpAny_bind (wpAny_notOrdered_dict da ?_)
  show wpAny _ _ (pure (Value.ref a, Value.ref b)) _ _ s
  refine wpAny_pure ?_
  refine wpAny_bind (wpAny_isInstance (T := "tuple") hb PySem.F.sub_tuple_dict ?_)
  simp only [Bool.not_false, if_true]
  exact wpAny_bind (wpAny_rule (wpAny_bind (wpAny_pure (wpAny_pure ⟨_, rfl, h⟩))))
section
variable {A : Around} {s : Shared}
theorem eqAt_tup_dict {l b : Addr} {items : Array Value} {ob : Obj} (hl : s.heap.IsTuple l items) (hb : s.heap.get? b = some ob) (hcb : ob.cls = .type "dict") (hu : A.units < cLine) : EqAt A s (.ref l) (.ref b) false := by
  obtain ⟨⟨cls, dd, data, sl⟩, ho, hc, n, hd⟩ := id hl
  simp only at hc hd
  subst hc hd
  obtain ⟨cls2, dd2, data2, sl2⟩ := ob
  simp only at hcb
  subst hcb
  have hne : l ≠ b := fun e => by
    subst e
    rw [ho] at hb
    exact absurd (congrArg Obj.cls (Option.some.inj hb)) (by simp)
  refine .of_refs hne fun prog w E Q h => ?_
  exact rc_eq_decline_or (k := false) ⟨_, ho, rfl⟩ ⟨_, hb, rfl⟩ (by decide) F.sub_dict_tuple F.slot_tuple_eq F.slot_dict_eq_refl
    (fun _ hq => call_meets F.slot_tuple_eq ⟨_, ho, rfl⟩ F.entry_tuple_eq (F.args_tuple_eq_2 _ _) (tup_eq_dict l b items n dd dd2 sl sl2 data2) ⟨ho, hb, hq⟩)
    (fun _ hq => dict_eq_tup ⟨_, hb, rfl⟩ ⟨_, ho, rfl⟩ hq)
    (fun _ hq => wpAny_isSame_ref_other' hne ho hb (by simp) hq) (.inr hu) h
end
section
variable {X : Cx}
/-- x in a list, data that are not deep -/
def rInF (K : PySem.W.Frag) : R2 := fun x y H Q => ∃ d ds, Dp K H x d ∧ Dp K H y (.list ds) ∧ d.canLay0 = true ∧ PyData.canLayAll0 ds = true ∧ d.depth ≤ 10 ∧ Q (.bl (ds.any fun z => PyData.eqv z d)) H
theorem op_inF (hu : X.A.units + 64 < cLine) : OpR X (compareOp .In) (rInF X.K) := by
  intro pins s σ H x y v u Q I rx ry h
  obtain ⟨d, ds, hd, he, sd, se, dp, q⟩ := h
  obtain ⟨as, r1⟩ := Dp.reads I d x v hd rx
  obtain ⟨bs, r2⟩ := Dp.reads I (.list ds) y u he ry
  exact SeqAt.in_list_reads r2 r1 se sd (by omega) ⟨.bl _, H, I, rfl, q⟩
/-- a dict in a list of tuples: it is not in it -/
def rInDict (K : PySem.W.Frag) : R2 := fun x y H Q => ∃ (a l : Addr) (kvs : List (Key × V)) (ps : List Addr), x = .ref a ∧ H a = some (.dK kvs) ∧ y = .ref l ∧ SqL K H l (ps.map V.ref) ∧ (∀ p ∈ ps, ∃ xs, SqT K H p xs) ∧ Q (.bl false) H
theorem op_inDict (hu : X.A.units + 64 < cLine) : OpR X (compareOp .In) (rInDict X.K) := by
  intro pins s σ H x y v u Q I rx ry h
  obtain ⟨a, l, kvs, ps, rfl, ea, rfl, hl, hp, q⟩ := h
  cases rx
  cases ry
  obtain ⟨its, rv, pl, hz⟩ := I.list hl
  have ei := refs_at rv
  subst ei
  obtain ⟨_, _, vs, _, hd⟩ := dk_of I.hok ea
  obtain ⟨ob, hb, hD⟩ := Heap.dictOf_iff.mp hd
  have hcb : ob.cls = .type "dict" := by
    obtain ⟨es, ep, ex, _⟩ := hD
    exact ex.1
  refine SeqAt.in_listAt (fun _ => false) pl.isList (fun y hy => ?_) ⟨.bl false, H, I, ?_, q⟩
  · rw [List.mem_toArray] at hy
    obtain ⟨p, hpm, rfl⟩ := List.mem_map.mp hy
    obtain ⟨xs, hx⟩ := hp p hpm
    obtain ⟨its2, _, ht, _⟩ := I.tuple hx
    exact eqAt_tup_dict ht hb hcb (by show X.A.units + 1 < cLine; omega)
  · show Value.bool _ = Value.bool false
    rw [Array.any_eq_false' |>.mpr (fun _ _ => by simp)]
end
end Gx

set_option maxRecDepth 100000
set_option maxHeartbeats 4000000
/-! own errors over a built-in error that takes another's maker (KeyError takes LookupError's) -/
namespace Gx
open PySem PySem.Spec PySem.Calls Builtin
/-- what making asks of the chain -/
structure Chn (B : String) (bm : List Value) : Prop where
  own : bm.contains (.type B) = true
  att : bm.contains (.type "AttributeError") = false
  nam : bm.contains (.type "NameError") = false
section
variable {M : Model} {prog : Program} {w : World} {A : Around} {E : Value → Shared → Prop} {R : Result → Shared → Prop} {hp : Heap} {gn : Array GenState} {dr : Drawn} {tk : Nat} {os : OsState}
variable {nm q : Str} {C N : Addr} {bs bm bmB : List Value} {hdct : Bool} {sn : List Str} {sub : List Value} {ab : Bool} {col : Option Bool} {dd : Option Addr} {k0 k1 k2 k3 k5 : Option Value} {B mk ini : String}
theorem kx_check (F : ExcBaseFacts B mk ini bmB) (ch : Chn B bm) {us : List Value} {Q : Unit → Shared → Prop} (cc : hp.get? C = some (excClassObj nm q C N bs bm hdct sn sub ab col dd k0 k1 k2 k3 k5 mk)) (hq : Q () ⟨hp, gn, dr, tk, os⟩) :
    wpAny M A (checkBuiltinCall mk ⟨.ref C :: us, []⟩) Q E ⟨hp, gn, dr, tk, os⟩ := by
  have c1 : (Value.ref C :: bm).contains (.type B) = true := by rw [List.contains_cons, ch.own, Bool.or_true]
  have st := F.noStar
  simp only [F.newRow, F.newSplit, F.newKind, checkBuiltinCall]
  repeat (first | refine wpAny_loadPart_at cc ?_ | (refine wpAny_isSubtype_exc cc ?_; rw [c1]) | refine wpAny_staticBase_exc cc ?_ | refine wpAny_madeBy_exc cc ?_ | simp only [bne_self_eq_false, Bool.false_eq_true, if_false] | wp_step)
  exact hq
theorem kx_new (F : ExcBaseFacts B mk ini bmB) (ch : Chn B bm) {us : List Value} (cc : hp.get? C = some (excClassObj nm q C N bs bm hdct sn sub ab col dd k0 k1 k2 k3 k5 mk))
    (hq : R (.ok (.ret (.ref (hp.objs.size + 1)))) ⟨(hp.push (W.kdv_tup us)).push (W.excObj C hp.objs.size none .none), gn, dr, tk, os⟩) (hz : us.length ≤ sizeLine) :
    codeAny (model prog w) A (.builtin mk ⟨.ref C :: us, []⟩) R ⟨hp, gn, dr, tk, os⟩ := by
  have fe := F.ends
  have c1 : (Value.ref C :: bm).contains (.type B) = true := by rw [List.contains_cons, ch.own, Bool.or_true]
  have c2 : (Value.ref C :: bm).contains (.type "AttributeError") = false := by rw [List.contains_cons, ch.att]; rfl
  have c3 : (Value.ref C :: bm).contains (.type "NameError") = false := by rw [List.contains_cons, ch.nam]; rfl
  refine codeAny_builtinAt F.entry ?_
  unfold Builtin.«BaseException.__new__»
  refine wpAt_bind ?_
  show wpAt _ _ _ (stack >>= _) _ _ _
  refine wpAt_bind (wpAt_stack fun p0 low => wpAt_of_wpAny ?_)
  wp_walk
  refine wpAt_of_wpAny ?_
  rw [F.owner]
  repeat (first | with_reducible refine wpAny_madeHere_exc F.canon cc ?_ | with_reducible refine wpAny_loadPart_at cc ?_ | (with_reducible refine wpAny_isSubtype_exc cc ?_; first | rw [c1] | rw [c2] | rw [c3]) | wp_step)
  show R _ _
  rw [Heap.size_push]
  exact hq
theorem kx_type (F : ExcBaseFacts B mk ini bmB) (ch : Chn B bm) {us : List Value} {fI : Addr} {Q : Fin → Shared → Prop} (cc : hp.get? C = some (excClassObj nm q C N bs bm hdct sn sub ab col dd k0 k1 k2 k3 k5 mk))
    (li : W.Looks (model prog w) hp (typeLookup (.ref C) "__init__") (some (.ref fI))) (lb : ∀ o, W.Looks (model prog w) hp (bindSpecial (.ref fI) o) (.ref fI, [o])) (hz : us.length ≤ sizeLine)
    (hq : codeAny (model prog w) A (.call (.ref fI) ⟨.ref (hp.objs.size + 1) :: us, []⟩)
      (fun r s' => match r with | .ok (.ret v) => v = .none ∧ Q (.done (.ret (.ref (hp.objs.size + 1)))) s' | .ok _ => False | .error e => E e s')
      ⟨(hp.push (W.kdv_tup us)).push (W.excObj C hp.objs.size none .none), gn, dr, tk, os⟩) : wpAny (model prog w) A (Builtin.«type.__call__» ⟨.ref C :: us, []⟩) Q E ⟨hp, gn, dr, tk, os⟩ := by
  repeat (first | with_reducible refine wpAny_loadPart_at cc ?_ | with_reducible refine wpAny_madeBy_exc cc ?_ | wp_step)
  refine codeAny_call_builtin_code (Code.quiet_builtin _ F.quiet) (kx_check F ch cc ?_)
  refine kx_new F ch cc ?_ hz
  show wpAny _ _ _ _ _ _
  have old : ∀ b o, hp.get? b = some o → ((hp.push (W.kdv_tup us)).push (W.excObj C hp.objs.size none .none)).get? b = some o := fun b o e => Heap.get?_push_of_some _ (Heap.get?_push_of_some _ e)
  have cc1 := old _ _ cc
  have ne : ((hp.push (W.kdv_tup us)).push (W.excObj C hp.objs.size none .none)).get? (hp.objs.size + 1) = some (W.excObj C hp.objs.size none .none) := by heap_get
  have cs : (Value.ref C :: bm).contains (.ref C) = true := by simp
  have li1 := li.keeps old
  have lb1 := (lb (.ref (hp.objs.size + 1))).keeps old
  unfold isInstance
  repeat (first | with_reducible refine wpAny_loadPart_at ne ?_ | (with_reducible refine wpAny_isSubtype_exc cc1 ?_; rw [cs]) | wp_step)
  show wpAny _ _ (typeLookup (.ref C) _) _ _ _
  refine li1.at ?_
  refine wpAny_holding (wpAny_bind (lb1.at ?_))
  refine wpAny_bind (wpAny_call (codeAny_mono hq fun r s1 z => ?_))
  rcases r with e | (v | _ | _ | _) <;> first | exact z | exact z.elim | skip
  obtain ⟨rfl, z⟩ := z
  first | exact wpAny_pure (wpAny_pure z) | (wp_walk; exact z)
theorem kx_call (F : ExcBaseFacts B mk ini bmB) (ch : Chn B bm) {us : List Value} {fI : Addr} (cc : hp.get? C = some (excClassObj nm q C N bs bm hdct sn sub ab col dd k0 k1 k2 k3 k5 mk))
    (li : W.Looks (model prog w) hp (typeLookup (.ref C) "__init__") (some (.ref fI))) (lb : ∀ o, W.Looks (model prog w) hp (bindSpecial (.ref fI) o) (.ref fI, [o])) (hz : us.length ≤ sizeLine)
    (hq : codeAny (model prog w) (A.under (.builtin "type.__call__" ⟨.ref C :: us, []⟩)) (.call (.ref fI) ⟨.ref (hp.objs.size + 1) :: us, []⟩) (W.InitBack (hp.objs.size + 1) R)
      ⟨(hp.push (W.kdv_tup us)).push (W.excObj C hp.objs.size none .none), gn, dr, tk, os⟩) : codeAny (model prog w) A (.call (.ref C) ⟨us, []⟩) R ⟨hp, gn, dr, tk, os⟩ := by
  have t1 := tc_lookup
  have t2 := tc_bind (.ref C)
  have t3 : (⟨hp, gn, dr, tk, os⟩ : Shared).TypeIs (.ref C) "type" := ⟨_, cc, rfl⟩
  refine codeAny_of_tree ?_
  show wpAny _ _ (callAny (.ref C) _) _ _ _
  repeat (any_goals (first | assumption | with_reducible refine wpAny_loadPart_at cc ?_ | wp_step))
  refine ⟨rfl, ?_⟩
  refine codeAny_call_builtin_at (Code.quiet_builtin _ (by decide +kernel)) entry_typeCall (wpAny_check_type_call_sub cc (kx_type F ch cc li lb hz ?_))
  refine codeAny_mono hq fun r s1 z => ?_
  rcases r with e | (v | _ | _ | _) <;> exact z
end
end Gx
namespace Gx
open PySem PySem.Spec PySem.W PySem.Calls PyProof.Rows L2
/-! ### own errors with one field, made, over any base -/
/-- a base: the maker's facts, and what each chain over it holds -/
structure XBase (B mk ini : String) (bmF bmB : List Value) : Prop where
  F : ExcBaseFacts B mk ini bmF
  ch : ∀ bm : List Value, excTail bmB bm = true → Chn B bm
theorem xbase_of {B mk ini : String} {bmB : List Value} (F : ExcBaseFacts B mk ini bmB) : XBase B mk ini bmB bmB :=
  ⟨F, fun bm t => ⟨by rw [excTail_contains _ bm t]; exact F.hasB, by rw [excTail_contains _ bm t]; exact F.noAttr, by rw [excTail_contains _ bm t]; exact F.noName⟩⟩
abbrev bmKey : List Value := [.type "KeyError", .type "LookupError", .type "Exception", .type "BaseException", .type "object"]
theorem xbase_KeyError : XBase "LookupError" "LookupError.__new__" "LookupError.__init__" [.type "LookupError", .type "Exception", .type "BaseException", .type "object"] bmKey :=
  ⟨PySem.F.excBase_LookupError, fun bm t => ⟨by rw [excTail_contains _ bm t]; decide +kernel, by rw [excTail_contains _ bm t]; decide +kernel, by rw [excTail_contains _ bm t]; decide +kernel⟩⟩
section
variable {prog : Program} {w : World} {A : Around} {R : Result → Shared → Prop} {s : Shared} {K : Frag} {mg : Str → Option Value} {C fI : Addr} {cn fld : Str} {B mk ini : String} {bmF bmB : List Value}
theorem x_madeC (FB : XBase B mk ini bmF bmB) (T : XTxt K mg cn fld mk bmB C fI) (D : InitDoes K C fI fld) {v : Value} (inK : K.In s.heap) (lim : s.heap.NoLimit) (room : A.depth + 1 < recursionLimit)
    (hq : ∀ h' tk e d, XMade s.heap h' e C d fld v → R (.ok (.ret (.ref e))) { s with heap := h', toks := tk }) : codeAny (model prog w) A (.call (.ref C) ⟨[v], []⟩) R s := by
  obtain ⟨nm, q, N, bs, bm, sn, sub, ab, col, dd, k0, k1, k2, k3, k5, hC, tail⟩ := T.cls
  obtain ⟨hp, g, dr, tk, os⟩ := s
  have stay : ∀ b o, hp.get? b = some o → ((hp.push (kdv_tup [v])).push (excObj C hp.objs.size none .none)).get? b = some o := fun b o e => Heap.get?_push_of_some _ (Heap.get?_push_of_some _ e)
  have there : ((hp.push (kdv_tup [v])).push (excObj C hp.objs.size none .none)).get? (hp.objs.size + 1) = some (excObj C hp.objs.size none .none) := by heap_get
  have fresh : K.lookup (hp.objs.size + 1) = none := by
    cases e : K.lookup (hp.objs.size + 1) with
    | none => rfl
    | some o => exact absurd (Nat.lt_of_succ_lt (Heap.lt_size (inK _ _ e))) (Nat.lt_irrefl _)
  refine kx_call FB.F (FB.ch bm tail) (inK _ _ hC) (looks_findIn inK T.iC) (fun self => bind_fn inK self T.tC) (one_line v) ?_
  refine D prog w _ _ ⟨(hp.push (kdv_tup [v])).push (excObj C hp.objs.size none .none), g, dr, tk, os⟩ _ _ v (inK.keeps stay) (lim.keeps stay) there fresh room fun h' tk' dx M => ?_
  have old : ∀ b o, hp.get? b = some o → h'.get? b = some o := fun b o e => M.keep b o (Nat.ne_of_lt (Nat.lt_succ_of_lt (Heap.lt_size e))) (stay b o e)
  have z : hp.objs.size + 1 + 1 ≤ dx := by
    have q := M.big
    first
      | exact q
      | simpa only [Heap.size_push] using q
  exact ⟨rfl, hq h' tk' (hp.objs.size + 1) dx ⟨old, Nat.le_succ _, ⟨_, _, M.obj, rfl, rfl, rfl, rfl⟩, Nat.le_trans (Nat.le_trans (Nat.le_succ _) (Nat.le_succ _)) z, M.ne, M.ns⟩⟩
end
/-! ### errors as values -/
/-- the error at e, of the class C, its dict at d -/
def ExV (C e : Addr) (d : Option Addr) : HO := .ext fun h => ∃ (oe : Obj) (vs : Array Value), h.get? e = some oe ∧ oe.cls = .ref C ∧ oe.dict = d ∧ oe.data = .fields vs
theorem exV_ok {P : Program} {w : World} {H : Hp} {h : Heap} {C e : Addr} {d : Option Addr} {oe : Obj} {vs : Array Value} (he : h.get? e = some oe) (hc : oe.cls = .ref C) (hd : oe.dict = d) (hf : oe.data = .fields vs) : ObjOk P w H h e (ExV C e d) :=
  ⟨⟨oe, vs, he, hc, hd, hf⟩, ⟨oe, he⟩, fun h1 h2 ⟨o, us, a, b, c, f⟩ k => ⟨o, us, k _ a, b, c, f⟩⟩
theorem exV_at {P : Program} {w : World} {H : Hp} {h : Heap} {C e : Addr} {d : Option Addr} (ok : HOk P w H h) (he : H e = some (ExV C e d)) : ∃ (oe : Obj) (vs : Array Value), h.get? e = some oe ∧ oe.cls = .ref C ∧ oe.dict = d ∧ oe.data = .fields vs :=
  (show ObjOk P w H h e (ExV C e d) from ok e _ he).1
section
variable {X : Cx} {C fI : Addr} {cn fld : Str} {B mk ini : String} {bmF bmB : List Value}
/-- cn(e), the error kept -/
def tMkV (C : Addr) (fld : Str) (ta : TA) : TE := fun σ H Q => ta σ H fun vs H1 => ∃ v, vs = [v] ∧ ∀ d e, H1 d = none → H1 e = none → e ≠ d → Q (.ref e) (upd (upd H1 d (.xd [(fld, v)])) e (ExV C e (some d)))
theorem pe_mkV {a : Expr} {ta : TA} {p pos : Pos} {k : Nat} (FB : XBase B mk ini bmF bmB) (T : XTxt X.K X.mg cn fld mk bmB C fI) (D : InitDoes X.K C fI fld) (room : Room k X.A) (ha : PA X [a] ta) (hg : Gl X cn)
    (hdb : (cn == ("__debug__" : Str)) = false := by decide) (hst : starEach (a :: []) X.env = (false, eval a X.env) :: starEach [] X.env := by rfl) (hpl : (backTo pos (starEach [] X.env)).any (·.1) = false := by rfl) :
    PE X (.Call (.Name cn p) [a] [] pos) (tMkV C fld ta) := by
  refine ⟨fun pins s σ H Q I h => ?_⟩
  refine wpAny_Call_Name_kw (ld_glob I hg T.gC ?_ hdb)
  refine PySem.W.callWith_K (h₀ := X.base) I.ok.mod.kin T.kC (thn (ha.run pos pins s σ H _ I h) ?_) hst hpl
  rintro us s1 ⟨vs, H1, I1, r1, v, rfl, q1⟩
  refine ⟨I1.kIn, ?_⟩
  obtain ⟨u, rfl, rv⟩ := vals1 r1
  show wpAny _ _ (call (.ref C) [u]) _ _ _
  have lim := I1.nolimit
  obtain ⟨hp, g, dr, tk, os⟩ := s1
  refine wpAny_call (x_madeC FB T D I1.kIn lim (by have := room.dp; omega) fun h' tk' e d M => ?_)
  obtain ⟨oe, fv, hoe, hc, hd, hdat, h1⟩ := M.obj
  obtain ⟨G', g1, g2⟩ := restrict h' fun b => decide (b ≠ e)
  have off : ∀ b, b ≠ e → G'.get? b = h'.get? b := fun b hb => g1 b (decide_eq_true hb)
  have gone : G'.get? e = none := g2 e (by simp)
  have old : ∀ b o, hp.get? b = some o → G'.get? b = some o := fun b o q => (off b (Nat.ne_of_lt (Nat.lt_of_lt_of_le (Heap.lt_size q) M.new))).trans (M.keep b o q)
  have ob : ObjOk X.prog X.w (upd H1 d (.xd [(fld, v)])) G' d (.xd [(fld, v)]) := ⟨_, M.ns.at (fun o q => (off d M.ne).trans q), fun f => relO_one rv f⟩
  have J : Inv X pins σ (upd H1 d (.xd [(fld, v)])) ⟨G', g, dr, tk', os⟩ := I1.laid (t' := tk') old M.big ob
  have ne0 : H1 e = none := I1.hok.fresh M.new
  have J2 := J.laidN (h' := h') (t' := tk') (o := ExV C e (some d)) (fun b o q => by
    by_cases hb : b = e
    · have q' : G'.get? b = some o := q
      rw [hb, gone] at q'
      cases q'
    · exact (off b hb).symm.trans q) gone (by rw [upd_ne (Ne.symm M.ne)]; exact ne0) (exV_ok hoe hc hd hdat)
  exact ⟨.ref e, _, J2, rfl, q1 d e (I1.hok.fresh M.big) ne0 (Ne.symm M.ne)⟩
end
end Gx

set_option maxRecDepth 100000
set_option maxHeartbeats 4000000
namespace Gx
open PySem PySem.Spec PySem.W PySem.Calls PyProof.Rows L2
/-! ### own errors without an __init__ of their own, as values -/
/-- what the written part says of such a class -/
structure XPln (K : Frag) (mg : Str → Option Value) (cn : Str) (mk ini : String) (bmB : List Value) (C : Addr) : Prop where
  gC : mg cn = some (.ref C)
  cls : ∃ nm q N bs bm hd sn sub ab col dd k0 k1 k2 k3 k5, K.lookup C = some (excClassObj nm q C N bs bm hd sn sub ab col dd k0 k1 k2 k3 k5 mk) ∧ excTail bmB bm = true
  iC : findIn K (.ref C) "__init__" = some (some (.builtin ini))
  kC : keepIn K (.ref C) = true
/-- .. of any own class of errors, for isinstance -/
structure XCls (K : Frag) (C : Addr) : Prop where
  isC : isClsIn K C = true
  ga : findIn K (.ref C) "__getattribute__" = some (some (.builtin "BaseException.__getattribute__"))
  gg : findIn K (.ref C) "__getattr__" = some none
  ex : subIn K (.ref C) (.type "BaseException") = some true
  cl : findIn K (.ref C) "__class__" = some (some (.builtin "object.__class__"))
  sp : specialIn K (.builtin "object.__class__") "__get__" = some (some (.builtin "getset_descriptor.__get__"))
  ta : takesIn K (.builtin "object.__class__") = some true
  ob : mroIn K C (.type "object") = some true
section
variable {X : Cx} {C : Addr} {cn : Str} {B mk ini : String} {bmB : List Value}
def tMkP (C : Addr) (ta : TA) : TE := fun σ H Q => ta σ H fun vs H1 => vs.length ≤ 1000 ∧ ∀ e, H1 e = none → Q (.ref e) (upd H1 e (ExV C e none))
theorem pe_mkP {a : Expr} {ta : TA} {p pos : Pos} (F : ExcBaseFacts B mk ini bmB) (T : XPln X.K X.mg cn mk ini bmB C) (ha : PA X [a] ta) (hg : Gl X cn)
    (hdb : (cn == ("__debug__" : Str)) = false := by decide) (hst : starEach (a :: []) X.env = (false, eval a X.env) :: starEach [] X.env := by rfl) (hpl : (backTo pos (starEach [] X.env)).any (·.1) = false := by rfl) :
    PE X (.Call (.Name cn p) [a] [] pos) (tMkP C ta) := by
  refine ⟨fun pins s σ H Q I h => ?_⟩
  refine wpAny_Call_Name_kw (ld_glob I hg T.gC ?_ hdb)
  refine PySem.W.callWith_K (h₀ := X.base) I.ok.mod.kin T.kC (thn (ha.run pos pins s σ H _ I h) ?_) hst hpl
  rintro us s1 ⟨vs, H1, I1, r1, hz, q1⟩
  refine ⟨I1.kIn, ?_⟩
  obtain ⟨nm, q, N, bs, bm, hd, sn, sub, ab, col, dd, k0, k1, k2, k3, k5, hC, tail⟩ := T.cls
  have hl : us.length ≤ sizeLine := by
    rw [← r1.length]
    exact Nat.le_trans hz (by decide)
  obtain ⟨hp, g, dr, tk, os⟩ := s1
  refine PySem.W.call_B F (fun Y => excTail_contains Y bm tail) (I1.kIn _ _ hC) (looks_findIn I1.kIn T.iC) hl fun h' k he ht => ?_
  have fr := I1.hok.fresh (Nat.le_succ hp.objs.size)
  exact ⟨.ref (hp.objs.size + 1), _, I1.laid (t' := tk) k (Nat.le_succ _) (exV_ok he rfl rfl rfl), rfl, q1 _ fr⟩
end
/-- the error at e stands, with its dict if it has one -/
def ExAt (H : Hp) (e C : Addr) (d : Option Addr) (fs : List (Str × V)) : Prop := H e = some (ExV C e d) ∧ ∀ dd, d = some dd → H dd = some (.xd fs)
section
variable {X : Cx} {pins : List (Addr × Obj)} {σ : L2.St} {H : Hp} {s : Shared}
theorem exAt_inst {e C : Addr} {d : Option Addr} {fs : List (Str × V)} (I : Inv X pins σ H s) (h : ExAt H e C d fs) : ∃ (oe : Obj) (od : Option Obj), PySem.W.InstAt s.heap e oe C od := by
  obtain ⟨h1, h2⟩ := h
  obtain ⟨oe, vs, he, hc, hd, hf⟩ := exV_at I.hok h1
  have nc : PySem.W.notCls oe = true := by unfold PySem.W.notCls; rw [hf] <;> rfl
  cases d with
  | none => exact ⟨oe, none, he, hc, nc, by rw [hd]; trivial⟩
  | some dd =>
    obtain ⟨mA, hns, _⟩ := (show ObjOk X.prog X.w H s.heap dd (.xd fs) from I.hok dd _ (h2 dd rfl))
    obtain ⟨od, ho, _⟩ := lookIn_ns hns
    exact ⟨oe, some od, he, hc, nc, by rw [hd]; exact ho⟩
end
/-- isinstance(e, c), e an own error -/
def rIsV (K : PySem.W.Frag) : List V → Hp → VK → Prop := fun xs H Q => ∃ (e C : Addr) (d : Option Addr) (fs : List (Str × V)) (c : V) (u : Value) (b : Bool), xs = [.ref e, c] ∧ ExAt H e C d fs ∧ XCls K C ∧ ClsV c u ∧ PySem.W.kitOne K (.ref C) u = some b ∧ Q (.bl b) H
section
variable {X : Cx}
theorem call_isV : CallR X (.builtin "isinstance") (rIsV X.K) := by
  intro pins s σ H xs us Q I r h
  obtain ⟨e, C, d, fs, c, u, b, rfl, hx, T, k, hb, q⟩ := h
  obtain ⟨u1, u2, rfl, r1, r2⟩ := vals2 r
  have e2 := k.eq r2
  subst e2
  cases (show u1 = Value.ref e from r1)
  obtain ⟨oe, od, J⟩ := exAt_inst I hx
  exact PySem.W.kia_one (PySem.W.kitx_exc (ox := oe) (od := od) T.isC T.ga T.gg T.ex T.cl T.sp T.ta T.ob) I.kIn J hb (fun z => nomatch z) fun tk => ⟨.bl b, H, I.tok tk, rfl, q⟩
/-- e.fld, e an own error with that field -/
def tGetV (C : Addr) (fld : Str) (te : TE) : TE := fun σ H Q => te σ H fun x H1 => ∃ (e dd : Addr) (v : V), x = .ref e ∧ ExAt H1 e C (some dd) [(fld, v)] ∧ Q v H1
theorem pe_getV {C fI : Addr} {cn fld : Str} {mk : String} {bmB : List Value} {e : Expr} {te : TE} {pos : Pos} (T : XTxt X.K X.mg cn fld mk bmB C fI) (he : PE X e te)
    (hb : attributeBase e fld X.env (eval e X.env) = eval e X.env := by rfl) : PE X (.Attribute e fld pos) (tGetV C fld te) := by
  constructor
  intro pins s σ H Q I h
  refine attr_of hb (thn (he.run pins s σ H _ I h) ?_)
  rintro u s1 ⟨x, H1, I1, rx, e1, dd, v, rfl, ⟨h1, h2⟩, q⟩
  obtain rfl : u = Value.ref e1 := rx
  obtain ⟨oe, vs, here, hc, hd, hf⟩ := exV_at I1.hok h1
  obtain ⟨mA, hns, hr⟩ := (show ObjOk X.prog X.w H1 s1.heap dd (.xd [(fld, v)]) from I1.hok dd _ (h2 dd rfl))
  obtain ⟨od, ho, hl⟩ := lookIn_ns hns
  have l : List.lookup fld [(fld, v)] = some v := by simp [List.lookup]
  have hrf := hr fld
  rw [l] at hrf
  obtain ⟨u, hu, ru⟩ := RelO.some_of (v := v) (o := mA fld) hrf
  have J : PySem.W.InstAt s1.heap e1 oe C (some od) := ⟨here, hc, by unfold PySem.W.notCls; rw [hf] <;> rfl, by rw [hd]; exact ho⟩
  exact HandSPX.exc_get I1.kIn J T.ga T.gg T.exC (PySem.W.findObj_own T.hdC T.noN rfl (by rw [hl, hu])) (handed_of ru) ⟨v, H1, I1.tok _, ru, q⟩
end
end Gx

set_option maxRecDepth 100000
set_option maxHeartbeats 4000000
namespace Gx
open PySem PySem.Spec PySem.W PySem.Calls PyProof.Rows L2
/-! ### stores over KeyError -/
theorem store_KeyErr : StoreFacts "KeyError" bmKey "object.__setattr__" "object" := by
  constructor
  case mro => kernel_rfl
  case slot => exact .of (owner := "object") (n := "__setattr__") (by rw [typeLookup_type, builtinLookup_eq_fast]; kernel_rfl) (by decide +kernel) (by decide +kernel) (by decide +kernel) (.inl (by decide +kernel)) (by rw [isSubtype_type]; kernel_rfl)
  case entry => exact PySem.F.store_LookupError.entry
  case kind => decide +kernel
  case split => decide +kernel
  case hasOwner => decide +kernel
  case args => exact fun a b c => PySem.F.store_LookupError.args a b c
  case passes => exact fun o => by kernel_rfl
/-! ### the table of all errors: who is derived from whom -/
def subC (i j : Nat) : Bool := i == j || (j == 0 && decide (i ≤ 11))
def BS : List String := ["ValueError", "KeyError", "IndexError", "LookupError", "RuntimeError", "OverflowError", "ArithmeticError"]
def subB (i : Nat) (b : String) : Bool :=
  if b = "ValueError" then decide (i ≤ 11) else if b = "KeyError" then i == 12 || i == 13 else if b = "IndexError" then i == 15
  else if b = "LookupError" then decide (12 ≤ i) && decide (i ≤ 15) else if b = "RuntimeError" then i == 16 else if b = "OverflowError" then i == 17 else decide (17 ≤ i)
def xclsB (K : Frag) (C : Addr) : Bool :=
  isClsIn K C && (decide (findIn K (.ref C) "__getattribute__" = some (some (.builtin "BaseException.__getattribute__"))) && (decide (findIn K (.ref C) "__getattr__" = some none) && (decide (subIn K (.ref C) (.type "BaseException") = some true) &&
    (decide (findIn K (.ref C) "__class__" = some (some (.builtin "object.__class__"))) && (decide (specialIn K (.builtin "object.__class__") "__get__" = some (some (.builtin "getset_descriptor.__get__"))) &&
    (decide (takesIn K (.builtin "object.__class__") = some true) && decide (mroIn K C (.type "object") = some true)))))))
theorem xclsB_ok {K : Frag} {C : Addr} (h : xclsB K C = true) : XCls K C := by
  unfold xclsB at h
  simp only [Bool.and_eq_true, decide_eq_true_eq] at h
  obtain ⟨a, b, c, d, e, f, g, i⟩ := h
  exact ⟨a, b, c, d, e, f, g, i⟩
def tabB (K : Frag) (cs : List Addr) : Bool := (List.range 20).all fun i => xclsB K (cs.getD i 0) && (((List.range 20).all fun j => decide (kitOne K (.ref (cs.getD i 0)) (.ref (cs.getD j 0)) = some (subC i j))) && (BS.all fun b => decide (kitOne K (.ref (cs.getD i 0)) (.type b) = some (subB i b))))
theorem getD_range (c : Nat → Addr) {i : Nat} (h : i < 20) : ((List.range 20).map c).getD i 0 = c i := by
  rw [List.getD_eq_getElem?_getD, List.getElem?_map, List.getElem?_range h]
  rfl
section
variable {K : Frag} {c : Nat → Addr} (t : tabB K ((List.range 20).map c) = true) {i : Nat} (hi : i < 20)
include t hi
theorem tab_at : xclsB K (c i) = true ∧ (∀ j, j < 20 → kitOne K (.ref (c i)) (.ref (c j)) = some (subC i j)) ∧ ∀ b ∈ BS, kitOne K (.ref (c i)) (.type b) = some (subB i b) := by
  unfold tabB at t
  have h := List.all_eq_true.mp t i (List.mem_range.mpr hi)
  simp only [Bool.and_eq_true, List.all_eq_true, decide_eq_true_eq, List.mem_range] at h
  rw [getD_range c hi] at h
  refine ⟨h.1, fun j hj => ?_, fun b hb => h.2.2 b hb⟩
  have := h.2.1 j hj
  rw [getD_range c hj] at this
  exact this
theorem tab_cls : XCls K (c i) := xclsB_ok (tab_at t hi).1
theorem tab_own {j : Nat} (hj : j < 20) : kitOne K (.ref (c i)) (.ref (c j)) = some (subC i j) := (tab_at t hi).2.1 j hj
theorem tab_blt {b : String} (hb : b ∈ BS) : kitOne K (.ref (c i)) (.type b) = some (subB i b) := (tab_at t hi).2.2 b hb
end
end Gx

set_option maxRecDepth 100000
set_option maxHeartbeats 4000000
namespace Gx
open PySem PySem.Spec PySem.W PySem.Calls PyProof.Rows L2
/-- an own class of errors is caught by its own name -/
theorem exm_own {K : PySem.W.Frag} {S : Addr} (b : PySem.W.subIn K (.ref S) (.type "BaseException") = some true) (i : PySem.W.isClsIn K S = true) (t : PySem.W.typeIn K (.ref S) = some (.type "type")) (s : PySem.W.subIn K (.ref S) (.ref S) = some true) : PySem.W.exmOne K (.ref S) (.ref S) = some true := by
  have i' : (PySem.W.clsIn K S).isSome = true := i
  unfold PySem.W.exmOne PySem.W.kitCls
  simp [b, i', t, s]
section
variable {X : Cx} {C : Addr} {cn : Str} {B mk ini : String} {bmB : List Value}
/-- raise cn(a), an own error without an __init__ of its own -/
def tMkR (C : Addr) (ta : TA) : L2.St → Hp → XK → Prop := fun σ H Q => ta σ H fun vs H1 => vs.length ≤ 1000 ∧ Q (.ref C) none H1
theorem pmk_P {a : Expr} {ta : TA} {p pos : Pos} (F : ExcBaseFacts B mk ini bmB) (T : XPln X.K X.mg cn mk ini bmB C) (XC : XCls X.K C) (ha : PA X [a] ta) (hg : Gl X cn)
    (hdb : (cn == ("__debug__" : Str)) = false := by decide) (hst : starEach (a :: []) X.env = (false, eval a X.env) :: starEach [] X.env := by rfl) (hpl : (backTo pos (starEach [] X.env)).any (·.1) = false := by rfl) :
    PMk X (.Call (.Name cn p) [a] [] pos) (tMkR C ta) := by
  intro pins s σ H Q I h
  refine wpAny_Call_Name_kw (ld_glob I hg T.gC ?_ hdb)
  refine PySem.W.callWith_K (h₀ := X.base) I.ok.mod.kin T.kC (thn (ha.run pos pins s σ H _ I h) ?_) hst hpl
  rintro us s1 ⟨vs, H1, I1, r1, hz, q1⟩
  refine ⟨I1.kIn, ?_⟩
  obtain ⟨nm, q, N, bs, bm, hd, sn, sub, ab, col, dd, k0, k1, k2, k3, k5, hC, tail⟩ := T.cls
  have hl : us.length ≤ sizeLine := by
    rw [← r1.length]
    exact Nat.le_trans hz (by decide)
  have tyC : typeIn X.K (.ref C) = some (.type "type") := by
    show (X.K.lookup C).map (·.cls) = _
    rw [hC]
    rfl
  obtain ⟨hp, g, dr, tk, os⟩ := s1
  refine PySem.W.call_B F (fun Y => excTail_contains Y bm tail) (I1.kIn _ _ hC) (looks_findIn I1.kIn T.iC) hl fun h' k he ht => ?_
  obtain ⟨G', g1, g2⟩ := restrict h' fun b => decide (b ≠ hp.objs.size + 1)
  have off : ∀ b, b ≠ hp.objs.size + 1 → G'.get? b = h'.get? b := fun b hb => g1 b (decide_eq_true hb)
  have gone : G'.get? (hp.objs.size + 1) = none := g2 _ (by simp)
  have old : ∀ b o, hp.get? b = some o → G'.get? b = some o := fun b o q => (off b (Nat.ne_of_lt (Nat.lt_succ_of_lt (Heap.lt_size q)))).trans (k b o q)
  have J : Inv X pins σ H1 ⟨G', g, dr, tk, os⟩ := I1.kept (t' := tk) old
  refine ⟨hp.objs.size + 1, _, _, ⟨G', g, dr, tk, os⟩, H1, .ref C, none, rfl, J, ?_, gone, he, ⟨rfl, rfl⟩, rfl, rfl, I1.hok.fresh (Nat.le_succ _), rfl, I1.bare, raises_own XC.ex tyC, q1⟩
  intro b o q
  have q' : G'.get? b = some o := q
  by_cases hb : b = hp.objs.size + 1
  · rw [hb, gone] at q'
    cases q'
  · exact (off b hb).symm.trans q
end
/-! ### methods that may raise -/
/-- the class at C has a method m that keeps sp, and may raise -/
def CalMX (P : Program) (w : World) (K : PySem.W.Frag) (mg : Str → Option Value) (base : Heap) (C : Addr) (m : Str) (k : Nat) (ps : List Str) (sp : Sp) : Prop :=
  ∃ (f : Addr) (fd : FuncData), FnG P w K mg base (L2.CX P w) k f fd ps sp ∧ Meth K C m f ∧ Binds K fd ps []
theorem DefM.calX {P : Program} {w : World} {K : PySem.W.Frag} {mg : Str → Option Value} {base : Heap} {C : Addr} {m qual : Str} {st : Stmt} {k : Nat} {ps : List Str} {sp : Sp} (d : DefM K C m qual st ps)
    (h : ∀ f fd, Fun K m qual st f fd → FnG P w K mg base (L2.CX P w) k f fd ps sp) : CalMX P w K mg base C m k ps sp := by
  obtain ⟨f, fd, F, me, b, fi⟩ := d
  exact ⟨f, fd, h f fd F, me, b⟩
theorem CalMX.up {P : Program} {w : World} {K : PySem.W.Frag} {mg : Str → Option Value} {base : Heap} {C : Addr} {m : Str} {j k : Nat} {ps : List Str} {sp : Sp} (c : CalMX P w K mg base C m j ps sp) (h : j ≤ k) : CalMX P w K mg base C m k ps sp := by
  obtain ⟨f, fd, F, r⟩ := c
  exact ⟨f, fd, F.up h, r⟩
section
variable {X : Cx} {C : Addr} {m : Str} {k : Nat} {ps : List Str} {sp : Sp} {ta : TE} {t : TA} {o e : Expr} {es : List Expr} {pos apos : Pos} {E : L2.St → XK}
/-- o.m(..), which may raise -/
def tMethX (C : Addr) (m : Str) (sp : Sp) (E : L2.St → XK) (ta : TE) (t : TA) : TE := fun σ H Q => ta σ H fun x H1 => ∃ a dx fs, x = .ref a ∧ H1 a = some (.ins C dx fs) ∧ fs.lookup m = none ∧ t σ H1 fun vs H2 => sp (x :: vs) H2 Q (E σ)
theorem pe_methX {pl : Sem Bool} (he : PE X o ta) (cl : Cls X.K C) (c : CalMX X.prog X.w X.K X.mg X.base C m k ps sp) (g : Gd X.A) (room : Room k X.A) (hx : ∀ σ, PassesAt (L2.CX X.prog X.w) X σ (E σ)) (ha : PA X (e :: es) t)
    (hst : starEach (e :: es) X.env = (false, eval e X.env) :: starEach es X.env := by rfl) (hpl : (backTo pos (starEach es X.env)).any (·.1) = false := by rfl)
    (ht : eval (.Call (.Attribute o m apos) (e :: es) [] pos) X.env = (do
      let ov ← eval o X.env
      standAt apos.atName
      let (f, first) ← holding [ov] (getMethod ov m pl)
      callWith pos f first (backTo pos (starEach (e :: es) X.env)) (backToKw pos (keywordEach [] X.env))) := by rfl) :
    PE X (.Call (.Attribute o m apos) (e :: es) [] pos) (tMethX C m sp E ta t) := by
  obtain ⟨f, fd, F, hm, b⟩ := c
  refine ⟨fun pins s σ H Q I h => ?_⟩
  refine PySem.W.methodCall_KW (pl := pl) (thn (he.run pins s σ H _ I h) fun u s1 ⟨x, H1, I1, rx, a, dx, fs, ex, ea, l, q⟩ => ?_) ht
  subst ex
  obtain rfl : u = Value.ref a := rx
  refine getmeth_ok I1 ea cl hm l ?_
  refine PySem.W.callWith_K (first := [.ref a]) (h₀ := X.base) I.ok.mod.kin hm.kp (thn (ha.run pos pins s1 σ H1 _ I1 q) fun us s2 ⟨vs, H2, I2, r, q2⟩ => ⟨I2.kIn, ?_⟩) hst hpl
  have hl : (Value.ref a :: us).length = ps.length := by
    rw [← F.len _ _ _ _ q2, List.length_cons, List.length_cons, r.length]
  have b1 := b s2 (.ref a :: us) I2.kIn (by rw [List.append_nil]; exact hl)
  rw [List.append_nil] at b1
  exact runX (us := .ref a :: us) (vs := .ref a :: vs) (args := ⟨.ref a :: us, []⟩) F g room b1 (hx σ) I2 (.cons rfl r) q2
end
end Gx

set_option maxRecDepth 100000
set_option maxHeartbeats 4000000
namespace Kl
open PySem PySem.Spec PyProof.Rows L2 Gx
def topS (i : Nat) : Stmt := PySem.Challenge.pw_linkbooks_k11_whole_trees_opened_along_w.main.body.getD i (.Pass ⟨0, 0, 0, 0⟩)
abbrev s_wall : Stmt := topS 0
theorem sc_wall : FnScope ["k"] ["k"] (defScope s_wall) := ⟨rfl, rfl, rfl, by decide +kernel, rfl, by decide +kernel, by decide +kernel⟩
abbrev s_is_integer : Stmt := topS 11
theorem sc_is_integer : FnScope ["value"] ["value"] (defScope s_is_integer) := ⟨rfl, rfl, rfl, by decide +kernel, rfl, by decide +kernel, by decide +kernel⟩
abbrev s_is_count : Stmt := topS 12
theorem sc_is_count : FnScope ["value"] ["value"] (defScope s_is_count) := ⟨rfl, rfl, rfl, by decide +kernel, rfl, by decide +kernel, by decide +kernel⟩
abbrev s_is_name : Stmt := topS 13
theorem sc_is_name : FnScope ["value"] ["value"] (defScope s_is_name) := ⟨rfl, rfl, rfl, by decide +kernel, rfl, by decide +kernel, by decide +kernel⟩
abbrev s_is_sorted : Stmt := topS 14
theorem sc_is_sorted : FnScope ["value", "most", "name"] ["value", "most"] (defScope s_is_sorted) := ⟨rfl, rfl, rfl, by decide +kernel, rfl, by decide +kernel, by decide +kernel⟩
abbrev s_is_making : Stmt := topS 18
theorem sc_is_making : FnScope ["value"] ["value"] (defScope s_is_making) := ⟨rfl, rfl, rfl, by decide +kernel, rfl, by decide +kernel, by decide +kernel⟩
abbrev s_all_names : Stmt := topS 19
theorem sc_all_names : FnScope ["leaf", "makings"] ["leaf", "makings"] (defScope s_all_names) := ⟨rfl, rfl, rfl, by decide +kernel, rfl, by decide +kernel, by decide +kernel⟩
abbrev s_are_kinds : Stmt := topS 20
theorem sc_are_kinds : FnScope ["leaf", "makings", "names", "name", "part"] ["leaf", "makings"] (defScope s_are_kinds) := ⟨rfl, rfl, rfl, by decide +kernel, rfl, by decide +kernel, by decide +kernel⟩
abbrev s_check_rank : Stmt := topS 24
theorem sc_check_rank : FnScope ["rank"] ["rank"] (defScope s_check_rank) := ⟨rfl, rfl, rfl, by decide +kernel, rfl, by decide +kernel, by decide +kernel⟩
abbrev s_check_place : Stmt := topS 25
theorem sc_check_place : FnScope ["kinds", "name", "rank"] ["kinds", "name", "rank"] (defScope s_check_place) := ⟨rfl, rfl, rfl, by decide +kernel, rfl, by decide +kernel, by decide +kernel⟩
abbrev s_kinds_above : Stmt := topS 26
theorem sc_kinds_above : FnScope ["makings", "existing", "name", "part"] ["makings", "existing"] (defScope s_kinds_above) := ⟨rfl, rfl, rfl, by decide +kernel, rfl, by decide +kernel, by decide +kernel⟩
abbrev s_kinds_by_rank : Stmt := topS 27
theorem sc_kinds_by_rank : FnScope ["kinds", "makings", "by_rank", "existing"] ["kinds"] (defScope s_kinds_by_rank) := ⟨rfl, rfl, rfl, by decide +kernel, rfl, by decide +kernel, by decide +kernel⟩
abbrev s_sums_above : Stmt := topS 28
theorem sc_sums_above : FnScope ["parts_of", "below", "name", "parts", "part"] ["parts_of", "below"] (defScope s_sums_above) := ⟨rfl, rfl, rfl, by decide +kernel, rfl, by decide +kernel, by decide +kernel⟩
abbrev s_sums_by_rank : Stmt := topS 29
theorem sc_sums_by_rank : FnScope ["leaf", "parts_of", "ranks", "by_rank"] ["leaf", "parts_of", "ranks"] (defScope s_sums_by_rank) := ⟨rfl, rfl, rfl, by decide +kernel, rfl, by decide +kernel, by decide +kernel⟩
abbrev s_ways_below : Stmt := topS 30
theorem sc_ways_below : FnScope ["parts_of", "above", "below", "name", "part"] ["parts_of", "above"] (defScope s_ways_below) := ⟨rfl, rfl, rfl, by decide +kernel, rfl, by decide +kernel, by decide +kernel⟩
abbrev s_ways_onward : Stmt := topS 31
theorem sc_ways_onward : FnScope ["parts_of", "names", "rank", "downward", "_", "name"] ["parts_of", "names", "rank"] (defScope s_ways_onward) := ⟨rfl, rfl, rfl, by decide +kernel, rfl, by decide +kernel, by decide +kernel⟩
abbrev s_way_numbered : Stmt := topS 32
theorem sc_way_numbered : FnScope ["kinds", "onward", "number", "way", "counts", "users", "at", "user"] ["kinds", "onward", "number"] (defScope s_way_numbered) := ⟨rfl, rfl, rfl, by decide +kernel, rfl, by decide +kernel, by decide +kernel⟩
abbrev s_law_dice : Stmt := topS 35
theorem sc_law_dice : FnScope ["_law_script", "_law_spot", "_law_cell", "_law_left"] ["_law_script", "_law_spot"] (defScope s_law_dice) := ⟨rfl, rfl, rfl, by decide +kernel, rfl, by decide +kernel, by decide +kernel⟩
abbrev s_law_roll : Stmt := topS 36
theorem sc_law_roll : FnScope ["_law_dice_here", "_law_total", "_law_found", "_law_one", "_law_two"] ["_law_dice_here", "_law_total"] (defScope s_law_roll) := ⟨rfl, rfl, rfl, by decide +kernel, rfl, by decide +kernel, by decide +kernel⟩
abbrev s_law_pick : Stmt := topS 37
theorem sc_law_pick : FnScope ["_law_dice_here", "_law_items"] ["_law_dice_here", "_law_items"] (defScope s_law_pick) := ⟨rfl, rfl, rfl, by decide +kernel, rfl, by decide +kernel, by decide +kernel⟩
abbrev s_law_mixed : Stmt := topS 38
theorem sc_law_mixed : FnScope ["_law_dice_here", "_law_items", "_law_left", "_law_found", "_law_turn"] ["_law_dice_here", "_law_items"] (defScope s_law_mixed) := ⟨rfl, rfl, rfl, by decide +kernel, rfl, by decide +kernel, by decide +kernel⟩
abbrev s_law_sizes : Stmt := topS 39
theorem sc_law_sizes : FnScope ["_law_plain", "_law_bound", "_law_found", "_law_rank", "_law_here", "_law_name", "_law_parts", "_law_part"] ["_law_plain", "_law_bound"] (defScope s_law_sizes) := ⟨rfl, rfl, rfl, by decide +kernel, rfl, by decide +kernel, by decide +kernel⟩
abbrev s_law_without : Stmt := topS 40
theorem sc_law_without : FnScope ["_law_pool", "_law_parts", "_law_left", "_law_part"] ["_law_pool", "_law_parts"] (defScope s_law_without) := ⟨rfl, rfl, rfl, by decide +kernel, rfl, by decide +kernel, by decide +kernel⟩
abbrev s_law_children : Stmt := topS 41
theorem sc_law_children : FnScope ["_law_plain", "_law_way", "_law_found", "_law_rank"] ["_law_plain", "_law_way"] (defScope s_law_children) := ⟨rfl, rfl, rfl, by decide +kernel, rfl, by decide +kernel, by decide +kernel⟩
abbrev s_law_drawn_kinds : Stmt := topS 42
theorem sc_law_drawn_kinds : FnScope ["_law_dice_here", "_law_most", "_law_names", "_law_levels", "_law_makings", "_law_name", "_law_below", "_law_turn"] ["_law_dice_here", "_law_most"] (defScope s_law_drawn_kinds) := ⟨rfl, rfl, rfl, by decide +kernel, rfl, by decide +kernel, by decide +kernel⟩
abbrev s_law_kinds_of : Stmt := topS 43
theorem sc_law_kinds_of : FnScope ["_law_own"] ["_law_own"] (defScope s_law_kinds_of) := ⟨rfl, rfl, rfl, by decide +kernel, rfl, by decide +kernel, by decide +kernel⟩
abbrev s_law_as_book : Stmt := topS 44
theorem sc_law_as_book : FnScope ["_law_own"] ["_law_own"] (defScope s_law_as_book) := ⟨rfl, rfl, rfl, by decide +kernel, rfl, by decide +kernel, by decide +kernel⟩
abbrev s_law_all_names : Stmt := topS 45
theorem sc_law_all_names : FnScope ["_law_own"] ["_law_own"] (defScope s_law_all_names) := ⟨rfl, rfl, rfl, by decide +kernel, rfl, by decide +kernel, by decide +kernel⟩
abbrev s_law_way_fits : Stmt := topS 46
theorem sc_law_way_fits : FnScope ["_law_own", "_law_sizes_here", "_law_value", "_law_rank"] ["_law_own", "_law_sizes_here", "_law_value"] (defScope s_law_way_fits) := ⟨rfl, rfl, rfl, by decide +kernel, rfl, by decide +kernel, by decide +kernel⟩
abbrev s_law_no_children : Stmt := topS 47
theorem sc_law_no_children : FnScope ["_law_ranks", "_law_value"] ["_law_ranks", "_law_value"] (defScope s_law_no_children) := ⟨rfl, rfl, rfl, by decide +kernel, rfl, by decide +kernel, by decide +kernel⟩
abbrev s_law_way_right : Stmt := topS 48
theorem sc_law_way_right : FnScope ["_law_own", "_law_ranks", "_law_way", "_law_row", "_law_total", "_law_rank", "_law_digit", "_law_kind"] ["_law_own", "_law_ranks", "_law_way"] (defScope s_law_way_right) := ⟨rfl, rfl, rfl, by decide +kernel, rfl, by decide +kernel, by decide +kernel⟩
abbrev s_law_near : Stmt := topS 49
theorem sc_law_near : FnScope ["_law_dice_here", "_law_own", "_law_way", "_law_spoil", "_law_at", "_law_name"] ["_law_dice_here", "_law_own", "_law_way"] (defScope s_law_near) := ⟨rfl, rfl, rfl, by decide +kernel, rfl, by decide +kernel, by decide +kernel⟩
abbrev s_law_right : Stmt := topS 50
theorem sc_law_right : FnScope ["_law_dice_here", "_law_own", "_law_ranks", "_law_sizes_here", "_law_turn", "_law_rank", "_law_there", "_law_name", "_law_way", "_law_again", "_law_value", "_law_due", "_law_odd"] ["_law_dice_here", "_law_own"] (defScope s_law_right) := ⟨rfl, rfl, rfl, by decide +kernel, rfl, by decide +kernel, by decide +kernel⟩
abbrev s_law : Stmt := topS 51
theorem sc_law : FnScope ["_law_script", "_law_spot", "_law_dice_here"] ["_law_script"] (defScope s_law) := ⟨rfl, rfl, rfl, by decide +kernel, rfl, by decide +kernel, by decide +kernel⟩
abbrev s_Kinds_init : Stmt := inClass (topS 21) 0
theorem sc_Kinds_init : FnScope ["self", "leaf", "makings", "name"] ["self", "leaf", "makings"] (defScope s_Kinds_init) := ⟨rfl, rfl, rfl, by decide +kernel, rfl, by decide +kernel, by decide +kernel⟩
abbrev s_Kinds_leaf : Stmt := inClass (topS 21) 2
theorem sc_Kinds_leaf : FnScope ["self"] ["self"] (defScope s_Kinds_leaf) := ⟨rfl, rfl, rfl, by decide +kernel, rfl, by decide +kernel, by decide +kernel⟩
abbrev s_Kinds_makings : Stmt := inClass (topS 21) 3
theorem sc_Kinds_makings : FnScope ["self"] ["self"] (defScope s_Kinds_makings) := ⟨rfl, rfl, rfl, by decide +kernel, rfl, by decide +kernel, by decide +kernel⟩
abbrev s_Kinds_names : Stmt := inClass (topS 21) 4
theorem sc_Kinds_names : FnScope ["self"] ["self"] (defScope s_Kinds_names) := ⟨rfl, rfl, rfl, by decide +kernel, rfl, by decide +kernel, by decide +kernel⟩
abbrev s_Kinds_users : Stmt := inClass (topS 21) 6
theorem sc_Kinds_users : FnScope ["self", "name", "user"] ["self", "name"] (defScope s_Kinds_users) := ⟨rfl, rfl, rfl, by decide +kernel, rfl, by decide +kernel, by decide +kernel⟩
abbrev s_Kinds_losers : Stmt := inClass (topS 21) 7
theorem sc_Kinds_losers : FnScope ["self", "name", "winner", "making", "at"] ["self", "name", "winner"] (defScope s_Kinds_losers) := ⟨rfl, rfl, rfl, by decide +kernel, rfl, by decide +kernel, by decide +kernel⟩
abbrev s_Kinds_contains : Stmt := inClass (topS 21) 9
theorem sc_Kinds_contains : FnScope ["self", "value"] ["self", "value"] (defScope s_Kinds_contains) := ⟨rfl, rfl, rfl, by decide +kernel, rfl, by decide +kernel, by decide +kernel⟩
abbrev s_Kinds_getitem : Stmt := inClass (topS 21) 10
theorem sc_Kinds_getitem : FnScope ["self", "name"] ["self", "name"] (defScope s_Kinds_getitem) := ⟨rfl, rfl, rfl, by decide +kernel, rfl, by decide +kernel, by decide +kernel⟩
abbrev s_Kinds_len : Stmt := inClass (topS 21) 12
theorem sc_Kinds_len : FnScope ["self"] ["self"] (defScope s_Kinds_len) := ⟨rfl, rfl, rfl, by decide +kernel, rfl, by decide +kernel, by decide +kernel⟩
abbrev s_Kinds_eq : Stmt := inClass (topS 21) 13
theorem sc_Kinds_eq : FnScope ["self", "other"] ["self", "other"] (defScope s_Kinds_eq) := ⟨rfl, rfl, rfl, by decide +kernel, rfl, by decide +kernel, by decide +kernel⟩
abbrev s_Kinds_str : Stmt := inClass (topS 21) 14
theorem sc_Kinds_str : FnScope ["self"] ["self"] (defScope s_Kinds_str) := ⟨rfl, rfl, rfl, by decide +kernel, rfl, by decide +kernel, by decide +kernel⟩
/-- the class Kinds as the top has made it -/
structure Cl_Kinds (K : PySem.W.Frag) (mg : Str → Option Value) (C : Addr) : Prop where
  gC : mg "Kinds" = some (.ref C)
  cl : Cls K C
  n_leaf : NoAttr K C "_leaf"
  n_makings : NoAttr K C "_makings"
  n_names : NoAttr K C "_names"
  made : ∃ f fd, Mk K C f ∧ Fun K "__init__" "Kinds.__init__" s_Kinds_init f fd ∧ Binds K fd ["self", "leaf", "makings"] []
  p_leaf : PropD K C "leaf" "Kinds.leaf" s_Kinds_leaf
  p_makings : PropD K C "makings" "Kinds.makings" s_Kinds_makings
  p_names : PropD K C "names" "Kinds.names" s_Kinds_names
  m_users : DefM K C "users" "Kinds.users" s_Kinds_users ["self", "name"]
  m_losers : DefM K C "losers" "Kinds.losers" s_Kinds_losers ["self", "name", "winner"]
  m_contains : DefM K C "__contains__" "Kinds.__contains__" s_Kinds_contains ["self", "value"]
  m_getitem : DefM K C "__getitem__" "Kinds.__getitem__" s_Kinds_getitem ["self", "name"]
  m_len : DefM K C "__len__" "Kinds.__len__" s_Kinds_len ["self"]
  m_eq : DefM K C "__eq__" "Kinds.__eq__" s_Kinds_eq ["self", "other"]
  m_str : DefM K C "__str__" "Kinds.__str__" s_Kinds_str ["self"]
  ne : PySem.W.findIn K (.ref C) "__ne__" = some (some (.builtin "object.__ne__"))
  ob : PySem.W.mroIn K C (.type "object") = some true
  kit : PySem.W.kitOne K (.ref C) (.ref C) = some true
  kitT : PySem.W.kitOne K (.type "tuple") (.ref C) = some false
  kitD : PySem.W.kitOne K (.type "dict") (.ref C) = some false
  kitR : PySem.W.kitOne K (.ref C) (.type "tuple") = some false
  ca : PySem.W.findIn K (.ref C) "__class__" = some (some (.builtin "object.__class__"))
  cg : PySem.W.specialIn K (.builtin "object.__class__") "__get__" = some (some (.builtin "getset_descriptor.__get__"))
  ct : PySem.W.takesIn K (.builtin "object.__class__") = some true
abbrev s_Ranks_init : Stmt := inClass (topS 33) 0
theorem sc_Ranks_init : FnScope ["self", "kinds", "makings", "name"] ["self", "kinds"] (defScope s_Ranks_init) := ⟨rfl, rfl, rfl, by decide +kernel, rfl, by decide +kernel, by decide +kernel⟩
abbrev s_Ranks_kinds : Stmt := inClass (topS 33) 1
theorem sc_Ranks_kinds : FnScope ["self"] ["self"] (defScope s_Ranks_kinds) := ⟨rfl, rfl, rfl, by decide +kernel, rfl, by decide +kernel, by decide +kernel⟩
abbrev s_Ranks_turn : Stmt := inClass (topS 33) 2
theorem sc_Ranks_turn : FnScope ["self"] ["self"] (defScope s_Ranks_turn) := ⟨rfl, rfl, rfl, by decide +kernel, rfl, by decide +kernel, by decide +kernel⟩
abbrev s_Ranks_period : Stmt := inClass (topS 33) 3
theorem sc_Ranks_period : FnScope ["self"] ["self"] (defScope s_Ranks_period) := ⟨rfl, rfl, rfl, by decide +kernel, rfl, by decide +kernel, by decide +kernel⟩
abbrev s_Ranks_base_of : Stmt := inClass (topS 33) 4
theorem sc_Ranks_base_of : FnScope ["self", "rank"] ["self", "rank"] (defScope s_Ranks_base_of) := ⟨rfl, rfl, rfl, by decide +kernel, rfl, by decide +kernel, by decide +kernel⟩
abbrev s_Ranks_kinds_at : Stmt := inClass (topS 33) 5
theorem sc_Ranks_kinds_at : FnScope ["self", "rank"] ["self", "rank"] (defScope s_Ranks_kinds_at) := ⟨rfl, rfl, rfl, by decide +kernel, rfl, by decide +kernel, by decide +kernel⟩
abbrev s_Ranks_size_of : Stmt := inClass (topS 33) 6
theorem sc_Ranks_size_of : FnScope ["self", "name", "rank"] ["self", "name", "rank"] (defScope s_Ranks_size_of) := ⟨rfl, rfl, rfl, by decide +kernel, rfl, by decide +kernel, by decide +kernel⟩
abbrev s_Ranks_ways_to : Stmt := inClass (topS 33) 7
theorem sc_Ranks_ways_to : FnScope ["self", "name", "rank"] ["self", "name", "rank"] (defScope s_Ranks_ways_to) := ⟨rfl, rfl, rfl, by decide +kernel, rfl, by decide +kernel, by decide +kernel⟩
abbrev s_Ranks_some_way : Stmt := inClass (topS 33) 8
theorem sc_Ranks_some_way : FnScope ["self", "name", "rank", "number"] ["self", "name", "rank", "number"] (defScope s_Ranks_some_way) := ⟨rfl, rfl, rfl, by decide +kernel, rfl, by decide +kernel, by decide +kernel⟩
abbrev s_Ranks_is_way : Stmt := inClass (topS 33) 10
theorem sc_Ranks_is_way : FnScope ["self", "value", "name", "low", "high"] ["self", "value"] (defScope s_Ranks_is_way) := ⟨rfl, rfl, rfl, by decide +kernel, rfl, by decide +kernel, by decide +kernel⟩
abbrev s_Ranks_children_of : Stmt := inClass (topS 33) 11
theorem sc_Ranks_children_of : FnScope ["self", "way", "low", "high"] ["self", "way"] (defScope s_Ranks_children_of) := ⟨rfl, rfl, rfl, by decide +kernel, rfl, by decide +kernel, by decide +kernel⟩
abbrev s_Ranks_len : Stmt := inClass (topS 33) 12
theorem sc_Ranks_len : FnScope ["self"] ["self"] (defScope s_Ranks_len) := ⟨rfl, rfl, rfl, by decide +kernel, rfl, by decide +kernel, by decide +kernel⟩
abbrev s_Ranks_eq : Stmt := inClass (topS 33) 13
theorem sc_Ranks_eq : FnScope ["self", "other"] ["self", "other"] (defScope s_Ranks_eq) := ⟨rfl, rfl, rfl, by decide +kernel, rfl, by decide +kernel, by decide +kernel⟩
abbrev s_Ranks_str : Stmt := inClass (topS 33) 14
theorem sc_Ranks_str : FnScope ["self"] ["self"] (defScope s_Ranks_str) := ⟨rfl, rfl, rfl, by decide +kernel, rfl, by decide +kernel, by decide +kernel⟩
/-- the class Ranks as the top has made it -/
structure Cl_Ranks (K : PySem.W.Frag) (mg : Str → Option Value) (C : Addr) : Prop where
  gC : mg "Ranks" = some (.ref C)
  cl : Cls K C
  n_kinds : NoAttr K C "_kinds"
  n_parts_of : NoAttr K C "_parts_of"
  n_sizes : NoAttr K C "_sizes"
  n_ways : NoAttr K C "_ways"
  n_by_rank : NoAttr K C "_by_rank"
  n_turn : NoAttr K C "_turn"
  made : ∃ f fd, Mk K C f ∧ Fun K "__init__" "Ranks.__init__" s_Ranks_init f fd ∧ Binds K fd ["self", "kinds"] []
  p_kinds : PropD K C "kinds" "Ranks.kinds" s_Ranks_kinds
  p_turn : PropD K C "turn" "Ranks.turn" s_Ranks_turn
  p_period : PropD K C "period" "Ranks.period" s_Ranks_period
  m_base_of : DefM K C "base_of" "Ranks.base_of" s_Ranks_base_of ["self", "rank"]
  m_kinds_at : DefM K C "kinds_at" "Ranks.kinds_at" s_Ranks_kinds_at ["self", "rank"]
  m_size_of : DefM K C "size_of" "Ranks.size_of" s_Ranks_size_of ["self", "name", "rank"]
  m_ways_to : DefM K C "ways_to" "Ranks.ways_to" s_Ranks_ways_to ["self", "name", "rank"]
  m_some_way : DefM K C "some_way" "Ranks.some_way" s_Ranks_some_way ["self", "name", "rank", "number"]
  m_is_way : DefM K C "is_way" "Ranks.is_way" s_Ranks_is_way ["self", "value"]
  m_children_of : DefM K C "children_of" "Ranks.children_of" s_Ranks_children_of ["self", "way"]
  m_len : DefM K C "__len__" "Ranks.__len__" s_Ranks_len ["self"]
  m_eq : DefM K C "__eq__" "Ranks.__eq__" s_Ranks_eq ["self", "other"]
  m_str : DefM K C "__str__" "Ranks.__str__" s_Ranks_str ["self"]
  ne : PySem.W.findIn K (.ref C) "__ne__" = some (some (.builtin "object.__ne__"))
  ob : PySem.W.mroIn K C (.type "object") = some true
  kit : PySem.W.kitOne K (.ref C) (.ref C) = some true
  kitT : PySem.W.kitOne K (.type "tuple") (.ref C) = some false
  kitD : PySem.W.kitOne K (.type "dict") (.ref C) = some false
  kitR : PySem.W.kitOne K (.ref C) (.type "tuple") = some false
  ca : PySem.W.findIn K (.ref C) "__class__" = some (some (.builtin "object.__class__"))
  cg : PySem.W.specialIn K (.builtin "object.__class__") "__get__" = some (some (.builtin "getset_descriptor.__get__"))
  ct : PySem.W.takesIn K (.builtin "object.__class__") = some true
/-- what the walk asks of the top -/
structure Top (K : PySem.W.Frag) (mg : Str → Option Value) : Prop where
  b_IndexError : mg "IndexError" = none
  b_KeyError : mg "KeyError" = none
  b_OverflowError : mg "OverflowError" = none
  b_TypeError : mg "TypeError" = none
  b_ValueError : mg "ValueError" = none
  b_abs : mg "abs" = none
  b_all : mg "all" = none
  b_bool : mg "bool" = none
  b_classmethod : mg "classmethod" = none
  b_dict : mg "dict" = none
  b_enumerate : mg "enumerate" = none
  b_int : mg "int" = none
  b_isinstance : mg "isinstance" = none
  b_len : mg "len" = none
  b_list : mg "list" = none
  b_max : mg "max" = none
  b_min : mg "min" = none
  b_property : mg "property" = none
  b_range : mg "range" = none
  b_repr : mg "repr" = none
  b_set : mg "set" = none
  b_sorted : mg "sorted" = none
  b_str : mg "str" = none
  b_sum : mg "sum" = none
  b_tuple : mg "tuple" = none
  b_zip : mg "zip" = none
  g_MAX_LETTERS : ∃ t, mg "MAX_LETTERS" = some (.int 8 t)
  g__TOO_LONG : ∃ t, mg "_TOO_LONG" = some (.int 1000000000000000000000000000000000000000000000000000000000000 t)
  g_MAX_KINDS : ∃ t, mg "MAX_KINDS" = some (.int 6 t)
  g_MAX_PARTS : ∃ t, mg "MAX_PARTS" = some (.int 3 t)
  g_MAX_RANK : ∃ t, mg "MAX_RANK" = some (.int 402 t)
  d_wall : Def K mg "_wall" "_wall" s_wall ["k"]
  d_is_integer : Def K mg "is_integer" "is_integer" s_is_integer ["value"]
  d_is_count : Def K mg "is_count" "is_count" s_is_count ["value"]
  d_is_name : Def K mg "is_name" "is_name" s_is_name ["value"]
  d_is_sorted : DefK K mg "is_sorted" "is_sorted" s_is_sorted ["value", "most"] 1 ["most"]
  d_is_making : Def K mg "_is_making" "_is_making" s_is_making ["value"]
  d_all_names : Def K mg "_all_names" "_all_names" s_all_names ["leaf", "makings"]
  d_are_kinds : Def K mg "_are_kinds" "_are_kinds" s_are_kinds ["leaf", "makings"]
  d_check_rank : Def K mg "_check_rank" "_check_rank" s_check_rank ["rank"]
  d_check_place : Def K mg "_check_place" "_check_place" s_check_place ["kinds", "name", "rank"]
  d_kinds_above : Def K mg "_kinds_above" "_kinds_above" s_kinds_above ["makings", "existing"]
  d_kinds_by_rank : Def K mg "_kinds_by_rank" "_kinds_by_rank" s_kinds_by_rank ["kinds"]
  d_sums_above : Def K mg "sums_above" "sums_above" s_sums_above ["parts_of", "below"]
  d_sums_by_rank : Def K mg "sums_by_rank" "sums_by_rank" s_sums_by_rank ["leaf", "parts_of", "ranks"]
  d_ways_below : Def K mg "_ways_below" "_ways_below" s_ways_below ["parts_of", "above"]
  d_ways_onward : Def K mg "_ways_onward" "_ways_onward" s_ways_onward ["parts_of", "names", "rank"]
  d_way_numbered : Def K mg "_way_numbered" "_way_numbered" s_way_numbered ["kinds", "onward", "number"]
  d_law_dice : Def K mg "_law_dice" "_law_dice" s_law_dice ["_law_script", "_law_spot"]
  d_law_roll : Def K mg "_law_roll" "_law_roll" s_law_roll ["_law_dice_here", "_law_total"]
  d_law_pick : Def K mg "_law_pick" "_law_pick" s_law_pick ["_law_dice_here", "_law_items"]
  d_law_mixed : Def K mg "_law_mixed" "_law_mixed" s_law_mixed ["_law_dice_here", "_law_items"]
  d_law_sizes : Def K mg "_law_sizes" "_law_sizes" s_law_sizes ["_law_plain", "_law_bound"]
  d_law_without : Def K mg "_law_without" "_law_without" s_law_without ["_law_pool", "_law_parts"]
  d_law_children : Def K mg "_law_children" "_law_children" s_law_children ["_law_plain", "_law_way"]
  d_law_drawn_kinds : Def K mg "_law_drawn_kinds" "_law_drawn_kinds" s_law_drawn_kinds ["_law_dice_here", "_law_most"]
  d_law_kinds_of : Def K mg "_law_kinds_of" "_law_kinds_of" s_law_kinds_of ["_law_own"]
  d_law_as_book : Def K mg "_law_as_book" "_law_as_book" s_law_as_book ["_law_own"]
  d_law_all_names : Def K mg "_law_all_names" "_law_all_names" s_law_all_names ["_law_own"]
  d_law_way_fits : Def K mg "_law_way_fits" "_law_way_fits" s_law_way_fits ["_law_own", "_law_sizes_here", "_law_value"]
  d_law_no_children : Def K mg "_law_no_children" "_law_no_children" s_law_no_children ["_law_ranks", "_law_value"]
  d_law_way_right : Def K mg "_law_way_right" "_law_way_right" s_law_way_right ["_law_own", "_law_ranks", "_law_way"]
  d_law_near : Def K mg "_law_near" "_law_near" s_law_near ["_law_dice_here", "_law_own", "_law_way"]
  d_law_right : Def K mg "_law_right" "_law_right" s_law_right ["_law_dice_here", "_law_own"]
  c_Kinds : ∃ C, Cl_Kinds K mg C
  c_Ranks : ∃ C, Cl_Ranks K mg C
  p_InvalidOperation : ∃ C, XPln K mg "InvalidOperation" "ValueError.__new__" "ValueError.__init__" [.type "ValueError", .type "Exception", .type "BaseException", .type "object"] C ∧ XCls K C ∧ PySem.W.exmOne K (.ref C) (.ref C) = some true
end Kl

set_option maxRecDepth 100000
set_option maxHeartbeats 4000000
namespace Kl
open PySem PySem.Spec PyProof.Rows L2 Gx Mx
/-! ### kinds and their makings: the mathematics -/
abbrev Mak := List (Str × List Str)
/-- the names that are drawn -/
def POOL : List Str := ["a", "b", "ab", "c", "leaf", "zzzzzzzz", "d", "e", "f"]
theorem pool_names : POOL.all nameB = true := by decide +kernel
theorem pool_short : POOL.all (fun z => decide (z.length ≤ 8)) = true := by decide +kernel
theorem pool_nd : POOL.Nodup := by decide +kernel
theorem pool_name {z : Str} (h : z ∈ POOL) : nameB z = true := List.all_eq_true.mp pool_names z h
theorem pool_len {z : Str} (h : z ∈ POOL) : z.length ≤ 8 := of_decide_eq_true (List.all_eq_true.mp pool_short z h)
def keysOf (M : Mak) : List Str := M.map (·.1)
/-- these are kinds of drawn names -/
structure Vld (leaf : Str) (M : Mak) : Prop where
  lf : leaf ∈ POOL
  keys : ∀ z ∈ keysOf M, z ∈ POOL
  nd : (keysOf M).Nodup
  parts : ∀ m ∈ M, sortedS m.2 = true ∧ 2 ≤ m.2.length ∧ m.2.length ≤ 3 ∧ ∀ p ∈ m.2, p = leaf ∨ p ∈ keysOf M
  few : ∀ ns : List Str, ns.Nodup → (∀ z ∈ ns, z = leaf ∨ z ∈ keysOf M) → ns.length ≤ 6
theorem Vld.part {leaf : Str} {M : Mak} (v : Vld leaf M) {m : Str × List Str} (hm : m ∈ M) {p : Str} (hp : p ∈ m.2) : p ∈ POOL := by
  rcases (v.parts m hm).2.2.2 p hp with rfl | h
  · exact v.lf
  · exact v.keys p h
theorem Vld.len {leaf : Str} {M : Mak} (v : Vld leaf M) : M.length ≤ 6 := by
  have h := v.few (keysOf M) v.nd fun z hz => .inr hz
  unfold keysOf at h
  rw [List.length_map] at h
  exact h
/-- the ascending names of kinds -/
structure IsNames (leaf : Str) (ks ns : List Str) : Prop where
  srt : sortedS ns = true
  nd : ns.Nodup
  mem : ∀ z, z ∈ ns ↔ z = leaf ∨ z ∈ ks
theorem sorted_same {l m : List Str} (hl : sortedS l = true) (hm : sortedS m = true) (dl : l.Nodup) (dm : m.Nodup) (e : ∀ z, z ∈ l ↔ z ∈ m) : l = m :=
  sortedS_unique ((List.perm_ext_iff_of_nodup dl dm).mpr e) hl hm
theorem IsNames.unique {leaf : Str} {ks ks' ns ms : List Str} (h : IsNames leaf ks ns) (h' : IsNames leaf ks' ms) (e : ∀ z, z ∈ ks ↔ z ∈ ks') : ns = ms :=
  sorted_same h.srt h'.srt h.nd h'.nd fun z => by rw [h.mem, h'.mem, e]
theorem sortedS_sub {l m : List Str} (h : sortedS m = true) (s : l.Sublist m) : sortedS l = true := (sortedS_iff l).mpr (((sortedS_iff m).mp h).sublist s)
/-! ### makings looked up -/
def lookM (M : Mak) (z : Str) : Option (List Str) := (M.find? fun m => decide (m.1 = z)).map (·.2)
theorem lookM_cons (m : Str × List Str) (M : Mak) (z : Str) : lookM (m :: M) z = if m.1 = z then some m.2 else lookM M z := by
  unfold lookM
  rw [List.find?_cons]
  by_cases h : m.1 = z
  · rw [if_pos h, decide_eq_true h]
    rfl
  · rw [if_neg h, decide_eq_false h]
theorem lookM_mem {M : Mak} (nd : (keysOf M).Nodup) {m : Str × List Str} (h : m ∈ M) : lookM M m.1 = some m.2 := by
  induction M with
  | nil => cases h
  | cons x M ih =>
    have nd' : (x.1 :: keysOf M).Nodup := nd
    rw [List.nodup_cons] at nd'
    rw [lookM_cons]
    rcases List.mem_cons.mp h with rfl | h
    · rw [if_pos rfl]
    · rw [if_neg fun e => nd'.1 (by rw [e]; exact List.mem_map.mpr ⟨m, h, rfl⟩)]
      exact ih nd'.2 h
theorem lookM_some {M : Mak} {z : Str} {ps : List Str} (h : lookM M z = some ps) : (z, ps) ∈ M := by
  induction M with
  | nil => cases h
  | cons x M ih =>
    rw [lookM_cons] at h
    by_cases e : x.1 = z
    · rw [if_pos e] at h
      cases h
      rw [← e]
      exact List.mem_cons_self
    · rw [if_neg e] at h
      exact List.mem_cons_of_mem _ (ih h)
theorem lookM_none {M : Mak} {z : Str} : lookM M z = none ↔ z ∉ keysOf M := by
  induction M with
  | nil => exact ⟨(fun _ h => nomatch h), fun _ => rfl⟩
  | cons x M ih =>
    rw [lookM_cons]
    show _ ↔ z ∉ x.1 :: keysOf M
    rw [List.mem_cons, not_or]
    by_cases e : x.1 = z
    · rw [if_pos e]
      exact ⟨(fun h => nomatch h), fun h => absurd e.symm h.1⟩
    · rw [if_neg e, ih]
      exact ⟨fun h => ⟨fun q => e q.symm, h⟩, fun h => h.2⟩
theorem lookM_in {M : Mak} {z : Str} (h : z ∈ keysOf M) : ∃ ps, lookM M z = some ps := by
  cases e : lookM M z with
  | none => exact absurd h (lookM_none.mp e)
  | some ps => exact ⟨ps, rfl⟩
/-- M' is M, ascending by its keys -/
structure OrdOf (M M' : Mak) : Prop where
  srt : sortedS (keysOf M') = true
  nd : (keysOf M').Nodup
  look : ∀ z, lookM M' z = lookM M z
theorem OrdOf.keys {M M' : Mak} (h : OrdOf M M') (z : Str) : z ∈ keysOf M' ↔ z ∈ keysOf M := by
  have e := h.look z
  constructor
  · intro q
    obtain ⟨ps, hp⟩ := lookM_in q
    rw [hp] at e
    cases c : decide (z ∈ keysOf M) with
    | true => exact of_decide_eq_true c
    | false =>
      rw [lookM_none.mpr (of_decide_eq_false c)] at e
      cases e
  · intro q
    obtain ⟨ps, hp⟩ := lookM_in q
    rw [hp] at e
    cases c : decide (z ∈ keysOf M') with
    | true => exact of_decide_eq_true c
    | false =>
      rw [lookM_none.mpr (of_decide_eq_false c)] at e
      cases e
theorem mak_of_keys {M : Mak} (nd : (keysOf M).Nodup) : M = (keysOf M).map fun z => (z, (lookM M z).getD []) := by
  unfold keysOf
  rw [List.map_map]
  refine (List.map_id M).symm.trans (List.map_congr_left fun m hm => ?_)
  show m = (m.1, (lookM M m.1).getD [])
  rw [lookM_mem nd hm]
  rfl
theorem OrdOf.eq {M M' : Mak} (h : OrdOf M M') {ys : List Str} (hs : sortedS ys = true) (hp : ys.Perm (keysOf M)) (nd : (keysOf M).Nodup) : M' = ys.map fun z => (z, (lookM M z).getD []) := by
  have e : keysOf M' = ys := sorted_same h.srt hs h.nd (hp.nodup_iff.mpr nd) fun z => by rw [h.keys, hp.mem_iff]
  rw [mak_of_keys h.nd, e]
  exact List.map_congr_left fun z _ => by rw [h.look]
theorem OrdOf.mk' {M : Mak} {ys : List Str} (hs : sortedS ys = true) (hp : ys.Perm (keysOf M)) (nd : (keysOf M).Nodup) : OrdOf M (ys.map fun z => (z, (lookM M z).getD [])) := by
  have ek : keysOf (ys.map fun z => (z, (lookM M z).getD [])) = ys := by
    unfold keysOf
    rw [List.map_map]
    exact List.map_id ys
  have dy : ys.Nodup := hp.nodup_iff.mpr nd
  refine ⟨by rw [ek]; exact hs, by rw [ek]; exact dy, fun z => ?_⟩
  by_cases h : z ∈ ys
  · have h1 := lookM_mem (M := ys.map fun z => (z, (lookM M z).getD [])) (by rw [ek]; exact dy) (List.mem_map.mpr ⟨z, h, rfl⟩)
    obtain ⟨ps, q⟩ := lookM_in (hp.mem_iff.mp h)
    rw [h1, q]
    rfl
  · rw [lookM_none.mpr (by rw [ek]; exact h), lookM_none.mpr fun q => h (hp.mem_iff.mpr q)]
theorem OrdOf.vld {leaf : Str} {M M' : Mak} (h : OrdOf M M') (v : Vld leaf M) : Vld leaf M' := by
  refine ⟨v.lf, fun z hz => v.keys z ((h.keys z).mp hz), h.nd, fun m hm => ?_, fun ns hn hs => v.few ns hn fun z hz => (hs z hz).imp id (h.keys z).mp⟩
  have e := h.look m.1
  rw [lookM_mem h.nd hm] at e
  obtain ⟨h1, h2, h3, h4⟩ := v.parts (m.1, m.2) (lookM_some e.symm)
  exact ⟨h1, h2, h3, fun p hp => (h4 p hp).imp id (h.keys p).mpr⟩
/-! ### what is told of kinds -/
def lineK (n : Str) (ps : List Str) : Str := (("kind " : Str) ++ n ++ " ") ++ Txt.join "+" ps
def linesK (leaf : Str) (M : Mak) : List Str := (("leaf " : Str) ++ leaf) :: M.map fun m => lineK m.1 m.2
def usersK (M : Mak) (z : Str) : List Str := (M.filter fun m => decide (z ∈ m.2)).map (·.1)
def partedK (ps : List Str) (z : Str) : List Str := ps.take (ps.idxOf z) ++ ps.drop (ps.idxOf z + 1)
/-- the users by the names and the makings in any order -/
theorem users_by {leaf : Str} {M M' : Mak} {ns : List Str} (h : OrdOf M M') (hn : IsNames leaf (keysOf M) ns) (z : Str) : ns.filter (fun u => decide (z ∈ (lookM M u).getD [])) = usersK M' z := by
  have e : usersK M' z = (keysOf M').filter fun u => decide (z ∈ (lookM M u).getD []) := by
    unfold usersK keysOf
    rw [List.filter_map]
    refine congrArg _ (List.filter_congr fun m hm => ?_)
    show decide (z ∈ m.2) = decide (z ∈ (lookM M m.1).getD [])
    rw [← h.look, lookM_mem h.nd hm]
    rfl
  rw [e]
  refine sorted_same (sortedS_sub hn.srt List.filter_sublist) (sortedS_sub h.srt List.filter_sublist) (hn.nd.sublist List.filter_sublist) (h.nd.sublist List.filter_sublist) fun u => ?_
  rw [List.mem_filter, List.mem_filter, hn.mem, h.keys]
  constructor
  · rintro ⟨h1, h2⟩
    refine ⟨?_, h2⟩
    cases c : decide (u ∈ keysOf M) with
    | true => exact of_decide_eq_true c
    | false =>
      rw [lookM_none.mpr (of_decide_eq_false c)] at h2
      exact absurd (of_decide_eq_true h2) (by simp)
  · rintro ⟨h1, h2⟩
    exact ⟨.inr h1, h2⟩
/-! ### makings in the heap -/
/-- a tuple in the heap whose object has no dict of its own -/
def TupZ (H : Hp) (a : Addr) (xs : List V) : Prop := ∃ ob : Obj, ob.dict = none ∧ H a = some (.frz ob (.tup xs))
theorem TupZ.sq {K : PySem.W.Frag} {H : Hp} {a : Addr} {xs : List V} (h : TupZ H a xs) : SqT K H a xs := by
  obtain ⟨ob, _, e⟩ := h
  exact .inl (.inr ⟨ob, e⟩)
theorem TupZ.ty {K : PySem.W.Frag} {H : Hp} {a : Addr} {xs : List V} (h : TupZ H a xs) : TyX K H (.ref a) (.type "tuple") := by
  obtain ⟨ob, _, e⟩ := h
  exact .fTuple e
theorem TupZ.at {H H' : Hp} {a : Addr} {xs : List V} (h : TupZ H a xs) (s : ∀ o, H a = some o → H' a = some o) : TupZ H' a xs := by
  obtain ⟨ob, d, e⟩ := h
  exact ⟨ob, d, s _ e⟩
theorem TupZ.mono {H H' : Hp} {a : Addr} {xs : List V} (h : TupZ H a xs) (s : Same H H') : TupZ H' a xs := h.at fun o e => s _ _ e
theorem TupZ.ne {H : Hp} {a b : Addr} {xs : List V} (h : TupZ H a xs) {o : HO} (e : H b = some o) (n : ∀ ob, o ≠ .frz ob (.tup xs)) : a ≠ b := fun z => by
  obtain ⟨ob, _, q⟩ := h
  rw [z, e] at q
  exact n ob (Option.some.inj q)
def MakAt (H : Hp) (kvs : List (Key × V)) (M : Mak) : Prop := Paired (fun (kv : Key × V) (m : Str × List Str) => kv.1 = Sum.inr m.1 ∧ ∃ a, kv.2 = .ref a ∧ TupZ H a (m.2.map V.str)) kvs M
theorem MakAt.same {H H' : Hp} {kvs : List (Key × V)} {M : Mak} (h : MakAt H kvs M) (s : ∀ a xs, TupZ H a xs → TupZ H' a xs) : MakAt H' kvs M := by
  unfold MakAt at h ⊢
  induction h with
  | nil => exact .nil
  | cons h _ ih =>
    obtain ⟨h1, a, h2, h3⟩ := h
    exact .cons ⟨h1, a, h2, s a _ h3⟩ ih
theorem MakAt.len {H : Hp} {kvs : List (Key × V)} {M : Mak} (h : MakAt H kvs M) : kvs.length = M.length := Paired.length h
theorem MakAt.keys {H : Hp} {kvs : List (Key × V)} {M : Mak} (h : MakAt H kvs M) : kvs.map (·.1) = (keysOf M).map Sum.inr := by
  unfold MakAt at h
  induction h with
  | nil => rfl
  | cons h _ ih =>
    exact congr (congrArg List.cons h.1) ih
theorem MakAt.get {H : Hp} {kvs : List (Key × V)} {M : Mak} (h : MakAt H kvs M) (z : Str) : (lookM M z = none ∧ valV kvs (Sum.inr z) = none) ∨ ∃ ps a, lookM M z = some ps ∧ valV kvs (Sum.inr z) = some (.ref a) ∧ TupZ H a (ps.map V.str) := by
  unfold MakAt at h
  induction h with
  | nil => exact .inl ⟨rfl, rfl⟩
  | @cons kv m kvs M h _ ih =>
    obtain ⟨h1, a, h2, h3⟩ := h
    rw [lookM_cons]
    by_cases e : m.1 = z
    · rw [if_pos e, valV_pos (by rw [h1, e])]
      exact .inr ⟨m.2, a, rfl, by rw [h2], h3⟩
    · rw [if_neg e, valV_neg (by rw [h1]; exact fun q => e (Sum.inr.inj q))]
      exact ih
theorem MakAt.at {H : Hp} {kvs : List (Key × V)} {M : Mak} (h : MakAt H kvs M) {i : Nat} {k : Key} {v : V} (e : kvs[i]? = some (k, v)) : ∃ m a, M[i]? = some m ∧ k = Sum.inr m.1 ∧ v = .ref a ∧ TupZ H a (m.2.map V.str) := by
  unfold MakAt at h
  induction h generalizing i with
  | nil => cases e
  | @cons kv m kvs M h _ ih =>
    cases i with
    | zero =>
      cases e
      obtain ⟨h1, a, h2, h3⟩ := h
      exact ⟨m, a, rfl, h1, h2, h3⟩
    | succ i => exact ih e
theorem MakAt.key {H : Hp} {kvs : List (Key × V)} {M : Mak} (h : MakAt H kvs M) {z : Str} (hz : z ∈ keysOf M) : ∃ ps a, lookM M z = some ps ∧ valV kvs (Sum.inr z) = some (.ref a) ∧ TupZ H a (ps.map V.str) := by
  rcases h.get z with ⟨e, _⟩ | h
  · exact absurd hz (lookM_none.mp e)
  · exact h
/-- kinds with this leaf and these makings stand at x, their dict at md, their names ns -/
def KindsAt (C : Addr) (H : Hp) (x md : Addr) (leaf : Str) (M : Mak) (ns : List Str) : Prop :=
  ∃ dx nt kvs, H x = some (.ins C dx [("_leaf", .str leaf), ("_makings", .ref md), ("_names", .ref nt)]) ∧ H md = some (.dK kvs) ∧ MakAt H kvs M ∧ H nt = some (.tup (ns.map V.str))
theorem KindsAt.keep {C : Addr} {H H' : Hp} {x md e : Addr} {leaf : Str} {M : Mak} {ns : List Str} (h : KindsAt C H x md leaf M ns) (s : ∀ b o, b ≠ e → H b = some o → H' b = some o) (n1 : x ≠ e) (n2 : md ≠ e) (n3 : ∀ xs, H e ≠ some (.tup xs)) (n4 : ∀ xs, ¬ TupZ H e xs) : KindsAt C H' x md leaf M ns := by
  obtain ⟨dx, nt, kvs, h1, h2, h3, h4⟩ := h
  have t : ∀ a xs, H a = some (.tup xs) → H' a = some (.tup xs) := fun a xs q => s a _ (fun z => n3 xs (z ▸ q)) q
  exact ⟨dx, nt, kvs, s _ _ n1 h1, s _ _ n2 h2, h3.same fun a xs q => q.at fun o e' => s _ _ (fun z => n4 xs (z ▸ q)) e', t _ _ h4⟩
theorem KindsAt.same {C : Addr} {H H' : Hp} {x md : Addr} {leaf : Str} {M : Mak} {ns : List Str} (h : KindsAt C H x md leaf M ns) (s : Same H H') : KindsAt C H' x md leaf M ns := by
  obtain ⟨dx, nt, kvs, h1, h2, h3, h4⟩ := h
  exact ⟨dx, nt, kvs, s _ _ h1, s _ _ h2, h3.same fun a xs q => q.mono s, s _ _ h4⟩
end Kl

set_option maxRecDepth 100000
set_option maxHeartbeats 4000000
namespace Kl
open PySem PySem.Spec PyProof.Rows L2 Gx Mx
theorem Paired.snoc {α β : Type} {F : α → β → Prop} {a : α} {b : β} (h : F a b) : ∀ {l₁ : List α} {l₂ : List β}, Paired F l₁ l₂ → Paired F (l₁ ++ [a]) (l₂ ++ [b])
  | _, _, .nil => .cons h .nil
  | _, _, .cons x r => .cons x (Paired.snoc h r)
theorem take_snoc {α : Type} {l : List α} {i : Nat} {x : α} (h : l[i]? = some x) : l.take (i + 1) = l.take i ++ [x] := by
  rw [List.take_add_one, h]
  rfl
theorem mak_nd {H : Hp} {kvs : List (Key × V)} {M : Mak} (h : MakAt H kvs M) (nd : (keysOf M).Nodup) : (kvs.map (·.1)).Nodup := by
  rw [h.keys]
  exact List.Pairwise.map Sum.inr (fun a b h q => h (Sum.inr.inj q)) nd
/-- an instance that was made -/
theorem made {C x dx md : Addr} {G H1 : Hp} (nx : G x = none) (ndx : G dx = none) (nmd : (upd (upd G dx (.own x)) x (.ins C dx [])) md = none) (keep : ∀ b o, b ≠ x → (upd (upd G dx (.own x)) x (.ins C dx [])) b = some o → H1 b = some o) : Same G H1 ∧ G md = none := by
  refine ⟨fun b u e => keep b u (ne_of_none e nx) (by rw [upd_ne (ne_of_none e nx), upd_ne (ne_of_none e ndx)]; exact e), ?_⟩
  have n1 : md ≠ x := fun z => by
    rw [z, upd_same] at nmd
    cases nmd
  rw [upd_ne n1] at nmd
  have n2 : md ≠ dx := fun z => by
    rw [z, upd_same] at nmd
    cases nmd
  rwa [upd_ne n2] at nmd
/-! ### sizes, rank by rank: the mathematics -/
abbrev Row := List (Str × Nat)
def keysR (R : Row) : List Str := R.map (·.1)
def lookR (R : Row) (z : Str) : Option Nat := (R.find? fun q => decide (q.1 = z)).map (·.2)
def getR (R : Row) (z : Str) : Nat := (lookR R z).getD 0
def fitsR (E : List Str) (ps : List Str) : Bool := ps.all fun p => decide (p ∈ E)
def aboveE (M : Mak) (E : List Str) : List Str := (M.filter fun m => fitsR E m.2).map (·.1)
def aboveR (M : Mak) (R : Row) : Row := (M.filter fun m => fitsR (keysR R) m.2).map fun m => (m.1, (m.2.map (getR R)).sum)
def rowsR (leaf : Str) (M : Mak) : Nat → Row
  | 0 => [(leaf, 1)]
  | r + 1 => aboveR M (rowsR leaf M r)
def setR (leaf : Str) (M : Mak) (r : Nat) : List Str := keysR (rowsR leaf M r)
theorem keys_above (M : Mak) (R : Row) : keysR (aboveR M R) = aboveE M (keysR R) := by
  unfold keysR aboveR aboveE
  rw [List.map_map]
  rfl
theorem set_succ (leaf : Str) (M : Mak) (r : Nat) : setR leaf M (r + 1) = aboveE M (setR leaf M r) := keys_above M _
theorem lookR_cons (q : Str × Nat) (R : Row) (z : Str) : lookR (q :: R) z = if q.1 = z then some q.2 else lookR R z := by
  unfold lookR
  rw [List.find?_cons]
  by_cases h : q.1 = z
  · rw [if_pos h, decide_eq_true h]
    rfl
  · rw [if_neg h, decide_eq_false h]
theorem lookR_in {R : Row} {z : Str} (h : z ∈ keysR R) : ∃ n, lookR R z = some n := by
  induction R with
  | nil => cases h
  | cons q R ih =>
    rw [lookR_cons]
    by_cases e : q.1 = z
    · exact ⟨q.2, if_pos e⟩
    · rw [if_neg e]
      rcases List.mem_cons.mp (show z ∈ q.1 :: keysR R from h) with h | h
      · exact absurd h.symm e
      · exact ih h
theorem lookR_no {R : Row} {z : Str} (h : z ∉ keysR R) : lookR R z = none := by
  induction R with
  | nil => rfl
  | cons q R ih =>
    have h' : ¬ (z = q.1 ∨ z ∈ keysR R) := fun c => h (List.mem_cons.mpr c)
    rw [lookR_cons, if_neg fun e => h' (.inl e.symm)]
    exact ih fun c => h' (.inr c)
/-- the dict of a row -/
def rowK (R : Row) : List (Key × V) := R.map fun q => (Sum.inr q.1, V.int (q.2 : Nat))
theorem rowK_keys (R : Row) : (rowK R).map (·.1) = (keysR R).map Sum.inr := by
  unfold rowK keysR
  rw [List.map_map, List.map_map]
  rfl
theorem rowK_len (R : Row) : (rowK R).length = R.length := List.length_map _
theorem rowK_look (R : Row) (z : Str) : valV (rowK R) (Sum.inr z) = (lookR R z).map fun n => V.int (n : Nat) := by
  induction R with
  | nil => rfl
  | cons q R ih =>
    rw [lookR_cons]
    show valV ((Sum.inr q.1, V.int (q.2 : Nat)) :: rowK R) _ = _
    by_cases e : q.1 = z
    · rw [if_pos e, valV_pos (by rw [e])]
      rfl
    · rw [if_neg e, valV_neg fun c => e (Sum.inr.inj c)]
      exact ih
theorem rowK_get {R : Row} {z : Str} (h : z ∈ keysR R) : valV (rowK R) (Sum.inr z) = some (.int (getR R z : Nat)) := by
  obtain ⟨n, e⟩ := lookR_in h
  rw [rowK_look, e]
  unfold getR
  rw [e]
  rfl
/-! ### names -/
structure Fin6 (leaf : Str) (M : Mak) (ns : List Str) : Prop where
  v : Vld leaf M
  srt : sortedS (keysOf M) = true
  n : IsNames leaf (keysOf M) ns
theorem set_sub {leaf : Str} {M : Mak} : ∀ (r : Nat), ∀ z ∈ setR leaf M r, z = leaf ∨ z ∈ keysOf M
  | 0, z, h => .inl (List.mem_singleton.mp h)
  | r + 1, z, h => by
    rw [set_succ] at h
    obtain ⟨m, hm, rfl⟩ := List.mem_map.mp h
    exact .inr (List.mem_map.mpr ⟨m, (List.mem_filter.mp hm).1, rfl⟩)
theorem above_sub (M : Mak) (E : List Str) : (aboveE M E).Sublist (keysOf M) := List.Sublist.map _ List.filter_sublist
theorem set_srt {leaf : Str} {M : Mak} (s : sortedS (keysOf M) = true) : ∀ r, sortedS (setR leaf M r) = true
  | 0 => (sortedS_iff [leaf]).mpr (List.pairwise_singleton _ _)
  | r + 1 => by
    rw [set_succ]
    exact sortedS_sub s (above_sub M _)
theorem set_nd {leaf : Str} {M : Mak} (d : (keysOf M).Nodup) : ∀ r, (setR leaf M r).Nodup
  | 0 => List.nodup_cons.mpr ⟨List.not_mem_nil, List.nodup_nil⟩
  | r + 1 => by
    rw [set_succ]
    exact d.sublist (above_sub M _)
theorem set_len {leaf : Str} {M : Mak} (v : Vld leaf M) (r : Nat) : (setR leaf M r).length ≤ 6 := v.few _ (set_nd v.nd r) (set_sub r)
theorem rows_len {leaf : Str} {M : Mak} (v : Vld leaf M) (r : Nat) : (rowsR leaf M r).length ≤ 6 := by
  have h := set_len v r
  unfold setR keysR at h
  rw [List.length_map] at h
  exact h
theorem rows_nd {leaf : Str} {M : Mak} (d : (keysOf M).Nodup) (r : Nat) : ((rowK (rowsR leaf M r)).map (·.1)).Nodup := by
  rw [rowK_keys]
  exact List.Pairwise.map Sum.inr (fun a b h q => h (Sum.inr.inj q)) (set_nd d r)
/-! ### sizes are small -/
theorem sum_le {l : List Nat} {b k : Nat} (h : ∀ x ∈ l, x ≤ b) (hl : l.length ≤ k) : l.sum ≤ k * b := by
  induction l generalizing k with
  | nil => exact Nat.zero_le _
  | cons x l ih =>
    rw [List.length_cons] at hl
    obtain ⟨j, rfl⟩ : ∃ j, k = j + 1 := ⟨k - 1, by omega⟩
    have h1 := h x List.mem_cons_self
    have h2 := ih (k := j) (fun y hy => h y (List.mem_cons_of_mem _ hy)) (by omega)
    rw [List.sum_cons, Nat.add_mul, Nat.one_mul]
    omega
theorem getR_le {R : Row} {b : Nat} (h : ∀ q ∈ R, q.2 ≤ b) (z : Str) : getR R z ≤ b := by
  unfold getR
  cases e : lookR R z with
  | none => exact Nat.zero_le _
  | some n =>
    unfold lookR at e
    obtain ⟨q, hq, e2⟩ := Option.map_eq_some_iff.mp e
    have := h q (List.mem_of_find?_eq_some hq)
    show n ≤ b
    omega
theorem rows_le {leaf : Str} {M : Mak} (v : Vld leaf M) : ∀ r, ∀ q ∈ rowsR leaf M r, q.2 ≤ 3 ^ r
  | 0, q, h => by
    rw [List.mem_singleton.mp h]
    exact Nat.le_refl 1
  | r + 1, q, h => by
    obtain ⟨m, hm, rfl⟩ := List.mem_map.mp (show q ∈ aboveR M (rowsR leaf M r) from h)
    have ih := rows_le v r
    obtain ⟨_, _, l3, _⟩ := v.parts m (List.mem_filter.mp hm).1
    have h1 := sum_le (l := m.2.map (getR (rowsR leaf M r))) (b := 3 ^ r) (k := 3) (fun x hx => by
      obtain ⟨z, _, rfl⟩ := List.mem_map.mp hx
      exact getR_le ih z) (by rw [List.length_map]; exact l3)
    show (m.2.map (getR (rowsR leaf M r))).sum ≤ 3 ^ (r + 1)
    rw [Nat.pow_succ]
    omega
/-! ### the sets come again -/
def subs : List Str → List (List Str)
  | [] => [[]]
  | a :: l => subs l ++ (subs l).map (a :: ·)
theorem subs_len : ∀ l : List Str, (subs l).length = 2 ^ l.length
  | [] => rfl
  | a :: l => by
    show (subs l ++ (subs l).map (a :: ·)).length = _
    rw [List.length_append, List.length_map, subs_len l, List.length_cons, Nat.pow_succ]
    omega
theorem subs_mem : ∀ {s l : List Str}, s.Sublist l → s ∈ subs l
  | _, _, .slnil => List.mem_singleton.mpr rfl
  | _, _, .cons a h => List.mem_append.mpr (.inl (subs_mem h))
  | _, _, .cons_cons a h => List.mem_append.mpr (.inr (List.mem_map.mpr ⟨_, subs_mem h, rfl⟩))
theorem nodup_len {α : Type} [DecidableEq α] : ∀ {xs ys : List α}, xs.Nodup → (∀ z ∈ xs, z ∈ ys) → xs.length ≤ ys.length
  | [], ys, _, _ => Nat.zero_le _
  | x :: xs, ys, hn, hs => by
    rw [List.nodup_cons] at hn
    have hx : x ∈ ys := hs x List.mem_cons_self
    have h1 := nodup_len (ys := ys.erase x) hn.2 fun z hz => (List.mem_erase_of_ne (fun e => hn.1 (by rw [e] at hz; exact hz))).mpr (hs z (List.mem_cons_of_mem _ hz))
    rw [List.length_erase_of_mem hx] at h1
    have : 0 < ys.length := List.length_pos_of_mem hx
    rw [List.length_cons]
    omega
theorem sorted_sublist {l m : List Str} (hl : sortedS l = true) (hm : sortedS m = true) (dl : l.Nodup) (dm : m.Nodup) (h : ∀ z ∈ l, z ∈ m) : l.Sublist m := by
  have e : l = m.filter (fun z => decide (z ∈ l)) := sorted_same hl (sortedS_sub hm List.filter_sublist) dl (dm.sublist List.filter_sublist) fun z => by
    rw [List.mem_filter, decide_eq_true_iff]
    exact ⟨fun q => ⟨h z q, q⟩, fun q => q.2⟩
  rw [e]
  exact List.filter_sublist
theorem set_again {leaf : Str} {M : Mak} {ns : List Str} (f : Fin6 leaf M ns) (n : Nat) (hn : ∀ i j, i < j → j ≤ n → setR leaf M i ≠ setR leaf M j) : n < 64 := by
  have nd : ((List.range (n + 1)).map (setR leaf M)).Nodup := by
    rw [List.nodup_iff_pairwise_ne, List.pairwise_map]
    refine List.Pairwise.imp_of_mem ?_ (List.pairwise_lt_range (n := n + 1))
    intro a b _ hb h
    exact hn a b h (by have := List.mem_range.mp hb; omega)
  have l6 : ns.length ≤ 6 := f.v.few ns f.n.nd fun z hz => (f.n.mem z).mp hz
  have h1 := nodup_len nd (ys := subs ns) fun s hs => by
    obtain ⟨i, _, rfl⟩ := List.mem_map.mp hs
    exact subs_mem (sorted_sublist (set_srt f.srt i) f.n.srt (set_nd f.v.nd i) f.n.nd fun z hz => (f.n.mem z).mpr (set_sub i z hz))
  rw [List.length_map, List.length_range, subs_len] at h1
  have : 2 ^ ns.length ≤ 2 ^ 6 := Nat.pow_le_pow_right (by omega) l6
  omega
/-- L ranks are not alike, and the one behind them is like the one at t -/
structure Turn (leaf : Str) (M : Mak) (L t : Nat) : Prop where
  lt : t < L
  few : L ≤ 64
  ne : ∀ i j, i < j → j < L → setR leaf M i ≠ setR leaf M j
  eq : setR leaf M t = setR leaf M L
end Kl

set_option maxRecDepth 100000
set_option maxHeartbeats 4000000
namespace Kl
open PySem PySem.Spec PyProof.Rows L2 Gx Mx
section
variable {P : Program} {w : World} {K : PySem.W.Frag} {mg : Str → Option Value} {base : Heap}
/-! ### kinds of values -/
theorem tyx_same {H H' : Hp} (sm : Same H H') {v : V} {t : Value} (h : TyX K H v t) : TyX K H' v t := by
  cases h with
  | base b =>
    cases b with
    | non => exact .base .non
    | bl x => exact .base (.bl x)
    | int i => exact .base (.int i)
    | str x => exact .base (.str x)
    | flt x => exact .base (.flt x)
    | lst e => exact .base (.lst (sm _ _ e))
    | frz e => exact .base (.frz (sm _ _ e))
    | tup e => exact .base (.tup (sm _ _ e))
    | dK e => exact .base (.dK (sm _ _ e))
    | dT e => exact .base (.dT (sm _ _ e))
    | ins e cl ha hn htk hm => exact .base (.ins (sm _ _ e) cl ha hn htk hm)
  | byt b => exact .byt b
  | set e => exact .set (sm _ _ e)
  | kList e c => exact .kList e c
  | kTuple e c => exact .kTuple e c
  | kDict e c => exact .kDict e c
  | fTuple e => exact .fTuple (sm _ _ e)
  | fDict e => exact .fDict (sm _ _ e)
/-- the value is no instance of this built-in class -/
def Not (K : PySem.W.Frag) (H : Hp) (v : V) (T : String) : Prop := ∃ t, TyX K H v t ∧ PySem.W.kitOne K t (.type T) = some false
theorem Not.same {H H' : Hp} (sm : Same H H') {v : V} {T : String} (h : Not K H v T) : Not K H' v T := by
  obtain ⟨t, a, b⟩ := h
  exact ⟨t, tyx_same sm a, b⟩
/-- text, or not -/
def NameArg (K : PySem.W.Frag) (H : Hp) (v : V) : Prop := (∃ z : Str, v = .str z ∧ z.length ≤ sizeLine) ∨ ((∀ z, v ≠ .str z) ∧ Not K H v "str")
theorem NameArg.same {H H' : Hp} (sm : Same H H') {v : V} (h : NameArg K H v) : NameArg K H' v := by
  rcases h with h | ⟨a, b⟩
  · exact .inl h
  · exact .inr ⟨a, b.same sm⟩
/-- int, truth, or neither -/
def IntArg (K : PySem.W.Frag) (H : Hp) (v : V) : Prop := (∃ i, v = .int i) ∨ (∃ b, v = .bl b) ∨ ((∀ i, v ≠ .int i) ∧ Not K H v "int")
theorem IntArg.same {H H' : Hp} (sm : Same H H') {v : V} (h : IntArg K H v) : IntArg K H' v := by
  rcases h with h | h | ⟨a, b⟩
  · exact .inl h
  · exact .inr (.inl h)
  · exact .inr (.inr ⟨a, b.same sm⟩)
/-! ### is_integer, is_count -/
def TEN60 : Int := 1000000000000000000000000000000000000000000000000000000000000
def intV : V → Bool
  | .int i => decide (-TEN60 < i) && decide (i < TEN60)
  | _ => false
def cntV : V → Bool
  | .int i => (decide (-TEN60 < i) && decide (i < TEN60)) && decide (0 ≤ i)
  | _ => false
def spInt (K : PySem.W.Frag) : Sp := fun vs H Q _ => ∃ v : V, vs = [v] ∧ IntArg K H v ∧ Q (.bl (intV v)) H
theorem ok_int {f : Addr} {fd : FuncData} (F : Fun K "is_integer" "is_integer" s_is_integer f fd) (T : Top K mg) : FnOk P w K mg base CX0 1 f fd ["value"] (spInt K) := by
  obtain ⟨tm, gm⟩ := T.g__TOO_LONG
  refine F.ok sc_is_integer (fun vs H Q E h => ?_) (fun cdv A outer s H vs Q E hr h => ?_)
  · obtain ⟨v, rfl, _⟩ := h
    rfl
  · obtain ⟨v, rfl, hv, q⟩ := h
    refine ⟨_, pss_cons (ps_if (PW.pt (pw_or (pt_not (pt_val (pe_callB call_isi (by rfl) T.b_isinstance (by decide +kernel) (pa_cons (pv 0) (pa_cons (pe_bltn (v := .ty "int") (by rfl) T.b_int (by decide +kernel) rfl) pa_nil)))))
          (pw_or1 (pt_val (pe_callB call_isi (by rfl) T.b_isinstance (by decide +kernel) (pa_cons (pv 0) (pa_cons (pe_bltn (v := .ty "bool") (by rfl) T.b_bool (by decide +kernel) rfl) pa_nil)))))))
        (pss_one (ps_ret pe_bl)) pss_nil)
      (pss_one (ps_ret (pe_chain op_lt op_lt (pe_un un_neg (pe_glob (v := .int TEN60) (by rfl) gm ⟨_, rfl⟩)) (pv 0) (pe_glob (v := .int TEN60) (by rfl) gm ⟨_, rfl⟩)))), ?_⟩
    rcases hv with ⟨i, rfl⟩ | ⟨b, rfl⟩ | ⟨hn, t, ht, hk⟩
    · refine ⟨_, rfl, _, .ty "int", .type "int", .type "int", true, rfl, .ty _, .base (.int i), kit_ty (by decide +kernel), true, rfl, ?_⟩
      refine ⟨_, rfl, _, .ty "bool", .type "int", .type "bool", false, rfl, .ty _, .base (.int i), kit_ty (by decide +kernel), false, rfl, ?_⟩
      refine ⟨_, rfl, _, rfl, _, _, rfl, rfl, _, rfl, ?_⟩
      have q' : Q (.bl (decide (-TEN60 < i) && decide (i < TEN60))) H := q
      cases e : decide (-TEN60 < i) with
      | false =>
        rw [e] at q'
        exact q'
      | true =>
        rw [e] at q'
        exact ⟨_, _, rfl, rfl, q'⟩
    · refine ⟨_, rfl, _, .ty "int", .type "bool", .type "int", true, rfl, .ty _, .base (.bl b), kit_ty (by decide +kernel), true, rfl, ?_⟩
      exact ⟨_, rfl, _, .ty "bool", .type "bool", .type "bool", true, rfl, .ty _, .base (.bl b), kit_ty (by decide +kernel), true, rfl, q⟩
    · refine ⟨_, rfl, _, .ty "int", t, .type "int", false, rfl, .ty _, ht, hk, false, rfl, ?_⟩
      have e : intV v = false := by
        cases v with
        | int i => exact absurd rfl (hn i)
        | _ => rfl
      rw [e] at q
      exact q
def spCnt (K : PySem.W.Frag) : Sp := fun vs H Q _ => ∃ v : V, vs = [v] ∧ IntArg K H v ∧ Q (.bl (cntV v)) H
theorem ok_cnt {f : Addr} {fd : FuncData} (F : Fun K "is_count" "is_count" s_is_count f fd) (T : Top K mg) : FnOk P w K mg base CX0 2 f fd ["value"] (spCnt K) := by
  have ci : Cal P w K mg base 1 "is_integer" ["value"] (spInt K) := T.d_is_integer.cal fun f fd F => ok_int F T
  refine F.ok sc_is_count (fun vs H Q E h => ?_) (fun cdv A outer s H vs Q E hr h => ?_)
  · obtain ⟨v, rfl, _⟩ := h
    rfl
  · obtain ⟨v, rfl, hv, q⟩ := h
    refine ⟨_, pss_one (ps_ret (pe_and (pe_cal ci hr (by rfl) (pa_cons (pv 0) pa_nil)) (pe_one (pe_cmpR op_ge (pv 0) pe_int (nomark _))))), ?_⟩
    refine ⟨_, rfl, v, rfl, hv, _, rfl, ?_⟩
    cases v with
    | int i =>
      have q' : Q (.bl (intV (.int i) && decide (0 ≤ i))) H := q
      cases e : intV (.int i) with
      | false =>
        rw [e] at q'
        exact q'
      | true =>
        rw [e] at q'
        exact ⟨_, rfl, _, _, rfl, rfl, q'⟩
    | _ => exact q
/-! ### is_name -/
def nameV : V → Bool
  | .str z => nameB z
  | _ => false
def spName (K : PySem.W.Frag) : Sp := fun vs H Q _ => ∃ v : V, vs = [v] ∧ NameArg K H v ∧ Q (.bl (nameV v)) H
theorem nameV_no {v : V} (h : ∀ z, v ≠ .str z) : nameV v = false := by
  cases v with
  | str z => exact absurd rfl (h z)
  | _ => rfl
theorem ok_name {f : Addr} {fd : FuncData} (F : Fun K "is_name" "is_name" s_is_name f fd) (T : Top K mg) : FnOk P w K mg base CX0 1 f fd ["value"] (spName K) := by
  obtain ⟨tm, gm⟩ := T.g_MAX_LETTERS
  refine F.ok sc_is_name (fun vs H Q E h => ?_) (fun cdv A outer s H vs Q E hr h => ?_)
  · obtain ⟨v, rfl, _⟩ := h
    rfl
  · obtain ⟨v, rfl, hv, q⟩ := h
    refine ⟨_, pss_cons (ps_if (PW.pt (pw_or (pt_not (pt_val (pe_callB call_isi (by rfl) T.b_isinstance (by decide +kernel) (pa_cons (pv 0) (pa_cons (pe_bltn (v := .ty "str") (by rfl) T.b_str (by decide +kernel) rfl) pa_nil)))))
          (pw_or1 (pt_not (pt_chain op_le op_le pe_int (pe_callB call_len_str (by rfl) T.b_len PySem.boot_len (pa_cons (pv 0) pa_nil)) (pe_glob (v := .int 8) (by rfl) gm ⟨_, rfl⟩))))))
        (pss_one (ps_ret pe_bl)) pss_nil)
      (pss_one (ps_ret (pe_and (pe_m0 PySem.F.slot_str_isascii PySem.F.type_str_isascii mt_isascii (pv 0))
        (pe_and (pe_m0 PySem.F.slot_str_isalpha PySem.F.type_str_isalpha mt_isalpha (pv 0)) (pe_one (pe_m0 PySem.F.slot_str_islower PySem.F.type_str_islower mt_islower (pv 0))))))), ?_⟩
    rcases hv with ⟨z, rfl, hz⟩ | ⟨hn, t, ht, hk⟩
    · have q' : Q (.bl (nameB z)) H := q
      refine ⟨_, rfl, _, .ty "str", .type "str", .type "str", true, rfl, .ty _, .base (.str z), kit_ty (by decide +kernel), true, rfl, ?_⟩
      refine ⟨_, rfl, _, rfl, hz, _, _, rfl, rfl, _, rfl, ite2 (fun e1 => ?_) (fun e1 => ?_)⟩
      · have h1 : 1 ≤ z.cps.size := by
          have e2 : (1 : Int) ≤ (z.length : Int) := of_decide_eq_true e1
          have e3 : z.length = z.cps.size := rfl
          omega
        refine ⟨_, _, rfl, rfl, _, rfl, ?_⟩
        have e3 : decide ((z.length : Int) ≤ 8) = decide (z.cps.size ≤ 8) := decide_eq_decide.mpr (by
          have e3 : z.length = z.cps.size := rfl
          omega)
        by_cases h8 : z.cps.size ≤ 8
        · have e4 : decide ((z.length : Int) ≤ 8) = true := e3.trans (decide_eq_true h8)
          rw [e4]
          have e5 : nameB z = (Txt.isascii z && (Txt.isalpha z && Txt.islower z)) := by
            rw [name_by z h1]
            unfold nameB
            rw [decide_eq_true h1, decide_eq_true h8, Bool.true_and, Bool.true_and]
          rw [e5] at q'
          refine ⟨_, rfl, ⟨_, rfl⟩, z, rfl, rfl, trivial, _, rfl, ?_⟩
          cases a1 : Txt.isascii z with
          | false =>
            rw [a1] at q'
            exact q'
          | true =>
            rw [a1] at q'
            refine ⟨_, rfl, ⟨_, rfl⟩, z, rfl, rfl, trivial, _, rfl, ?_⟩
            cases a2 : Txt.isalpha z with
            | false =>
              rw [a2] at q'
              exact q'
            | true =>
              rw [a2] at q'
              exact ⟨_, rfl, ⟨_, rfl⟩, z, rfl, rfl, trivial, q'⟩
        · have e4 : decide ((z.length : Int) ≤ 8) = false := e3.trans (decide_eq_false h8)
          rw [e4]
          show Q (.bl false) H
          have e5 : nameB z = false := by
            unfold nameB
            rw [decide_eq_false h8, Bool.and_false, Bool.false_and]
          rw [← e5]
          exact q'
      · have h1 : ¬ 1 ≤ z.cps.size := fun h => e1 (decide_eq_true (by
          have e3 : z.length = z.cps.size := rfl
          omega))
        refine ⟨_, rfl, ?_⟩
        show Q (.bl false) H
        have e5 : nameB z = false := by
          unfold nameB
          rw [decide_eq_false h1, Bool.false_and, Bool.false_and]
        rw [← e5]
        exact q'
    · refine ⟨_, rfl, _, .ty "str", t, .type "str", false, rfl, .ty _, ht, hk, false, rfl, ?_⟩
      rw [nameV_no hn] at q
      exact q
end
end Kl

set_option maxRecDepth 100000
set_option maxHeartbeats 4000000
namespace Gx
open PySem PySem.Spec PyProof.Rows L2
/-- the name x is a def called with n values by position and keywords ks, that keeps sp and raises nothing -/
def CalO (P : Program) (w : World) (K : PySem.W.Frag) (mg : Str → Option Value) (base : Heap) (k : Nat) (x : Str) (ps : List Str) (n : Nat) (ks : List Str) (gV : List V → List V → List V) (sp : Sp) : Prop :=
  ∃ (f : Addr) (fd : FuncData) (g : List Value → List Value → List Value), FnOk P w K mg base CX0 k f fd ps sp ∧ PySem.W.keepIn K (.ref f) = true ∧ KBn K fd ps n ks g gV ∧ mg x = some (.ref f)
section
variable {P : Program} {w : World} {K : PySem.W.Frag} {mg : Str → Option Value} {base : Heap}
theorem DefK.calO {x qual : Str} {st : Stmt} {ps ks : List Str} {n : Nat} (d : DefK K mg x qual st ps n ks) {k : Nat} {sp : Sp} (h : ∀ f fd, Fun K x qual st f fd → FnOk P w K mg base CX0 k f fd ps sp) : CalO P w K mg base k x ps n ks (fun vs zs => vs ++ zs) sp := by
  obtain ⟨f, fd, F, b, g⟩ := d
  exact ⟨f, fd, _, h f fd F, F.kp, b, g⟩
theorem CalO.mono {x : Str} {ps ks : List Str} {n j k : Nat} {gV : List V → List V → List V} {sp : Sp} (c : CalO P w K mg base j x ps n ks gV sp) (h : j ≤ k) : CalO P w K mg base k x ps n ks gV sp := by
  obtain ⟨f, fd, g, F, more⟩ := c
  exact ⟨f, fd, g, F.mono h, more⟩
end
section
variable {X : Cx}
def tClO (n m : Nat) (sp : Sp) (gV : List V → List V → List V) (t tk : TA) : TE := fun σ H Q => t σ H fun vs H1 => tk σ H1 fun zs H2 => vs.length = n ∧ zs.length = m ∧ sp (gV vs zs) H2 Q E0
theorem pe_calO {x : Str} {ps ks : List Str} {n : Nat} {gV : List V → List V → List V} {sp : Sp} {k : Nat} {e : Expr} {es : List Expr} {kws : List Keyword} {t tk : TA} {p pos : Pos} (c : CalO X.prog X.w X.K X.mg X.base k x ps n ks gV sp) (room : Room k X.A) (hg : Gl X x)
    (h : PA X (e :: es) t) (hk : PK X kws tk) (hall : (backToKw pos (keywordEach kws X.env)).all (·.1.isSome) = true := by rfl) (hks : (backToKw pos (keywordEach kws X.env)).filterMap (·.1) = ks := by rfl)
    (hdb : (x == ("__debug__" : Str)) = false := by decide) (hst : starEach (e :: es) X.env = (false, eval e X.env) :: starEach es X.env := by rfl)
    (hpl : ((backTo pos (starEach (e :: es) X.env)).any (·.1) || (backToKw pos (keywordEach kws X.env)).any (·.1.isNone)) = false := by rfl) :
    PE X (.Call (.Name x p) (e :: es) kws pos) (tClO n ks.length sp gV t tk) := by
  obtain ⟨f, fd, gg, F, kp, b, hm⟩ := c
  refine ⟨fun pins s σ H Q I want => wpAny_Call_Name_kw (ld_glob I hg hm ?_ hdb)⟩
  refine PySem.W.callWith_KW (h₀ := X.base) I.ok.mod.kin kp hall (thn (h.run pos pins s σ H _ I want) ?_) hpl hst
  rintro us s1 ⟨vs, H1, I1, r, q⟩
  refine thn (hk.run pos pins s1 σ H1 _ I1 q) ?_
  rintro ws s2 ⟨zs, H2, I2, rz, l1, l2, q2⟩
  refine ⟨I2.kIn, ?_⟩
  rw [hks]
  have rel := b.rel r rz
  have bt := b.to s2 us ws I2.kIn (r.length.symm.trans l1) (rz.length.symm.trans l2)
  refine wpAny_call (codeAny_mono (F.run X.A X.stack s2 H2 ⟨us, ks.zip ws⟩ _ _ Q E0 room I2.env0 bt rel q2) fun res s' hres => ?_)
  match res, hres with
  | .error e, hres => exact hres.elim
  | .ok (.ret u), hres => exact I2.after hres
end
/-! ### rules within comprehensions, the written part named -/
section
variable {X : Cx} {K : PySem.W.Frag}
theorem pi_tupK {tg l : Expr} {tl : TE} (hk : X.K = K) (hl : PE X l tl) : PI X tg l (iTup K tl) := by
  subst hk
  exact pi_tup hl
theorem pi_listK {tg l : Expr} {tl : TE} (hk : X.K = K) (hl : PE X l tl) : PI X tg l (iList K tl) := by
  subst hk
  exact pi_list hl
theorem op_inSeqK (hk : X.K = K) : OpR X (compareOp .In) (rIn K false) := by
  subst hk
  exact op_in_seq
end
/-- a walk's bookkeeping, whatever its turn does -/
theorem walk_in {J : It} {n : Nat} {G : Hp → Prop} {Y : Nat → Hp → V → Hp → Prop} (w : Walk J n G Y) {H0 : Hp} {Qd : Hp → Prop} {body : V → Hp → (Hp → Prop) → Prop} (Pv : Nat → Hp → Prop) (h0 : Pv 0 H0) (hG : ∀ i H, i ≤ n → Pv i H → G H)
    (hs : ∀ i x H H', i < n → Pv i H → Y i H x H' → body x H' (Pv (i + 1))) (hd : ∀ H, Pv n H → Qd H) :
    ∃ W : Nat → Nat → Hp → Prop, (∃ m, W 0 m H0) ∧ ∀ i m H, W i m H → (J.stop i H ∧ Qd H) ∨ (J.go i H ∧ ∃ Nx : Hp → Prop, (∀ H', Nx H' → ∃ m', m' < m ∧ W (i + 1) m' H') ∧ ∀ x H', J.yld i H x H' → body x H' Nx) := by
  refine ⟨fun i m H => m = n - i ∧ i ≤ n ∧ Pv i H, ⟨n, (Nat.sub_zero n).symm, Nat.zero_le _, h0⟩, ?_⟩
  rintro i m H ⟨rfl, hi, p⟩
  have q := hG i H hi p
  rcases Nat.lt_or_ge i n with lt | ge
  · exact .inr ⟨w.goes i H lt q, Pv (i + 1), fun H' p' => ⟨n - (i + 1), by omega, rfl, lt, p'⟩, fun x H' y => hs i x H H' lt p (w.yields i H x H' lt q y)⟩
  · obtain rfl : i = n := Nat.le_antisymm hi ge
    exact .inl ⟨w.stops H q, hd H p⟩
end Gx
namespace Kl
open PySem PySem.Spec PyProof.Rows L2 Gx Mx
section
variable {P : Program} {w : World} {K : PySem.W.Frag} {mg : Str → Option Value} {base : Heap}
/-! ### is_sorted of texts -/
def spSorted (K : PySem.W.Frag) : Sp := fun vs H Q _ => ∃ (p : Addr) (zs : List Str) (M : Int), vs = [.ref p, .int M] ∧ SqT K H p (zs.map V.str) ∧ TyX K H (.ref p) (.type "tuple") ∧ 0 ≤ M ∧ M ≤ 100 ∧ zs.length ≤ 1000 ∧ (∀ z ∈ zs, z.length ≤ 1000) ∧
  ∀ H', Same H H' → Q (.bl (decide ((zs.length : Int) ≤ M) && (zs.all nameB && sortedS zs))) H'
theorem names_low {z : Str} (h : nameB z = true) : PyData.strOk z = true := by
  unfold nameB at h
  rw [Bool.and_eq_true] at h
  show z.cps.all _ = true
  rw [Array.all_eq_true']
  intro c hc
  have := List.all_eq_true.mp h.2 c (Array.mem_toList_iff.mpr hc)
  exact decide_eq_true (Nat.lt_trans (isLow_lt this) (by decide))
theorem ok_sorted {f : Addr} {fd : FuncData} (F : Fun K "is_sorted" "is_sorted" s_is_sorted f fd) (T : Top K mg) : FnOk P w K mg base CX0 3 f fd ["value", "most"] (spSorted K) := by
  have cc : Cal P w K mg base 2 "is_count" ["value"] (spCnt K) := T.d_is_count.cal fun f fd F => ok_cnt F T
  have cn : Cal P w K mg base 2 "is_name" ["value"] (spName K) := (T.d_is_name.cal fun f fd F => ok_name F T).mono (by decide)
  refine F.ok sc_is_sorted (fun vs H Q E h => ?_) (fun cdv A outer s H vs Q E hr h => ?_)
  · obtain ⟨p, zs, M, rfl, _⟩ := h
    rfl
  · obtain ⟨p, zs, M, rfl, hp, hT, hM, hM2, hlen, hz, hq⟩ := h
    refine ⟨_, pss_cons (ps_if (pt_not (pt_val (pe_cal cc hr (by rfl) (pa_cons (pv 1) pa_nil)))) (pss_one ps_never) pss_nil)
      (pss_cons (ps_if (PW.pt (pw_or (pt_not (pt_val (pe_callB call_isi (by rfl) T.b_isinstance (by decide +kernel) (pa_cons (pv 0) (pa_cons (pe_bltn (v := .ty "tuple") (by rfl) T.b_tuple (by decide +kernel) rfl) pa_nil)))))
          (pw_or1 (pt_cmpR op_gt (pe_callB call_len_seq (by rfl) T.b_len PySem.boot_len (pa_cons (pv 0) pa_nil)) (pv 1) (nomark _))))) (pss_one (ps_ret pe_bl)) pss_nil)
      (pss_cons (ps_if (pt_not (pt_val (pe_callB (cr_all rfl) (by rfl) T.b_all (by decide +kernel) (pa_cons (pe_lc (own := [("name", 2)]) (g := gName 2) (tt := tYes) rfl sc_is_sorted.nd (pi_tup (pv 0))
            (blkOk_by (N := ["value", "most", "name"]) (sc := defScope s_is_sorted) (by decide +kernel))
            (fun _ _ _ _ _ => pg_name (i := 2) sc_is_sorted.nd rfl (.inl rfl)) (fun _ _ _ _ _ => pts_nil) (fun _ _ _ _ _ => pe_cal cn hr (by rfl) (pa_cons (pv 2) pa_nil))) pa_nil)))) (pss_one (ps_ret pe_bl)) pss_nil)
      (pss_one (ps_ret (pe_cmpR (op_eqD hr.units) (pe_callTy call_list_of (by rfl) T.b_list (by decide +kernel) (pa_cons (pv 0) pa_nil)) (pe_callB cr_sortedTS (by rfl) T.b_sorted (by decide +kernel) (pa_cons (pv 0) pa_nil)) (nomark _)))))), ?_⟩
    have hc : cntV (.int M) = true := by
      show ((decide (-TEN60 < M) && decide (M < TEN60)) && decide (0 ≤ M)) = true
      rw [decide_eq_true (show -TEN60 < M by unfold TEN60; omega), decide_eq_true (show M < TEN60 by unfold TEN60; omega), decide_eq_true hM]
      rfl
    refine ⟨_, rfl, .int M, rfl, .inl ⟨M, rfl⟩, _, rfl, ?_⟩
    rw [hc]
    refine ⟨_, rfl, _, .ty "tuple", .type "tuple", .type "tuple", true, rfl, .ty _, hT, kit_ty (by decide +kernel), true, rfl, ?_⟩
    refine ⟨_, rfl, p, _, rfl, .inr hp, _, rfl, _, _, rfl, rfl, _, rfl, ite2 (fun e => ?_) (fun e => ?_)⟩
    · have e1 : decide ((zs.length : Int) ≤ M) = false := decide_eq_false (by
        have := of_decide_eq_true e
        rw [List.length_map] at this
        omega)
      rw [e1, Bool.false_and] at hq
      exact hq H (Same.refl H)
    · have e1 : decide ((zs.length : Int) ≤ M) = true := decide_eq_true (by
        have : ¬ (M < ((zs.map V.str).length : Int)) := fun z => e (decide_eq_true z)
        rw [List.length_map] at this
        omega)
      rw [e1, Bool.true_and] at hq
      refine ⟨_, rfl, p, rfl, ⟨_, hp⟩, fun D hD => ?_⟩
      refine lc_tup (xs := zs.map V.str) (fun j H2 => H2 D = some (.lst ((zs.take j).map fun z => V.bl (nameB z))) ∧ Same H H2) ⟨upd_same, fun b u e => by rw [upd_ne (ne_of_none e hD)]; exact e⟩ (fun j H2 _ hP => ?_) (fun j x H2 hj hP => ?_) (fun H2 hP => ?_)
      · rcases hp with (h | ⟨u, h⟩) | h
        · exact .inl (.inl (hP.2 _ _ h))
        · exact .inl (.inr ⟨u, hP.2 _ _ h⟩)
        · exact .inr h
      · obtain ⟨eD, sm⟩ := hP
        obtain ⟨z, hzj, rfl⟩ : ∃ z, zs[j]? = some z ∧ V.str z = x := by
          rw [List.getElem?_map] at hj
          cases e : zs[j]? with
          | none => rw [e] at hj; cases hj
          | some z => rw [e] at hj; exact ⟨z, rfl, by cases hj; rfl⟩
        refine ⟨rfl, _, rfl, _, rfl, .inl ⟨z, rfl, Nat.le_trans (hz z (List.mem_of_getElem? hzj)) (by decide)⟩, _, eD, ?_, ?_, fun b u e => by rw [upd_ne (ne_of_none e hD)]; exact sm b u e⟩
        · rw [List.length_map, List.length_take]
          exact Nat.lt_of_le_of_lt (Nat.le_trans (Nat.min_le_right _ _) hlen) (by decide)
        · rw [upd_same, List.take_add_one, hzj, List.map_append]
          rfl
      · obtain ⟨eD, sm⟩ := hP
        rw [List.length_map, List.take_length] at eD
        refine ⟨D, zs.map nameB, rfl, .inl (.inl (by rw [eD, List.map_map]; rfl)), _, rfl, ?_⟩
        have ea : (zs.map nameB).all id = zs.all nameB := by rw [List.all_map]; rfl
        rw [ea]
        cases hall : zs.all nameB with
        | false =>
          rw [hall, Bool.false_and] at hq
          exact hq _ sm
        | true =>
          rw [hall, Bool.true_and] at hq
          have hok : ∀ z ∈ zs, PyData.strOk z = true := fun z hz => names_low (List.all_eq_true.mp hall z hz)
          have hp2 : SqT K H2 p (zs.map V.str) := by
            rcases hp with (h | ⟨u, h⟩) | h
            · exact .inl (.inl (sm _ _ h))
            · exact .inl (.inr ⟨u, sm _ _ h⟩)
            · exact .inr h
          refine ⟨_, rfl, p, _, rfl, .inr hp2, fun l nl => ?_⟩
          have sm2 : Same H (upd H2 l (.lst (zs.map V.str))) := fun b u e => by rw [upd_ne (ne_of_none (sm b u e) nl)]; exact sm b u e
          have hp3 : SqT K (upd H2 l (.lst (zs.map V.str))) p (zs.map V.str) := by
            rcases hp with (h | ⟨u, h⟩) | h
            · exact .inl (.inl (sm2 _ _ h))
            · exact .inl (.inr ⟨u, sm2 _ _ h⟩)
            · exact .inr h
          refine ⟨_, rfl, p, zs, rfl, hp3, by omega, fun ys l2 hperm hsrt nl2 => ?_⟩
          refine ⟨.list (tD zs), .list (tD ys), ?_, ?_, shaped_texts hok, shaped_texts (fun z hz => hok z (hperm.mem_iff.mp hz)), ?_⟩
          · exact .lst (.inl (.inl (by rw [upd_ne (ne_of_none upd_same nl2), upd_same]))) (dp_texts zs)
          · exact .lst (.inl (.inl upd_same)) (dp_texts ys)
          · rw [PyData.eqv, eqv_texts, eq_sorted_iff hperm hsrt]
            exact hq _ (fun b u e => by rw [upd_ne (ne_of_none (sm2 b u e) nl2)]; exact sm2 b u e)
/-! ### _is_making of a making -/
def spMaking (K : PySem.W.Frag) : Sp := fun vs H Q _ => ∃ (p : Addr) (zs : List Str), vs = [.ref p] ∧ TupZ H p (zs.map V.str) ∧ zs.all nameB = true ∧ sortedS zs = true ∧ 2 ≤ zs.length ∧ zs.length ≤ 3 ∧ (∀ z ∈ zs, z.length ≤ 1000) ∧ ∀ H', Same H H' → Q (.bl true) H'
theorem ok_making {f : Addr} {fd : FuncData} (F : Fun K "_is_making" "_is_making" s_is_making f fd) (T : Top K mg) : FnOk P w K mg base CX0 4 f fd ["value"] (spMaking K) := by
  obtain ⟨tm, gm⟩ := T.g_MAX_PARTS
  have cs : CalO P w K mg base 3 "is_sorted" ["value", "most"] 1 ["most"] (fun vs zs => vs ++ zs) (spSorted K) := T.d_is_sorted.calO fun f fd F => ok_sorted F T
  refine F.ok sc_is_making (fun vs H Q E h => ?_) (fun cdv A outer s H vs Q E hr h => ?_)
  · obtain ⟨p, zs, rfl, _⟩ := h
    rfl
  · obtain ⟨p, zs, rfl, hp, hn, hs, h2, h3, hz, q⟩ := h
    refine ⟨_, pss_one (ps_ret (pe_and (pe_calO cs hr (by rfl) (pa_cons (pv 0) pa_nil) (pk_cons (pe_glob (v := .int 3) (by rfl) gm ⟨_, rfl⟩) pk_nil))
      (pe_one (pe_cmpR op_ge (pe_callB call_len_seq (by rfl) T.b_len PySem.boot_len (pa_cons (pv 0) pa_nil)) pe_int (nomark _))))), ?_⟩
    refine ⟨_, rfl, rfl, rfl, p, zs, 3, rfl, hp.sq, hp.ty, by decide, by decide, by omega, hz, fun H1 s1 => ⟨_, rfl, ?_⟩⟩
    rw [hn, hs, decide_eq_true (show ((zs.length : Int) ≤ 3) by omega)]
    refine ⟨_, rfl, p, _, rfl, .inr (hp.mono s1).sq, _, _, rfl, rfl, ?_⟩
    have e : decide ((2 : Int) ≤ ((zs.map V.str).length : Int)) = true := decide_eq_true (by rw [List.length_map]; omega)
    show Q (.bl (decide ((2 : Int) ≤ ((zs.map V.str).length : Int)))) H1
    rw [e]
    exact q H1 s1
/-! ### _all_names -/
def spNames : Sp := fun vs H Q _ => ∃ (leaf : Str) (md : Addr) (kvs : List (Key × V)) (ks : List Str), vs = [.str leaf, .ref md] ∧ H md = some (.dK kvs) ∧ kvs.map (·.1) = ks.map Sum.inr ∧ ks.length ≤ 100 ∧
  ∀ (ns : List Str) (p : Addr) (H' : Hp), IsNames leaf ks ns → Same H H' → H p = none → H' p = some (.tup (ns.map V.str)) → Q (.ref p) H'
theorem ok_names {f : Addr} {fd : FuncData} (F : Fun K "_all_names" "_all_names" s_all_names f fd) (T : Top K mg) : FnOk P w K mg base CX0 1 f fd ["leaf", "makings"] spNames := by
  refine F.ok sc_all_names (fun vs H Q E h => ?_) (fun cdv A outer s H vs Q E hr h => ?_)
  · obtain ⟨leaf, md, kvs, ks, rfl, _⟩ := h
    rfl
  · obtain ⟨leaf, md, kvs, ks, rfl, hd, hk, hl, q⟩ := h
    refine ⟨_, pss_one (ps_ret (pe_callTy call_tuple_of (by rfl) T.b_tuple (by decide +kernel) (pa_cons (pe_callB (cr_sortedX rfl) (by rfl) T.b_sorted (by decide +kernel) (pa_cons
      (pe_callTy (cr_setX rfl) (by rfl) T.b_set (by decide +kernel) (pa_cons (pe_lst (pa_cons (pv 0) (pa_starD rfl (pv 1) pa_nil))) pa_nil)) pa_nil)) pa_nil))), ?_⟩
    have ek : (kvs.map fun kv => kV kv.1) = ks.map V.str := by
      have e := congrArg (List.map kV) hk
      rw [List.map_map, List.map_map] at e
      exact e
    have lk : kvs.length = ks.length := by
      have e := congrArg List.length hk
      rw [List.length_map, List.length_map] at e
      exact e
    have e1 : [V.str leaf] ++ ((kvs.map fun kv => kV kv.1) ++ []) = ((leaf :: ks).map V.str) := by rw [List.append_nil, ek]; rfl
    refine ⟨_, rfl, _, rfl, md, kvs, rfl, hd, ?_, fun l nl => ?_⟩
    · show (V.str leaf :: ((kvs.map fun kv => kV kv.1) ++ [])).length ≤ sizeLine
      rw [List.length_cons, List.append_nil, List.length_map]
      exact Nat.le_trans (show kvs.length + 1 ≤ 101 by omega) (by decide)
    have s1 : Same H (upd H l (.lst ((leaf :: ks).map V.str))) := fun b u e => by rw [upd_ne (ne_of_none e nl)]; exact e
    have e2 : upd H l (.lst (V.str leaf :: ((kvs.map fun kv => kV kv.1) ++ []))) = upd H l (.lst ((leaf :: ks).map V.str)) := by rw [← e1]; rfl
    rw [e2]
    generalize hH1 : upd H l (.lst ((leaf :: ks).map V.str)) = H1 at s1
    have h1l : H1 l = some (.lst ((leaf :: ks).map V.str)) := by rw [← hH1, upd_same]
    refine ⟨l, leaf :: ks, rfl, .inl (.inl h1l), by show (leaf :: ks).length ≤ 1000; rw [List.length_cons]; omega, fun a na => ?_⟩
    have s2 : Same H (upd H1 a (SetO' P w a (leaf :: ks))) := fun b u e => by rw [upd_ne (ne_of_none (s1 b u e) na)]; exact s1 b u e
    refine ⟨a, leaf :: ks, rfl, upd_same, by show (leaf :: ks).length ≤ 1000; rw [List.length_cons]; omega, fun ys p hs nd hm np => ?_⟩
    have s3 : Same H (upd (upd H1 a (SetO' P w a (leaf :: ks))) p (.lst (ys.map V.str))) := fun b u e => by rw [upd_ne (ne_of_none (s2 b u e) np)]; exact s2 b u e
    refine ⟨p, ys.map V.str, rfl, .inl ⟨.inl (.inl upd_same), fun t nt => ?_⟩⟩
    refine q ys t _ ⟨hs, nd, fun z => (hm z).trans List.mem_cons⟩ (fun b u e => by rw [upd_ne (ne_of_none (s3 b u e) nt)]; exact s3 b u e) ?_ upd_same
    exact s3.free nt
end
end Kl

set_option maxRecDepth 100000
set_option maxHeartbeats 4000000
namespace Kl
open PySem PySem.Spec PyProof.Rows L2 Gx Mx
section
variable {P : Program} {w : World} {K : PySem.W.Frag} {mg : Str → Option Value} {base : Heap}
theorem flat_strs' (zs : List Str) : (zs.map V.str).all flatV = true := by
  rw [List.all_map]
  exact List.all_eq_true.mpr fun _ _ => rfl
theorem inV_strs (z : Str) (zs : List Str) : inV (.str z) (zs.map V.str) = decide (z ∈ zs) := by
  unfold inV
  rw [List.any_map]
  have e : (fun y => eqV y (V.str z)) ∘ V.str = fun y => decide (y = z) := by
    funext y
    show (y == z) = decide (y = z)
    by_cases h : y = z
    · subst h
      rw [decide_eq_true rfl]
      exact beq_self_eq_true y
    · rw [decide_eq_false h]
      exact beq_eq_false_iff_ne.mpr h
  rw [e, Bool.eq_iff_iff, List.any_eq_true, decide_eq_true_eq]
  constructor
  · rintro ⟨y, hy, q⟩
    rw [← of_decide_eq_true q]
    exact hy
  · intro h
    exact ⟨z, h, decide_eq_true rfl⟩
/-! ### _are_kinds of kinds -/
def spAre : Sp := fun vs H Q _ => ∃ (leaf : Str) (md : Addr) (kvs : List (Key × V)) (M : Mak), vs = [.str leaf, .ref md] ∧ H md = some (.dK kvs) ∧ MakAt H kvs M ∧ Vld leaf M ∧ ∀ H', Same H H' → Q (.bl true) H'
theorem all_true (n : Nat) : (List.replicate n true).all id = true := by
  induction n with
  | zero => rfl
  | succ n ih => rw [List.replicate_succ, List.all_cons, ih]; rfl
theorem rep_snoc (j : Nat) : (List.replicate j (V.bl true)) ++ [V.bl true] = List.replicate (j + 1) (V.bl true) := by
  rw [List.replicate_succ', ]
theorem rep_map (n : Nat) : List.replicate n (V.bl true) = (List.replicate n true).map V.bl := by rw [List.map_replicate]
abbrev NA : List Str := ["leaf", "makings", "names", "name", "part"]
theorem ok_are {f : Addr} {fd : FuncData} (F : Fun K "_are_kinds" "_are_kinds" s_are_kinds f fd) (T : Top K mg) : FnOk P w K mg base CX0 5 f fd ["leaf", "makings"] spAre := by
  obtain ⟨tm, gm⟩ := T.g_MAX_KINDS
  have cn : Cal P w K mg base 4 "is_name" ["value"] (spName K) := (T.d_is_name.cal fun f fd F => ok_name F T).mono (by decide)
  have cm : Cal P w K mg base 4 "_is_making" ["value"] (spMaking K) := T.d_is_making.cal fun f fd F => ok_making F T
  have ca : Cal P w K mg base 4 "_all_names" ["leaf", "makings"] spNames := (T.d_all_names.cal fun f fd F => ok_names F T).mono (by decide)
  refine F.ok sc_are_kinds (fun vs H Q E h => ?_) (fun cdv A outer s H vs Q E hr h => ?_)
  · obtain ⟨leaf, md, kvs, M, rfl, _⟩ := h
    rfl
  · obtain ⟨leaf, md, kvs, M, rfl, hd, hM, hV, q⟩ := h
    have hu := hu_of hr
    refine ⟨_, pss_cons (ps_if (PW.pt (pw_or (pt_not (pt_val (pe_cal cn hr (by rfl) (pa_cons (pv 0) pa_nil)))) (pw_or1 (pt_not (pt_val (pe_callB call_isi (by rfl) T.b_isinstance (by decide +kernel) (pa_cons (pv 1) (pa_cons (pe_bltn (v := .ty "dict") (by rfl) T.b_dict (by decide +kernel) rfl) pa_nil))))))))
          (pss_one (ps_ret pe_bl)) pss_nil)
      (pss_cons (ps_if (pt_not (pt_val (pe_callB (cr_all rfl) (by rfl) T.b_all (by decide +kernel) (pa_cons (pe_lock (pe_lc (own := [("name", 3)]) (g := gName 3) (tt := tYes) rfl sc_are_kinds.nd (pi_keys (pv 1))
            (blkOk_by (N := NA) (sc := defScope s_are_kinds) (by decide +kernel)) (fun _ _ _ _ _ => pg_name (i := 3) sc_are_kinds.nd rfl (.inl rfl)) (fun _ _ _ _ _ => pts_nil)
            (fun _ _ _ _ _ => pe_and (pe_cal cn hr (by rfl) (pa_cons (pv 3) pa_nil)) (pe_one (pe_cal cm hr (by rfl) (pa_cons (pe_dget hu (pv 1) (pv 3) (fun _ _ => rfl)) pa_nil)))))) pa_nil)))) (pss_one (ps_ret pe_bl)) pss_nil)
      (pss_cons (ps_set (i := 2) sc_are_kinds.nd rfl (.inr rfl) (pe_cal ca hr (by rfl) (pa_cons (pv 0) (pa_cons (pv 1) pa_nil))))
      (pss_cons (ps_if (pt_cmpR op_gt (pe_callB call_len_seq (by rfl) T.b_len PySem.boot_len (pa_cons (pv 2) pa_nil)) (pe_glob (v := .int 6) (by rfl) gm ⟨_, rfl⟩) (nomark _)) (pss_one (ps_ret pe_bl)) pss_nil)
      (pss_one (ps_ret (pe_callB (cr_all rfl) (by rfl) T.b_all (by decide +kernel) (pa_cons (pe_lock (pe_lc2 (own := [("name", 3), ("part", 4)]) (vs1 := [4]) (g := gName 3) (g1 := gName 4) (tt := tYes) (tt1 := tYes) rfl sc_are_kinds.nd (pi_keys (pv 1))
            (blkOk_by (N := NA) (sc := defScope s_are_kinds) (by decide +kernel)) (by decide) (fun _ _ _ _ _ => pg_name (i := 3) sc_are_kinds.nd rfl (.inl rfl)) (fun _ _ _ _ _ => pts_nil) (fun _ _ _ _ _ => pi_tupK (K := K) (by exact rfl) (pe_dget hu (pv 1) (pv 3) (fun _ _ => rfl)))
            (fun _ _ _ _ _ => pg_name (i := 4) sc_are_kinds.nd rfl (.inl rfl)) (fun _ _ _ _ _ => pts_nil)
            (fun _ _ _ _ _ => pe_cmpR (op_inSeqK (K := K) (by exact rfl)) (pv 4) (pv 2) (by rfl)))) pa_nil))))))), ?_⟩
    have lM := hV.len
    have lk := hM.len
    -- is_name(leaf), isinstance(makings, dict)
    refine ⟨_, rfl, .str leaf, rfl, .inl ⟨leaf, rfl, Nat.le_trans (pool_len hV.lf) (by decide)⟩, _, rfl, ?_⟩
    rw [show nameV (.str leaf) = true from pool_name hV.lf]
    refine ⟨_, rfl, _, .ty "dict", .type "dict", .type "dict", true, rfl, .ty _, .base (.dK hd), kit_ty (by decide +kernel), true, rfl, ?_⟩
    -- all([..])
    refine ⟨md, _, hd, trivial, fun od => ?_⟩
    have dM : ∀ {j : Nat} {m : Str × List Str}, M[j]? = some m → ∀ {H2 : Hp}, Same (upd H md (.frz od (.dK kvs))) H2 → ∃ a, DGet H2 md (.str m.1) (some (.ref a)) ∧ TupZ H2 a (m.2.map V.str) := by
      intro j m hj H2 s2
      obtain ⟨ps, a, e1, e2, e3⟩ := hM.key (z := m.1) (List.mem_map.mpr ⟨m, List.mem_of_getElem? hj, rfl⟩)
      rw [lookM_mem hV.nd (List.mem_of_getElem? hj)] at e1
      cases e1
      have na : a ≠ md := e3.ne hd (fun _ => nofun)
      refine ⟨a, .inl ⟨kvs, Sum.inr m.1, .inr ⟨od, s2 _ _ upd_same⟩, rfl, e2.symm⟩, (e3.at fun o e => by rw [upd_ne na]; exact e).mono s2⟩
    refine ⟨_, rfl, md, od, rfl, .inl ⟨kvs, upd_same, fun D hD => ?_⟩⟩
    refine lc_it walk_keys (fun j H2 => H2 D = some (.lst (List.replicate j (V.bl true))) ∧ Same (upd H md (.frz od (.dK kvs))) H2) ⟨upd_same, fun b u e => by rw [upd_ne (ne_of_none e hD)]; exact e⟩ (fun j H2 _ hP => hP.2 _ _ upd_same) (fun j x H2 H2' hj hP hy => ?_) (fun H2 hP => ?_)
    · obtain ⟨eD, sm⟩ := hP
      obtain ⟨rfl, k, v, hkv, rfl⟩ := hy
      obtain ⟨m, a, hm, rfl, rfl, _⟩ := hM.at hkv
      have hmM := List.mem_of_getElem? hm
      obtain ⟨p1, p2, p3, p4⟩ := hV.parts m hmM
      obtain ⟨a', hg, ha⟩ := dM hm sm
      have hpool : m.1 ∈ POOL := hV.keys _ (List.mem_map.mpr ⟨m, hmM, rfl⟩)
      refine ⟨rfl, _, rfl, .str m.1, rfl, .inl ⟨m.1, rfl, Nat.le_trans (pool_len hpool) (by decide)⟩, _, rfl, ?_⟩
      rw [show nameV (.str m.1) = true from pool_name hpool]
      refine ⟨_, rfl, _, rfl, md, _, rfl, hg, a', m.2, rfl, ha, List.all_eq_true.mpr fun z hz => pool_name (hV.part hmM hz), p1, p2, p3, fun z hz => Nat.le_trans (pool_len (hV.part hmM hz)) (by decide), fun H3 s3 => ?_⟩
      refine ⟨_, s3 _ _ eD, ?_, ?_, fun b u e => by rw [upd_ne (ne_of_none e hD)]; exact s3 _ _ (sm b u e)⟩
      · rw [List.length_replicate]
        exact Nat.lt_of_le_of_lt (show j ≤ 6 by omega) (by decide)
      · rw [upd_same, rep_snoc]
    obtain ⟨eD, sm⟩ := hP
    have s1 := same_unlock hd sm
    refine ⟨sm _ _ upd_same, D, List.replicate kvs.length true, rfl, .inl (.inl ?_), _, rfl, ?_⟩
    · have nD : D ≠ md := fun z => by
        rw [z, upd_same] at hD
        cases hD
      rw [upd_ne nD, eD, rep_map]
    rw [all_true]
    generalize upd H2 md (.dK kvs) = H3 at s1
    have hd3 := s1 _ _ hd
    have hM3 : MakAt H3 kvs M := hM.same fun a xs e => e.mono s1
    -- names
    refine ⟨_, rfl, _, rfl, leaf, md, kvs, keysOf M, rfl, hd3, hM3.keys, by unfold keysOf; rw [List.length_map]; omega, fun ns p H4 hns s4 np hp => ?_⟩
    refine ⟨_, rfl, p, _, rfl, .inr (.inl (.inl hp)), _, _, rfl, rfl, _, rfl, ?_⟩
    have few : ns.length ≤ 6 := hV.few ns hns.nd fun z hz => (hns.mem z).mp hz
    refine ite2 (fun e => ?_) (fun _ => ?_)
    · exfalso
      have e := of_decide_eq_true e
      rw [List.length_map] at e
      omega
    have hd4 := s4 _ _ hd3
    have hM4 : MakAt H4 kvs M := hM3.same fun a xs e => e.mono s4
    have s14 : Same H H4 := fun b u e => s4 _ _ (s1 _ _ e)
    clear hd hM hd3 hM3 s1 s4 hD eD sm dM
    refine ⟨md, _, hd4, trivial, fun od => ?_⟩
    have npm : p ≠ md := fun z => by
      rw [z, hd4] at hp
      cases hp
    refine ⟨_, rfl, md, od, rfl, .inl ⟨kvs, upd_same, fun D hD => ?_⟩⟩
    refine walk_in walk_keys (fun j H2 => ∃ n, H2 D = some (.lst (List.replicate n (V.bl true))) ∧ n ≤ 3 * j ∧ Same (upd H4 md (.frz od (.dK kvs))) H2) ⟨0, upd_same, Nat.zero_le _, fun b u e => by rw [upd_ne (ne_of_none e hD)]; exact e⟩ (fun j H2 _ hP => by obtain ⟨_, _, _, s5⟩ := hP; exact s5 _ _ upd_same) (fun j x H2 H2' hj hP hy => ?_) (fun H2 hP => ?_)
    · obtain ⟨n, eD, ln, sm⟩ := hP
      obtain ⟨rfl, k, v, hkv, rfl⟩ := hy
      obtain ⟨m, a, hm, rfl, rfl, ha⟩ := hM4.at hkv
      have hmM := List.mem_of_getElem? hm
      obtain ⟨p1, p2, p3, p4⟩ := hV.parts m hmM
      have na : a ≠ md := ha.ne hd4 (fun _ => nofun)
      have ha1 : TupZ (upd H4 md (.frz od (.dK kvs))) a (m.2.map V.str) := ha.at fun o e => by rw [upd_ne na]; exact e
      have hv : valV kvs (Sum.inr m.1) = some (.ref a) := by
        obtain ⟨ps, a', e1, e2, e3⟩ := hM4.key (z := m.1) (List.mem_map.mpr ⟨m, hmM, rfl⟩)
        have e4 : (kvs.map (·.1)).Nodup := by
          rw [hM4.keys]
          exact List.Pairwise.map Sum.inr (fun a b h q => h (Sum.inr.inj q)) hV.nd
        have e5 := val_nodup e4 (Sum.inr m.1, .ref a) (List.mem_of_getElem? hkv)
        exact e5
      refine ⟨rfl, ?_⟩
      refine ⟨_, rfl, _, rfl, md, .ref a, rfl, .inl ⟨kvs, Sum.inr m.1, .inr ⟨od, sm _ _ upd_same⟩, rfl, hv.symm⟩, a, rfl, ⟨_, (ha1.mono sm).sq⟩, ?_⟩
      refine walk_in (walk_tup (K := K) (a := a) (xs := m.2.map V.str)) (fun i H3 => H3 D = some (.lst (List.replicate (n + i) (V.bl true))) ∧ Same (upd H4 md (.frz od (.dK kvs))) H3) ⟨eD, sm⟩ (fun i H3 _ hP => (ha1.mono hP.2).sq) (fun i x H3 H3' hi hP hy => ?_) (fun H3 hP => ?_)
      · obtain ⟨eD3, sm3⟩ := hP
        obtain ⟨rfl, hx⟩ := hy
        obtain ⟨z, hz, rfl⟩ : ∃ z, m.2[i]? = some z ∧ V.str z = x := by
          rw [List.getElem?_map] at hx
          cases e : m.2[i]? with
          | none => rw [e] at hx; cases hx
          | some z => rw [e] at hx; exact ⟨z, rfl, by cases hx; rfl⟩
        have hin : z ∈ ns := (hns.mem z).mpr (p4 z (List.mem_of_getElem? hz))
        refine ⟨rfl, _, rfl, _, rfl, p, ns.map V.str, rfl, .inr (.inl (.inl (sm3 _ _ (by rw [upd_ne npm]; exact hp)))), rfl, flat_strs' ns, ?_⟩
        show ∃ acc, _
        rw [List.length_map] at hi
        refine ⟨_, eD3, ?_, ?_, fun b u e => by rw [upd_ne (ne_of_none e hD)]; exact sm3 b u e⟩
        · rw [List.length_replicate]
          exact Nat.lt_of_le_of_lt (show n + i ≤ 100 by omega) (by decide)
        · rw [upd_same]
          have e : inV (V.str z) (ns.map V.str) = true := by rw [inV_strs, decide_eq_true hin]
          simp only [e, Bool.false_eq_true, if_false]
          rw [rep_snoc, Nat.add_assoc]
      · obtain ⟨eD3, sm3⟩ := hP
        rw [List.length_map] at eD3
        exact ⟨_, eD3, by omega, sm3⟩
    · obtain ⟨n, eD, ln, sm⟩ := hP
      have s1 := same_unlock hd4 sm
      refine ⟨sm _ _ upd_same, D, List.replicate n true, rfl, .inl (.inl ?_), ?_⟩
      · have nD : D ≠ md := fun z => by
          rw [z, upd_same] at hD
          cases hD
        rw [upd_ne nD, eD, rep_map]
      rw [all_true]
      exact q _ fun b u e => s1 _ _ (s14 _ _ e)
end
end Kl

set_option maxRecDepth 100000
set_option maxHeartbeats 4000000
namespace Kl
open PySem PySem.Spec PyProof.Rows L2 Gx Mx
section
variable {P : Program} {w : World} {K : PySem.W.Frag} {mg : Str → Option Value} {base : Heap}
theorem kLM : ("_leaf" : Str) ≠ "_makings" := by decide +kernel
theorem kLN : ("_leaf" : Str) ≠ "_names" := by decide +kernel
theorem kMN : ("_makings" : Str) ≠ "_names" := by decide +kernel
theorem putF_app {k : Str} {v : V} : ∀ fs : List (Str × V), (∀ p ∈ fs, p.1 ≠ k) → putF k v fs = fs ++ [(k, v)]
  | [], _ => rfl
  | p :: fs, h => by
    have ih := putF_app (v := v) fs fun q hq => h q (List.mem_cons_of_mem _ hq)
    obtain ⟨a, b⟩ := p
    show (if a = k then (a, v) :: fs else (a, b) :: putF k v fs) = _
    rw [if_neg (h (a, b) List.mem_cons_self), ih]
    rfl
theorem same_new {H H1 : Hp} {p : Addr} {o : HO} (s : Same H H1) (n : H1 p = none) : Same H (upd H1 p o) := fun b u e => by
  rw [upd_ne (ne_of_none (s b u e) n)]
  exact s b u e
theorem at_texts {zs : List Str} {j : Nat} {x : V} (hj : (zs.map V.str)[j]? = some x) : ∃ z, zs[j]? = some z ∧ V.str z = x := by
  rw [List.getElem?_map] at hj
  cases e : zs[j]? with
  | none => rw [e] at hj; cases hj
  | some z => rw [e] at hj; exact ⟨z, rfl, by cases hj; rfl⟩
/-- the pairs of a dict, for some of its keys -/
def pairsOf' (kvs : List (Key × V)) (ys : List Str) : List (Key × V) := ys.map fun z => (Sum.inr z, (valV kvs (Sum.inr z)).getD .non)
theorem pairs_none {kvs : List (Key × V)} {ys : List Str} {z : Str} (h : z ∉ ys) : valV (pairsOf' kvs ys) (Sum.inr z) = none := by
  induction ys with
  | nil => rfl
  | cons y ys ih =>
    rw [List.mem_cons, not_or] at h
    show valV ((Sum.inr y, _) :: pairsOf' kvs ys) (Sum.inr z) = none
    rw [valV_neg (fun q => h.1 (Sum.inr.inj q).symm)]
    exact ih h.2
theorem mak_pairs {H : Hp} {kvs : List (Key × V)} {M : Mak} (h : MakAt H kvs M) : ∀ {ys : List Str}, (∀ z ∈ ys, z ∈ keysOf M) → MakAt H (pairsOf' kvs ys) (ys.map fun z => (z, (lookM M z).getD []))
  | [], _ => .nil
  | y :: ys, hy => by
    obtain ⟨ps, a, e1, e2, e3⟩ := h.key (hy y List.mem_cons_self)
    refine .cons ⟨rfl, a, ?_, ?_⟩ (mak_pairs h fun z hz => hy z (List.mem_cons_of_mem _ hz))
    · show (valV kvs (Sum.inr y)).getD .non = .ref a
      rw [e2]
      rfl
    · show TupZ H a (((lookM M y).getD []).map V.str)
      rw [e1]
      exact e3
/-! ### Kinds.__init__ -/
def spInit (C : Addr) : Sp := fun vs H Q _ => ∃ (x dx : Addr) (leaf : Str) (pd : Addr) (kvs : List (Key × V)) (M : Mak), vs = [.ref x, .str leaf, .ref pd] ∧ H x = some (.ins C dx []) ∧ H pd = some (.dK kvs) ∧ MakAt H kvs M ∧ Vld leaf M ∧
  ∀ (H' : Hp) (md : Addr) (M' : Mak) (ns : List Str), KindsAt C H' x md leaf M' ns → OrdOf M M' → IsNames leaf (keysOf M) ns → H md = none → (∀ b o, b ≠ x → H b = some o → H' b = some o) → Q .non H'
abbrev NI : List Str := ["self", "leaf", "makings", "name"]
theorem ok_init {C f : Addr} {fd : FuncData} (F : Fun K "__init__" "Kinds.__init__" s_Kinds_init f fd) (T : Top K mg) (TC : Cl_Kinds K mg C) : FnOk P w K mg base CX0 6 f fd ["self", "leaf", "makings"] (spInit C) := by
  have ca : Cal P w K mg base 5 "_are_kinds" ["leaf", "makings"] spAre := T.d_are_kinds.cal fun f fd F => ok_are F T
  have cn : Cal P w K mg base 5 "_all_names" ["leaf", "makings"] spNames := (T.d_all_names.cal fun f fd F => ok_names F T).mono (by decide)
  refine F.ok sc_Kinds_init (fun vs H Q E h => ?_) (fun cdv A outer s H vs Q E hr h => ?_)
  · obtain ⟨x, dx, leaf, pd, kvs, M, rfl, _⟩ := h
    rfl
  · obtain ⟨x, dx, leaf, pd, kvs, M, rfl, hx, hd, hM, hV, q⟩ := h
    have hu := hu_of hr
    refine ⟨_, pss_cons (ps_if (pt_not (pt_val (pe_cal ca hr (by rfl) (pa_cons (pv 1) (pa_cons (pv 2) pa_nil))))) (pss_one ps_never) pss_nil)
      (pss_cons (ps_fld (pv 0) (pv 1) rfl)
      (pss_cons (ps_fld (pv 0) (pe_dc (own := [("name", 3)]) (g := gName 3) (tt := tYes) rfl sc_Kinds_init.nd (pi_list (pe_callB (call_sortedD rfl) (by rfl) T.b_sorted (by decide +kernel) (pa_cons (pv 2) pa_nil)))
          (blkOk_by (N := NI) (sc := defScope s_Kinds_init) (by decide +kernel)) (fun _ _ _ _ _ => pg_name (i := 3) sc_Kinds_init.nd rfl (.inl rfl)) (fun _ _ _ _ _ => pts_nil) (fun _ _ _ _ _ => pv 3) (fun _ _ _ _ _ => pe_dget hu (pv 2) (pv 3) (fun _ _ => rfl))) rfl)
      (pss_one (ps_fld (pv 0) (pe_cal cn hr (by rfl) (pa_cons (pv 1) (pa_cons (pv 2) pa_nil))) rfl)))), ?_⟩
    have lM := hV.len
    have lk := hM.len
    refine ⟨_, rfl, _, rfl, leaf, pd, kvs, M, rfl, hd, hM, hV, fun H1 s1 => ⟨_, rfl, ?_⟩⟩
    -- self._leaf = leaf
    have hx1 := s1 _ _ hx
    refine ⟨_, rfl, _, rfl, x, C, dx, [], rfl, hx1, TC.cl, TC.n_leaf, by decide, ?_⟩
    have npx : pd ≠ x := fun z => by
      rw [z, hx] at hd
      cases hd
    have tupx : ∀ {H2 : Hp}, (∀ b o, b ≠ x → H b = some o → H2 b = some o) → MakAt H2 kvs M := fun {H2} s2 => hM.same fun a xs e => e.at fun o => s2 _ _ (e.ne hx (fun _ => nofun))
    have k1 : ∀ b o, b ≠ x → H b = some o → (upd H1 x (.ins C dx (putF "_leaf" (.str leaf) []))) b = some o := fun b o n e => by
      rw [upd_ne n]
      exact s1 b o e
    have x1 : (upd H1 x (.ins C dx (putF "_leaf" (.str leaf) []))) x = some (.ins C dx [("_leaf", .str leaf)]) := by
      rw [upd_same]
      rfl
    have f1 : ∀ b, (upd H1 x (.ins C dx (putF "_leaf" (.str leaf) []))) b = none → H b = none := fun b e => by
      have n : b ≠ x := fun z => by
        rw [z, upd_same] at e
        cases e
      rw [upd_ne n] at e
      exact s1.free e
    generalize upd H1 x (.ins C dx (putF "_leaf" (.str leaf) [])) = H2 at k1 x1 f1
    clear s1 hx1
    have hd2 := k1 _ _ npx hd
    have hM2 := tupx k1
    -- self._makings
    refine ⟨_, rfl, pd, kvs, keysOf M, rfl, .inl hd2, hM.keys, by unfold keysOf; rw [List.length_map]; omega, fun ys p hperm hsrt np => ?_⟩
    have nd : (keysOf M).Nodup := hV.nd
    have ndY : ys.Nodup := hperm.nodup_iff.mpr nd
    have lY : ys.length ≤ 6 := by
      rw [hperm.length_eq]
      unfold keysOf
      rw [List.length_map]
      exact lM
    refine ⟨p, rfl, ⟨_, .inl (.inl upd_same)⟩, fun D hD => ?_⟩
    have s2 : Same H2 (upd H2 p (.lst (ys.map V.str))) := same_new (Same.refl H2) np
    refine walk_in (walk_list (K := K) (a := p) (xs := ys.map V.str)) (fun j G => G D = some (.dK (pairsOf' kvs (ys.take j))) ∧ Same (upd H2 p (.lst (ys.map V.str))) G) ⟨upd_same, same_new (Same.refl _) hD⟩ (fun j G _ hP => .inl (.inl (hP.2 _ _ upd_same))) (fun j v G G' hj hP hy => ?_) (fun G hP => ?_)
    · obtain ⟨eD, sm⟩ := hP
      obtain ⟨rfl, hv⟩ := hy
      obtain ⟨z, hz, rfl⟩ := at_texts hv
      have hzM : z ∈ keysOf M := hperm.mem_iff.mp (List.mem_of_getElem? hz)
      obtain ⟨ps, a, e1, e2, e3⟩ := hM2.key hzM
      refine ⟨rfl, _, rfl, _, rfl, _, rfl, pd, .ref a, rfl, .inl ⟨kvs, Sum.inr z, .inl (sm _ _ (s2 _ _ hd2)), rfl, e2.symm⟩, pairsOf' kvs (ys.take j), Sum.inr z, rfl, eD, ?_, ?_, fun b u e => by rw [upd_ne (ne_of_none e hD)]; exact sm b u e⟩
      · unfold pairsOf'
        rw [List.length_map, List.length_take]
        exact Nat.lt_of_le_of_lt (Nat.le_trans (Nat.min_le_right _ _) lY) (by decide)
      · have hnot : z ∉ ys.take j := by
          intro hin
          obtain ⟨i, hi⟩ := List.mem_iff_getElem?.mp hin
          rw [List.getElem?_take] at hi
          by_cases c : i < j
          · rw [if_pos c] at hi
            have h1 := (List.getElem?_eq_some_iff.mp hi)
            have h2 := (List.getElem?_eq_some_iff.mp hz)
            have h3 := (List.getElem_inj (h₀ := h1.1) (h₁ := h2.1) ndY).mp (h1.2.trans h2.2.symm)
            omega
          · rw [if_neg c] at hi
            cases hi
        rw [upd_same, putK_new _ (pairs_none hnot), List.take_add_one, hz]
        unfold pairsOf'
        rw [List.map_append]
        show some (HO.dK (_ ++ [(Sum.inr z, V.ref a)])) = some (HO.dK (_ ++ [(Sum.inr z, (valV kvs (Sum.inr z)).getD .non)]))
        rw [e2]
        rfl
    obtain ⟨eD, sm⟩ := hP
    rw [List.length_map, List.take_length] at eD
    have s3 : Same H2 G := fun b u e => sm _ _ (s2 _ _ e)
    have fD : H2 D = none := s2.free hD
    have hx3 := s3 _ _ x1
    have nDx : D ≠ x := fun z => by
      rw [z, x1] at fD
      cases fD
    refine ⟨_, rfl, x, C, dx, _, rfl, hx3, TC.cl, TC.n_makings, by show 1 < 1000; decide, ?_⟩
    have e4 : putF "_makings" (.ref D) [("_leaf", .str leaf)] = [(("_leaf" : Str), V.str leaf), ("_makings", .ref D)] := putF_app _ fun p hp => by
      simp only [List.mem_cons, List.not_mem_nil, or_false] at hp
      subst hp
      exact kLM
    rw [e4]
    have k3 : ∀ b o, b ≠ x → H b = some o → (upd G x (.ins C dx [("_leaf", .str leaf), ("_makings", .ref D)])) b = some o := fun b o n e => by
      rw [upd_ne n]
      exact s3 _ _ (k1 b o n e)
    have x3 : (upd G x (.ins C dx [("_leaf", .str leaf), ("_makings", .ref D)])) x = some (.ins C dx [("_leaf", .str leaf), ("_makings", .ref D)]) := upd_same
    have d3 : (upd G x (.ins C dx [("_leaf", .str leaf), ("_makings", .ref D)])) D = some (.dK (pairsOf' kvs ys)) := by
      rw [upd_ne nDx]
      exact eD
    generalize upd G x (.ins C dx [("_leaf", .str leaf), ("_makings", .ref D)]) = H3 at k3 x3 d3
    clear sm eD s3 hx3 s2 x1 hM2 hd2
    have hM3 := tupx k3
    -- self._names
    refine ⟨_, rfl, _, rfl, leaf, pd, kvs, keysOf M, rfl, k3 _ _ npx hd, hM3.keys, by unfold keysOf; rw [List.length_map]; omega, fun ns t H4 hns s4 nt ht => ?_⟩
    refine ⟨_, rfl, x, C, dx, _, rfl, s4 _ _ x3, TC.cl, TC.n_names, by show 2 < 1000; decide, ?_⟩
    have e5 : putF "_names" (.ref t) [("_leaf", .str leaf), ("_makings", .ref D)] = [(("_leaf" : Str), V.str leaf), ("_makings", .ref D), ("_names", .ref t)] := putF_app _ fun p hp => by
      simp only [List.mem_cons, List.not_mem_nil, or_false] at hp
      rcases hp with rfl | rfl
      · exact kLN
      · exact kMN
    rw [e5]
    have k4 : ∀ b o, b ≠ x → H b = some o → (upd H4 x (.ins C dx [("_leaf", .str leaf), ("_makings", .ref D), ("_names", .ref t)])) b = some o := fun b o n e => by
      rw [upd_ne n]
      exact s4 _ _ (k3 b o n e)
    have ntx : t ≠ x := fun z => by
      rw [z, x3] at nt
      cases nt
    refine q _ D (ys.map fun z => (z, (lookM M z).getD [])) ns ⟨dx, t, pairsOf' kvs ys, upd_same, ?_, mak_pairs (tupx k4) fun z hz => hperm.mem_iff.mp hz, ?_⟩ (OrdOf.mk' hsrt hperm nd) hns (f1 _ fD) k4
    · rw [upd_ne nDx]
      exact s4 _ _ d3
    · rw [upd_ne ntx]
      exact ht
end
end Kl

set_option maxRecDepth 100000
set_option maxHeartbeats 4000000
namespace Gx
open PySem PySem.Spec PyProof.Rows L2
section
variable {X : Cx} {K : PySem.W.Frag} {e o : Expr} {f : Str} {te to : TE} {pos apos : Pos}
theorem pe_fldK (hk : X.K = K) (he : PE X e te) (hb : attributeBase e f X.env (eval e X.env) = eval e X.env := by rfl) : PE X (.Attribute e f pos) (tFld K te f) := by
  subst hk
  exact pe_fld he hb
/-- f'..' of two parts or more, told by a name -/
def tJoined (ts : List TE) : TE := fun σ H Q => tJs ts Str.empty σ H fun out H1 => Q (.str out) H1
theorem pe_joinedN {v1 v2 : Expr} {rest : List Expr} {ts : List TE} {pos : Pos} (h : PJ X (v1 :: v2 :: rest) ts) : PE X (.JoinedStr (v1 :: v2 :: rest) pos) (tJoined ts) := pe_joined h
/-- sep.join(xs) -/
def rJoin (K : PySem.W.Frag) : V → List V → Hp → VK → Prop := fun x xs H Q => ∃ a p, ∃ ys : List Str, x = .str a ∧ xs = [.ref p] ∧ (SqL K H p (ys.map V.str) ∨ SqT K H p (ys.map V.str)) ∧ (ys.map (·.length)).sum + ys.length * a.length ≤ 16777216 ∧ Q (.str (Txt.join a ys)) H
theorem pe_joinK (hk : X.K = K) (ho : PE X o to) (he : PE X e te) (hs : starEach [e] X.env = [(false, eval e X.env)] := by rfl) (hbase : attributeBase o "join" X.env (eval o X.env) = eval o X.env := by rfl) (hline : (apos.endLine == pos.line) = true := by rfl) :
    PE X (.Call (.Attribute o "join" apos) [e] [] pos) (tM1 (rJoin K) to te) := by
  subst hk
  exact pe_join ho he hs hbase hline
end
end Gx
namespace Kl
open PySem PySem.Spec PyProof.Rows L2 Gx Mx
section
variable {P : Program} {w : World} {K : PySem.W.Frag} {mg : Str → Option Value} {base : Heap}
/-! ### what Kinds tells: leaf, makings, names, lines -/
abbrev kf (leaf : Str) (md nt : Addr) : List (Str × V) := [("_leaf", .str leaf), ("_makings", .ref md), ("_names", .ref nt)]
theorem kf_leaf (leaf : Str) (md nt : Addr) : List.lookup ("_leaf" : Str) (kf leaf md nt) = some (.str leaf) := by simp [List.lookup]
theorem kf_mak (leaf : Str) (md nt : Addr) : List.lookup ("_makings" : Str) (kf leaf md nt) = some (.ref md) := by
  have h : (("_makings" : Str) == "_leaf") = false := beq_eq_false_iff_ne.mpr (Ne.symm kLM)
  simp [List.lookup, h]
theorem kf_names (leaf : Str) (md nt : Addr) : List.lookup ("_names" : Str) (kf leaf md nt) = some (.ref nt) := by
  have h : (("_names" : Str) == "_leaf") = false := beq_eq_false_iff_ne.mpr (Ne.symm kLN)
  have h2 : (("_names" : Str) == "_makings") = false := beq_eq_false_iff_ne.mpr (Ne.symm kMN)
  simp [List.lookup, h, h2]
theorem kf_no (leaf : Str) (md nt : Addr) {m : Str} (h1 : m ≠ "_leaf") (h2 : m ≠ "_makings") (h3 : m ≠ "_names") : (kf leaf md nt).lookup m = none := by
  have e1 : (m == "_leaf") = false := beq_eq_false_iff_ne.mpr h1
  have e2 : (m == "_makings") = false := beq_eq_false_iff_ne.mpr h2
  have e3 : (m == "_names") = false := beq_eq_false_iff_ne.mpr h3
  simp [List.lookup, e1, e2, e3]
def spKLeaf (C : Addr) : Sp := fun vs H Q _ => ∃ x md leaf M ns, vs = [.ref x] ∧ KindsAt C H x md leaf M ns ∧ Q (.str leaf) H
theorem ok_kleaf {C f : Addr} {fd : FuncData} (F : Fun K "leaf" "Kinds.leaf" s_Kinds_leaf f fd) (TC : Cl_Kinds K mg C) : FnOk P w K mg base CX0 1 f fd ["self"] (spKLeaf C) := by
  refine F.ok sc_Kinds_leaf (fun vs H Q E h => ?_) (fun cdv A outer s H vs Q E hr h => ?_)
  · obtain ⟨x, md, leaf, M, ns, rfl, _⟩ := h
    rfl
  · obtain ⟨x, md, leaf, M, ns, rfl, ⟨dx, nt, kvs, hx, hd, hM, hn⟩, q⟩ := h
    refine ⟨_, pss_one (ps_ret (pe_fld (pv 0) rfl)), ?_⟩
    exact ⟨_, rfl, x, C, dx, _, _, rfl, hx, TC.cl, TC.n_leaf, kf_leaf _ _ _, q⟩
def spKMak (C : Addr) : Sp := fun vs H Q _ => ∃ x md leaf M ns, vs = [.ref x] ∧ KindsAt C H x md leaf M ns ∧ ∀ p kvs, H p = none → MakAt H kvs M → Q (.ref p) (upd H p (.dK kvs))
theorem ok_kmak {C f : Addr} {fd : FuncData} (F : Fun K "makings" "Kinds.makings" s_Kinds_makings f fd) (T : Top K mg) (TC : Cl_Kinds K mg C) : FnOk P w K mg base CX0 1 f fd ["self"] (spKMak C) := by
  refine F.ok sc_Kinds_makings (fun vs H Q E h => ?_) (fun cdv A outer s H vs Q E hr h => ?_)
  · obtain ⟨x, md, leaf, M, ns, rfl, _⟩ := h
    rfl
  · obtain ⟨x, md, leaf, M, ns, rfl, ⟨dx, nt, kvs, hx, hd, hM, hn⟩, q⟩ := h
    refine ⟨_, pss_one (ps_ret (pe_callTy call_dictD (by rfl) T.b_dict (by decide +kernel) (pa_cons (pe_fld (pv 0) rfl) pa_nil))), ?_⟩
    exact ⟨_, rfl, x, C, dx, _, _, rfl, hx, TC.cl, TC.n_makings, kf_mak _ _ _, md, kvs, rfl, .inl hd, fun p np => q p kvs np hM⟩
def spKNam (C : Addr) : Sp := fun vs H Q _ => ∃ x md leaf M ns, vs = [.ref x] ∧ KindsAt C H x md leaf M ns ∧ ∀ p, H p = some (.tup (ns.map V.str)) → Q (.ref p) H
theorem ok_knam {C f : Addr} {fd : FuncData} (F : Fun K "names" "Kinds.names" s_Kinds_names f fd) (TC : Cl_Kinds K mg C) : FnOk P w K mg base CX0 1 f fd ["self"] (spKNam C) := by
  refine F.ok sc_Kinds_names (fun vs H Q E h => ?_) (fun cdv A outer s H vs Q E hr h => ?_)
  · obtain ⟨x, md, leaf, M, ns, rfl, _⟩ := h
    rfl
  · obtain ⟨x, md, leaf, M, ns, rfl, ⟨dx, nt, kvs, hx, hd, hM, hn⟩, q⟩ := h
    refine ⟨_, pss_one (ps_ret (pe_fld (pv 0) rfl)), ?_⟩
    exact ⟨_, rfl, x, C, dx, _, _, rfl, hx, TC.cl, TC.n_names, kf_names _ _ _, q nt hn⟩
/-! ### lines -/
theorem empty_app (a : Str) : Str.empty ++ a = a := by
  show (⟨#[] ++ a.cps⟩ : Str) = a
  rw [Array.empty_append]
theorem len_app (a b : Str) : (a ++ b).length = a.length + b.length := by
  show (a.cps ++ b.cps).size = _
  rw [Array.size_append]
  rfl
end
end Kl

set_option maxRecDepth 100000
set_option maxHeartbeats 4000000
namespace Kl
open PySem PySem.Spec PyProof.Rows L2 Gx Mx
section
variable {P : Program} {w : World} {K : PySem.W.Frag} {mg : Str → Option Value} {base : Heap}
theorem cr_allK {X : Cx} {K : PySem.W.Frag} (hk : X.K = K) (hc : X.calm = true) : CallR X (.builtin "all") (rAll K) := by
  subst hk
  exact cr_all hc
theorem cr_sumK {X : Cx} {K : PySem.W.Frag} (hk : X.K = K) (hc : X.calm = true) : CallR X (.builtin "sum") (rSum K) := by
  subst hk
  exact cr_sum hc
/-! ### the kinds that exist a rank above -/
def spAbove (K : PySem.W.Frag) : Sp := fun vs H Q _ => ∃ (pm pe : Addr) (kvs : List (Key × V)) (M : Mak) (E : List Str), vs = [V.ref pm, V.ref pe] ∧ H pm = some (.dK kvs) ∧ MakAt H kvs M ∧ M.length ≤ 6 ∧ (keysOf M).Nodup ∧ (∀ m ∈ M, m.2.length ≤ 3) ∧ H pe = some (.tup (E.map V.str)) ∧
  ∀ p H', Same H H' → H p = none → H' p = some (.tup ((aboveE M E).map V.str)) → Q (.ref p) H'
abbrev NKA : List Str := ["makings", "existing", "name", "part"]
theorem ok_above {f : Addr} {fd : FuncData} (F : Fun K "_kinds_above" "_kinds_above" s_kinds_above f fd) (T : Top K mg) : FnOk P w K mg base CX0 1 f fd ["makings", "existing"] (spAbove K) := by
  refine F.ok sc_kinds_above (fun vs H Q E h => ?_) (fun cdv A outer s H vs Q E hr h => ?_)
  · obtain ⟨pm, pe, kvs, M, E, rfl, _⟩ := h
    rfl
  · obtain ⟨pm, pe, kvs, M, E, rfl, hm, hM, lM, nd, l3, he, q⟩ := h
    have hu := hu_of hr
    refine ⟨_, pss_one (ps_ret (pe_callTy call_tuple_of (by rfl) T.b_tuple (by decide +kernel) (pa_cons (pe_lock (pe_lc (own := [("name", 2)]) (g := gName 2) rfl sc_kinds_above.nd (pi_keys (pv 0))
          (blkOk_by (N := NKA) (sc := defScope s_kinds_above) (by decide +kernel)) (fun _ _ _ _ _ => pg_name (i := 2) sc_kinds_above.nd rfl (.inl rfl))
          (fun _ _ _ _ _ => pts_one (pt_val (pe_callB (cr_allK (K := K) (by exact rfl) (by exact rfl)) (by rfl) T.b_all (by decide +kernel) (pa_cons (pe_lc (own := [("part", 3)]) (g := gName 3) (tt := tYes) (by exact rfl) (by exact sc_kinds_above.nd) (pi_tupK (K := K) (by exact rfl) (pe_dget hu (pv 0) (pv 2) (fun _ _ => rfl)))
              (by exact blkOk_by (by kernel_rfl)) (fun _ _ _ _ _ => pg_name (i := 3) sc_kinds_above.nd rfl (.inl rfl)) (fun _ _ _ _ _ => pts_nil)
              (fun _ _ _ _ _ => pe_cmpR (op_inSeqK (K := K) (by exact rfl)) (pv 3) (pv 1) (by rfl))) pa_nil))))
          (fun _ _ _ _ _ => pv 2))) pa_nil))), ?_⟩
    have lk := hM.len
    refine ⟨pm, _, hm, trivial, fun od => ?_⟩
    have nem : pe ≠ pm := fun z => by
      rw [z, hm] at he
      cases he
    have heF : (upd H pm (.frz od (.dK kvs))) pe = some (.tup (E.map V.str)) := by
      rw [upd_ne nem]
      exact he
    have hMF : MakAt (upd H pm (.frz od (.dK kvs))) kvs M := hM.same fun a xs h => h.at fun o e => by rw [upd_ne (h.ne hm (fun _ => nofun))]; exact e
    refine ⟨_, rfl, pm, od, rfl, .inl ⟨kvs, upd_same, fun D hD => ?_⟩⟩
    refine lc_it (g := gName 2) (vs := [2]) walk_keys (fun j G => G D = some (.lst ((aboveE (M.take j) E).map V.str)) ∧ Same (upd H pm (.frz od (.dK kvs))) G) ⟨upd_same, same_new (Same.refl _) hD⟩ (fun j G _ hP => hP.2 _ _ upd_same) (fun j v Gx G hj hP hy => ?_) (fun G hP => ?_)
    · obtain ⟨eD, sm⟩ := hP
      obtain ⟨rfl, k, v, hkv, rfl⟩ := hy
      obtain ⟨m, a, hmj, rfl, rfl, ha⟩ := hMF.at hkv
      have hmM := List.mem_of_getElem? hmj
      have lm := l3 m hmM
      have hv : valV kvs (Sum.inr m.1) = some (.ref a) := val_nodup (mak_nd hM nd) (Sum.inr m.1, .ref a) (List.mem_of_getElem? hkv)
      have haG := ha.mono sm
      refine ⟨rfl, _, rfl, _, rfl, pm, _, rfl, .inl ⟨kvs, Sum.inr m.1, .inr ⟨od, sm _ _ upd_same⟩, rfl, hv.symm⟩, a, rfl, ⟨_, haG.sq⟩, fun D2 hD2 => ?_⟩
      refine lc_it (g := gName 3) (tt := tYes) (vs := [3]) (walk_tup (K := K) (a := a) (xs := m.2.map V.str)) (fun i G2 => G2 D2 = some (.lst (((m.2.take i).map fun p => decide (p ∈ E)).map V.bl)) ∧ Same G G2) ⟨upd_same, same_new (Same.refl G) hD2⟩ (fun i G2 _ h => (haG.mono h.2).sq) (fun i v Gx G2 hi h hy => ?_) (fun G2 h => ?_)
      · obtain ⟨eD2, sm2⟩ := h
        obtain ⟨rfl, hv2⟩ := hy
        obtain ⟨z, hz, rfl⟩ := at_texts hv2
        refine ⟨rfl, _, rfl, _, rfl, pe, _, rfl, .inr (.inl (.inl (sm2 _ _ (sm _ _ heF)))), rfl, flat_strs' E, ?_⟩
        show ∃ acc, _
        refine ⟨_, eD2, ?_, ?_, fun b u e => by rw [upd_ne (ne_of_none e hD2)]; exact sm2 b u e⟩
        · rw [List.length_map, List.length_map, List.length_take]
          exact Nat.lt_of_le_of_lt (show _ ≤ 3 by omega) (by decide)
        · rw [upd_same, take_snoc hz, List.map_append, List.map_append, inV_strs]
          rfl
      · obtain ⟨eD2, sm2⟩ := h
        rw [List.length_map, List.take_length] at eD2
        refine ⟨D2, _, rfl, .inl (.inl eD2), ?_⟩
        have ea : ((m.2.map fun p => decide (p ∈ E)).all id) = fitsR E m.2 := by
          unfold fitsR
          rw [List.all_map]
          rfl
        rw [ea]
        have et : aboveE (M.take (j + 1)) E = aboveE (M.take j) E ++ (if fitsR E m.2 = true then [m.1] else []) := by
          unfold aboveE
          rw [take_snoc hmj, List.filter_append, List.map_append]
          by_cases c : fitsR E m.2 = true
          · simp [c]
          · simp [c]
        have sm3 : ∀ b o, (upd H pm (.frz od (.dK kvs))) b = some o → G2 b = some o := fun b o e => sm2 _ _ (sm b o e)
        have eD3 := sm2 _ _ eD
        refine ⟨_, rfl, ?_⟩
        by_cases c : fitsR E m.2 = true
        · rw [if_pos c] at et
          rw [if_pos c]
          refine ⟨_, rfl, _, eD3, ?_, ?_, fun b u e => by rw [upd_ne (ne_of_none e hD)]; exact sm3 b u e⟩
          · rw [List.length_map]
            have := (above_sub (M.take j) E).length_le
            unfold keysOf at this
            rw [List.length_map, List.length_take] at this
            exact Nat.lt_of_le_of_lt (show _ ≤ 7 by omega) (by decide)
          · rw [upd_same, et, List.map_append]
            rfl
        · rw [if_neg c, List.append_nil] at et
          rw [if_neg c]
          rw [et]
          exact ⟨eD3, sm3⟩
    obtain ⟨eD, sm⟩ := hP
    rw [lk, List.take_length] at eD
    have s1 := same_unlock hm sm
    have nD : D ≠ pm := fun z => by
      rw [z, upd_same] at hD
      cases hD
    have nDH : H D = none := by
      rw [upd_ne nD] at hD
      exact hD
    refine ⟨sm _ _ upd_same, D, _, rfl, .inl ⟨.inl (.inl (by rw [upd_ne nD]; exact eD)), fun l nl => ?_⟩⟩
    exact q l _ (same_new s1 nl) (s1.free nl) upd_same
end
end Kl

set_option maxRecDepth 100000
set_option maxHeartbeats 4000000
namespace Kl
open PySem PySem.Spec PyProof.Rows L2 Gx Mx
section
variable {P : Program} {w : World} {K : PySem.W.Frag} {mg : Str → Option Value} {base : Heap}
/-! ### the law's dice -/
def spDice (K : PySem.W.Frag) : Sp := fun vs H Q _ => ∃ (a : Addr) (ns : List Int) (i : Nat), vs = [.ref a, .int i] ∧ SqL K H a (ns.map V.int) ∧ ns.length ≤ 63 ∧ i ≤ 1000 ∧
  ∀ (p : Addr) (x b : Int), H p = none → Q (.ref p) (upd H p (.lst [.int x, .int b, .int 0]))
theorem ok_dice {f : Addr} {fd : FuncData} (F : Fun K "_law_dice" "_law_dice" s_law_dice f fd) (T : Top K mg) : FnOk P w K mg base CX0 1 f fd ["_law_script", "_law_spot"] (spDice K) := by
  refine F.ok sc_law_dice (fun vs H Q E h => ?_) (fun cdv A outer s H vs Q E hr h => ?_)
  · obtain ⟨a, ns, i, rfl, _⟩ := h
    rfl
  · obtain ⟨a, ns, i, rfl, hS, hlen, hi, q⟩ := h
    refine ⟨_, pss_cut (ps_set (i := 2) sc_law_dice.nd rfl (.inl rfl) (pe_ifExp
        (pt_cmpR op_lt (pv 1) (pe_callB call_len_seq (by rfl) T.b_len PySem.boot_len (pa_cons (pv 0) pa_nil)) (nomark _))
        (pe_callTy call_int1 (by rfl) T.b_int (by decide +kernel) (pa_cons (pe_ix ix_list (pv 0) (pv 1) (fun _ _ => rfl)) pa_nil))
        (pe_op op_add (pe_op op_mul pe_int (pv 1)) pe_int)))
      (pss_cons (ps_set (i := 3) sc_law_dice.nd rfl (.inl rfl) (pe_op op_mod
        (pe_callB (call_max2 rfl) (by rfl) T.b_max (by decide +kernel) (pa_cons pe_int (pa_cons (pe_op op_sub
          (pe_callB call_abs (by rfl) T.b_abs (by decide +kernel) (pa_cons (pv 2) pa_nil)) (pe_op op_pow pe_int pe_int)) pa_nil)))
        (pe_op op_mulW (pe_op op_pow pe_int pe_int) (pe_op op_pow pe_int pe_int))))
      (pss_one (ps_ret (pe_lst (pa_cons (pv 3) (pa_cons
        (pe_op op_add (pe_op op_add (pe_op op_add (pe_op op_mul (pe_op op_mod (pe_callB call_abs (by rfl) T.b_abs (by decide +kernel) (pa_cons (pv 2) pa_nil)) pe_int) pe_int)
          (pe_op op_mul pe_int (pv 1)))
          (pe_op op_mul pe_int (pe_callTy call_int1 (by rfl) T.b_int (by decide +kernel) (pa_cons (pe_cmpR op_lt (pv 2) pe_int (nomark _)) pa_nil)))) pe_int)
        (pa_cons pe_int pa_nil))))))), ?_⟩
    refine ⟨fun σ' H' => ∃ c : Int, σ' = [some (.ref a), some (.int i), some (.int c), none] ∧ H' = H, ?_, ?_⟩
    · refine ⟨_, rfl, .ref a, rfl, a, _, rfl, .inl hS, _, _, rfl, rfl, _, rfl, ite2 (fun e => ?_) (fun e => ?_)⟩
      · have e' : i < ns.length := by
          have := of_decide_eq_true e
          rw [List.length_map] at this
          omega
        refine ⟨.ref a, rfl, .int i, rfl, a, _, _, .int ns[i], rfl, rfl, hS, atI_nat (by rw [List.getElem?_map, List.getElem?_eq_getElem e']; rfl), .inl ⟨_, rfl, ns[i], rfl, rfl⟩⟩
      · refine ⟨_, rfl, _, _, rfl, rfl, .inl ⟨by decide, by decide⟩, _, _, rfl, rfl, _, rfl, rfl⟩
    · rintro σ' H' ⟨c, rfl, rfl⟩
      refine ⟨_, rfl, _, rfl, ?_⟩
      refine ⟨_, _, rfl, rfl, ⟨by decide, by decide, by decide⟩, ?_⟩
      refine ⟨_, _, rfl, rfl, ?_⟩
      refine ⟨_, _, rfl, ?_⟩
      refine ⟨_, _, rfl, rfl, ⟨by decide, by decide, by decide⟩, ?_⟩
      refine ⟨_, _, rfl, rfl, ⟨by decide, by decide, by decide⟩, ?_⟩
      refine ⟨_, _, rfl, rfl, wide_mul (a := 200) (b := 200) (by decide) (by decide) (by decide) (by decide) (by decide), ?_⟩
      refine ⟨_, _, rfl, rfl, by show (0 : Int) < _; decide, ?_⟩
      generalize (if (if c < 0 then -c else c) - 10 ^ Int.toNat 17 > 0 then (if c < 0 then -c else c) - 10 ^ Int.toNat 17 else 0) % (10 ^ Int.toNat 60 * 10 ^ Int.toNat 60) = left
      refine ⟨_, rfl, _, rfl, _, rfl, _, _, rfl, rfl, by show (0 : Int) < _; decide, _, _, rfl, rfl, .inr ⟨by decide, by decide⟩, ?_⟩
      refine ⟨_, rfl, _, _, rfl, rfl, .inl ⟨by decide, by decide⟩, _, _, rfl, rfl, _, rfl, _, _, rfl, rfl, .inr ⟨_, rfl, ?_⟩⟩
      refine ⟨_, _, rfl, rfl, .inl ⟨by decide, by decide⟩, _, _, rfl, rfl, _, _, rfl, rfl, by show 3 ≤ sizeLine; decide, fun p hp => ?_⟩
      exact q p _ _ hp
def spRoll : Sp := fun vs H Q _ => ∃ (d : Addr) (t : Int), vs = [.ref d, .int t] ∧ DiceAt H d ∧ 0 < t ∧ t.natAbs.log2 < 9000 ∧
  ∀ (r x b c : Int), 0 ≤ r → r < t → Q (.int r) (upd H d (.lst [.int x, .int b, .int c]))
theorem ok_roll {f : Addr} {fd : FuncData} (F : Fun K "_law_roll" "_law_roll" s_law_roll f fd) (T : Top K mg) : FnOk P w K mg base CX0 1 f fd ["_law_dice_here", "_law_total"] spRoll := by
  refine F.ok sc_law_roll (fun vs H Q E h => ?_) (fun cdv A outer s H vs Q E hr h => ?_)
  · obtain ⟨d, t, rfl, _⟩ := h
    rfl
  · obtain ⟨d, t, rfl, ⟨x, b, c, hd⟩, ht, ht2, q⟩ := h
    refine ⟨_, pss_cons (ps_if (pt_cmpR op_gt (pe_ix ix_list (pv 0) pe_int (fun _ _ => rfl)) pe_int (nomark _))
        (pss_cons (ps_set (i := 2) sc_law_roll.nd rfl (.inl rfl) (pe_op op_mod (pe_callTy call_int1 (by rfl) T.b_int (by decide +kernel) (pa_cons (pe_ix ix_list (pv 0) pe_int (fun _ _ => rfl)) pa_nil)) (pv 1)))
        (pss_cons (ps_asg (pe_op op_fdivW (pe_ix ix_list (pv 0) pe_int (fun _ _ => rfl)) (pv 1)) (pg_sub (pv 0) pe_int set_list))
        (pss_one (ps_ret (pv 2))))) pss_nil)
      (pss_cons (ps_asg (pe_op op_add (pe_ix ix_list (pv 0) pe_int (fun _ _ => rfl)) pe_int) (pg_sub (pv 0) pe_int set_list))
      (pss_cons (ps_set (i := 3) sc_law_roll.nd rfl (.inl rfl) (pe_op op_mod (pe_callTy call_int1 (by rfl) T.b_int (by decide +kernel) (pa_cons
        (pe_op op_add (pe_ix ix_list (pv 0) pe_int (fun _ _ => rfl)) (pe_op op_mul pe_int (pe_ix ix_list (pv 0) pe_int (fun _ _ => rfl)))) pa_nil)) pe_int))
      (pss_cons (ps_set (i := 4) sc_law_roll.nd rfl (.inl rfl) (pe_op op_add (pe_op op_mul (pe_op op_mod (pe_callTy call_int1 (by rfl) T.b_int (by decide +kernel) (pa_cons
        (pe_op op_add (pe_op op_mul (pv 3) (pv 3)) (pe_op op_mul pe_int (pe_ix ix_list (pv 0) pe_int (fun _ _ => rfl)))) pa_nil)) pe_int) pe_int) (pv 3)))
      (pss_one (ps_ret (pe_op op_mod (pe_callTy call_int1 (by rfl) T.b_int (by decide +kernel) (pa_cons (pe_op op_fdiv (pv 4) pe_int) pa_nil)) (pv 1))))))), ?_⟩
    have at0 : ∀ (x y z : V), atI [x, y, z] 0 = some x := fun x y z => atI_nat (j := 0) rfl
    have at1 : ∀ (x y z : V), atI [x, y, z] 1 = some y := fun x y z => atI_nat (j := 1) rfl
    have at2 : ∀ (x y z : V), atI [x, y, z] 2 = some z := fun x y z => atI_nat (j := 2) rfl
    have hS : SqL K H d [.int x, .int b, .int c] := .inl (.inl hd)
    refine ⟨_, rfl, d, _, _, _, rfl, rfl, hS, at0 _ _ _, _, _, rfl, rfl, _, rfl, ite2 (fun e => ?_) (fun e => ?_)⟩
    · refine ⟨_, rfl, d, _, _, _, rfl, rfl, hS, at0 _ _ _, .inl ⟨_, rfl, _, rfl, _, _, rfl, rfl, ht, ?_⟩⟩
      refine ⟨_, rfl, d, _, _, _, rfl, rfl, hS, at0 _ _ _, _, rfl, _, _, rfl, rfl, ⟨ht, ht2⟩, ?_⟩
      refine ⟨_, rfl, d, _, _, 0, rfl, rfl, hd, rfl, ?_⟩
      refine ⟨_, rfl, ?_⟩
      exact q _ _ _ _ (Int.emod_nonneg _ (by omega)) (Int.emod_lt_of_pos _ ht)
    · refine ⟨_, rfl, d, _, _, _, rfl, rfl, hS, at2 _ _ _, _, _, rfl, rfl, ?_⟩
      refine ⟨_, rfl, d, _, _, 2, rfl, rfl, hd, rfl, ?_⟩
      have hd1 : (upd H d (.lst ([V.int x, V.int b, V.int c].set 2 (.int (c + 1))))) d = some (.lst [V.int x, V.int b, V.int (c + 1)]) := upd_same
      have hS1 : SqL K (upd H d (.lst ([V.int x, V.int b, V.int c].set 2 (.int (c + 1))))) d [V.int x, V.int b, V.int (c + 1)] := .inl (.inl hd1)
      refine ⟨_, rfl, d, _, _, _, rfl, rfl, hS1, at1 _ _ _, _, rfl, d, _, _, _, rfl, rfl, hS1, at2 _ _ _, _, _, rfl, rfl, .inl ⟨by decide, by decide⟩, _, _, rfl, rfl, .inl ⟨_, rfl, ?_⟩⟩
      refine ⟨_, _, rfl, rfl, by show (0 : Int) < _; decide, ?_⟩
      have h1 := Int.emod_nonneg (b + 7919 * (c + 1)) (show (2305843009213693907 : Int) ≠ 0 by decide)
      have h2 := Int.emod_lt_of_pos (b + 7919 * (c + 1)) (show (0 : Int) < 2305843009213693907 by decide)
      generalize (b + 7919 * (c + 1)) % 2305843009213693907 = one at h1 h2
      refine ⟨_, rfl, _, rfl, _, _, rfl, rfl, .inl ⟨by omega, by omega⟩, _, rfl, d, _, _, _, rfl, rfl, hS1, at2 _ _ _, _, _, rfl, rfl, .inl ⟨by decide, by decide⟩, _, _, rfl, rfl, .inl ⟨_, rfl, ?_⟩⟩
      refine ⟨_, _, rfl, rfl, by show (0 : Int) < _; decide, _, _, rfl, rfl, .inr ⟨by decide, by decide⟩, _, rfl, _, _, rfl, rfl, ?_⟩
      refine ⟨_, rfl, _, _, rfl, rfl, ⟨by decide, by decide⟩, .inl ⟨_, rfl, _, rfl, _, _, rfl, rfl, ht, ?_⟩⟩
      exact q _ _ _ _ (Int.emod_nonneg _ (by omega)) (Int.emod_lt_of_pos _ ht)
/-- what may be picked from: the items of a list, a tuple, a text -/
def Items (K : PySem.W.Frag) (H : Hp) (d : Addr) (x : V) (xs : List V) : Prop :=
  (∃ p, x = .ref p ∧ p ≠ d ∧ (SqL K H p xs ∨ SqT K H p xs)) ∨ ∃ z : Str, x = .str z ∧ xs = signV z ∧ z.length ≤ sizeLine
def spPick (K : PySem.W.Frag) : Sp := fun vs H Q _ => ∃ (d : Addr) (x : V) (xs : List V), vs = [.ref d, x] ∧ DiceAt H d ∧ Items K H d x xs ∧ xs ≠ [] ∧ xs.length ≤ 100000 ∧
  ∀ (v : V) (x b c : Int), v ∈ xs → Q v (upd H d (.lst [.int x, .int b, .int c]))
theorem log2_small {n : Nat} (h : n ≤ 100000) : ((n : Int).natAbs).log2 < 9000 := by
  have h1 : ((n : Int).natAbs) < 2 ^ 20 := by
    rw [Int.natAbs_natCast]
    exact Nat.lt_of_le_of_lt h (by decide)
  exact Nat.lt_of_lt_of_le (PySem.Flt.log2_lt_of (by decide) h1) (by decide)
theorem ok_pick {f : Addr} {fd : FuncData} (F : Fun K "_law_pick" "_law_pick" s_law_pick f fd) (T : Top K mg) : FnOk P w K mg base CX0 2 f fd ["_law_dice_here", "_law_items"] (spPick K) := by
  have cr : Cal P w K mg base 1 "_law_roll" ["_law_dice_here", "_law_total"] spRoll := T.d_law_roll.cal fun f fd F => ok_roll F T
  refine F.ok sc_law_pick (fun vs H Q E h => ?_) (fun cdv A outer s H vs Q E hr h => ?_)
  · obtain ⟨d, x, xs, rfl, _⟩ := h
    rfl
  · obtain ⟨d, x, xs, rfl, hd, hI, hne, hlen, q⟩ := h
    refine ⟨_, pss_one (ps_ret (pe_ix ix_seq (pv 1) (pe_cal cr hr (by rfl) (pa_cons (pv 0) (pa_cons (pe_callB call_len (by rfl) T.b_len PySem.boot_len (pa_cons (pv 1) pa_nil)) pa_nil))) (fun _ _ => rfl))), ?_⟩
    have hpos : 0 < xs.length := List.length_pos_iff.mpr hne
    rcases hI with ⟨p, rfl, hp, hs⟩ | ⟨z, rfl, rfl, hz⟩
    · refine ⟨_, rfl, _, rfl, _, rfl, _, (xs.length : Nat), rfl, ?_, ?_⟩
      · rcases hs with hs | hs
        · exact .inl ⟨_, hs, rfl⟩
        · exact .inr ⟨_, hs, rfl⟩
      · refine ⟨d, _, rfl, hd, by omega, log2_small hlen, fun r x b c h0 h1 => ?_⟩
        obtain ⟨v, hv, ha⟩ := atI_int (xs := xs) h0 h1
        rcases hs with hs | hs
        · exact .inl ⟨p, _, _, v, rfl, rfl, sqL_ne hp hs, ha, q v x b c hv⟩
        · exact .inr (.inl ⟨p, _, _, v, rfl, rfl, sqT_ne hp hs, ha, q v x b c hv⟩)
    · have hlz := signV_len z
      refine ⟨_, rfl, _, rfl, _, rfl, _, (z.length : Nat), rfl, ⟨hz, rfl⟩, ?_⟩
      refine ⟨d, _, rfl, hd, by omega, log2_small (by omega), fun r x b c h0 h1 => ?_⟩
      obtain ⟨v, hv, ha⟩ := atI_int (xs := z.cps.toList) h0 (by rw [Array.length_toList]; exact h1)
      exact .inr (.inr ⟨z, r, v, rfl, rfl, hz, ha, q _ x b c (List.mem_map.mpr ⟨_, hv, rfl⟩)⟩)
end
end Kl

set_option maxRecDepth 100000
set_option maxHeartbeats 4000000
namespace Kl
open PySem PySem.Spec PyProof.Rows L2 Gx Mx
/-! ### all but the dice stays -/
/-- all but what stands at d is as it was -/
def SameX (d : Addr) (H H' : Hp) : Prop := ∀ b o, b ≠ d → H b = some o → H' b = some o
theorem SameX.refl (d : Addr) (H : Hp) : SameX d H H := fun _ _ _ e => e
theorem SameX.trans {d : Addr} {H H' H'' : Hp} (h : SameX d H H') (h' : SameX d H' H'') : SameX d H H'' := fun b o n e => h' b o n (h b o n e)
theorem SameX.atd {d : Addr} {H H' : Hp} {o : HO} (h : SameX d H H') : SameX d H (upd H' d o) := fun b u n e => by rw [upd_ne n]; exact h b u n e
theorem SameX.new {d p : Addr} {H H' : Hp} {o : HO} (h : SameX d H H') (n : H' p = none) : SameX d H (upd H' p o) := fun b u nb e => by
  have e' := h b u nb e
  rw [upd_ne (ne_of_none e' n)]
  exact e'
theorem SameX.at {d p : Addr} {H H' : Hp} {o : HO} (h : SameX d H H') (n : H p = none) : SameX d H (upd H' p o) := fun b u nb e => by
  rw [upd_ne (ne_of_none e n)]
  exact h b u nb e
theorem SameX.of {d : Addr} {H H' : Hp} (h : Same H H') : SameX d H H' := fun b o _ e => h b o e
theorem SameX.free {d p : Addr} {H H' : Hp} (h : SameX d H H') (n : p ≠ d) (e : H' p = none) : H p = none := by
  cases q : H p with
  | none => rfl
  | some o => rw [h p o n q] at e; cases e
theorem dice_ne {H : Hp} {d p : Addr} (h : DiceAt H d) (e : H p = none) : p ≠ d := fun q => by
  obtain ⟨_, _, _, h⟩ := h
  rw [q, h] at e
  cases e
theorem dice_upd {H : Hp} {d p : Addr} {o : HO} (h : DiceAt H d) (n : p ≠ d) : DiceAt (upd H p o) d := by
  obtain ⟨a, b, c, h⟩ := h
  exact ⟨a, b, c, by rw [upd_ne n.symm]; exact h⟩
theorem dice_new {H : Hp} {d : Addr} (x b c : Int) : DiceAt (upd H d (.lst [.int x, .int b, .int c])) d := ⟨_, _, _, upd_same⟩
end Kl

set_option maxRecDepth 100000
set_option maxHeartbeats 4000000
namespace Gx
open PySem PySem.Spec PyProof.Rows L2 SeqAt Mx
open AutoSeq1 (wpAny_loadPart')
/-! ### a dict is no text; data and dicts in a tuple -/
theorem str_eq_dict (b : Str) (u : Tok) (l : Addr) (dd : Option Addr) (sl : Array (Option Value)) (es : Array DictEntry) (ep : Nat) :
    Meets (Builtin.«str.__eq__» ⟨[.str b u, .ref l], []⟩) (fun _ R s => s.heap.get? l = some { cls := .type "dict", dict := dd, data := .dict es ep, slots := sl } ∧ R (.ok (.ret .notImplemented)) s) :=
  .of_wp fun prog w A R s h => by obtain ⟨hp, g, d, tk, os⟩ := s; obtain ⟨hl, h⟩ := h; wp_walk using wpAny_loadPart' hl, wpAny_load hl; exact ⟨_, rfl, h⟩
theorem dict_eq_str {prog : Program} {w : World} {A : Around} {E : Value → Shared → Prop} {s : Shared} {Q : Value → Shared → Prop} {a : Addr} {b : Str} {u : Tok} (da : s.TypeIs (.ref a) "dict") (h : Q .notImplemented s) :
    wpAny (model prog w) A (call (.builtin "dict.__eq__") [.ref a, .str b u]) Q E s := by
  refine wpAny_call_entry PySem.F.slot_dict_eq da PySem.F.entry_dict_eq ?_ (PySem.F.args_dict_eq_2 _ _)
  show wpAny _ _ (Builtin.Dict.dictSlotArgs "__eq__" ⟨[.ref a, .str b u], []⟩ >>= _) _ _ s
  refine wpAny_bind ?_
  unfold Builtin.Dict.dictSlotArgs
  refine wpAny_bind (wpAny_notOrdered_dict da ?_)
  show wpAny _ _ (pure (Value.ref a, Value.str b u)) _ _ s
  refine wpAny_pure ?_
  refine wpAny_bind (wpAny_isInstance (T := "str") (typeIs_str s b u) PySem.F.sub_str_dict ?_)
  simp only [Bool.not_false, if_true]
  exact wpAny_bind (wpAny_rule (wpAny_bind (wpAny_pure (wpAny_pure ⟨_, rfl, h⟩))))
section
variable {A : Around} {s : Shared}
theorem eqAt_str_dict {l : Addr} {ob : Obj} (b : Str) (u : Tok) (hl : s.heap.get? l = some ob) (hc : ob.cls = .type "dict") {es : Array DictEntry} {ep : Nat} (hde : ob.data = .dict es ep) (hu : A.units < cLine) : EqAt A s (.str b u) (.ref l) false := fun prog w E Q h => by
  unfold eqBool
  refine wpAny_holding ?_
  refine wpAny_ite_split (fun hab => absurd (eq_of_beq hab) nofun) (fun _ => ?_)
  obtain ⟨cls2, dd2, data2, sl2⟩ := ob
  simp only at hc hde
  subst hc hde
  refine wpAny_bind ?_
  exact rc_eq_decline_or (k := false) (typeIs_str s b u) ⟨_, hl, rfl⟩ (by decide) F.sub_dict_str F.slot_str_eq F.slot_dict_eq_refl
    (fun _ hq => call_meets F.slot_str_eq (typeIs_str s b u) F.entry_str_eq (F.args_str_eq_2 _ _) (str_eq_dict b u l dd2 sl2 es ep) ⟨hl, hq⟩)
    (fun _ hq => dict_eq_str ⟨_, hl, rfl⟩ hq)
    (fun _ hq => wpAny_of_eq (rfl : isSame (.str b u) (.ref l) = pure false) hq) (.inr hu) (wpAny_truthy_bool h)
end
section
variable {X : Cx}
theorem vals_mem : ∀ {zs : List Str} {its : List Value} {y : Value}, Vals (zs.map V.str) its → y ∈ its → ∃ z t, y = .str z t
  | [], _, _, .nil, h => nomatch h
  | z :: zs, _, y, .cons r t, h => by
    rcases List.mem_cons.mp h with rfl | h
    · obtain ⟨tk, e⟩ := r
      exact ⟨z, tk, e⟩
    · exact vals_mem t h
/-- x in a tuple of texts: data that are not deep, or a dict -/
def rInTx (K : PySem.W.Frag) : R2 := fun x y H Q => ∃ (p : Addr) (zs : List Str), y = .ref p ∧ SqT K H p (zs.map V.str) ∧ (∀ z ∈ zs, PyData.strOk z = true) ∧
  ((∃ d, Dp K H x d ∧ d.canLay0 = true ∧ d.depth ≤ 10 ∧ Q (.bl ((tD zs).any fun z => PyData.eqv z d)) H) ∨ ∃ a kvs, x = .ref a ∧ H a = some (.dK kvs) ∧ Q (.bl false) H)
theorem op_inTx (hu : X.A.units + 64 < cLine) : OpR X (compareOp .In) (rInTx X.K) := by
  intro pins s σ H x y v u Q I rx ry h
  obtain ⟨p, zs, rfl, hp, ok, h⟩ := h
  rcases h with ⟨d, hd, sd, dp, q⟩ | ⟨a, kvs, rfl, ea, q⟩
  · obtain ⟨as, r1⟩ := Dp.reads I d x v hd rx
    obtain ⟨bs, r2⟩ := Dp.reads I (.tuple (tD zs)) (.ref p) u (.tup hp (dp_texts zs)) ry
    exact SeqAt.in_tuple_reads r2 r1 (canLay_texts zs ok) sd (by omega) ⟨.bl _, H, I, rfl, q⟩
  · cases rx
    cases ry
    obtain ⟨its, rv, pl, hz⟩ := I.tuple hp
    obtain ⟨_, _, vs, _, hd⟩ := dk_of I.hok ea
    obtain ⟨ob, hb, hD⟩ := Heap.dictOf_iff.mp hd
    obtain ⟨es, ep, ex, ed, _⟩ := hD
    have hcb : ob.cls = .type "dict" := ex.1
    refine SeqAt.in_tupleAt (fun _ => false) pl (fun y hy => ?_) ⟨.bl false, H, I, ?_, q⟩
    · rw [List.mem_toArray] at hy
      obtain ⟨z, t, rfl⟩ := vals_mem rv hy
      exact eqAt_str_dict z t hb hcb ed (by show X.A.units + 1 < cLine; omega)
    · show Value.bool _ = Value.bool false
      rw [Array.any_eq_false' |>.mpr (fun _ _ => by simp)]
end
end Gx

set_option maxRecDepth 100000
set_option maxHeartbeats 4000000
namespace Kl
open PySem PySem.Spec PyProof.Rows L2 Gx Mx
section
variable {X : Cx}
/-! ### tuple(list): a tuple whose object is known; its index -/
theorem call_tupleZ : CallR X (.type "tuple") (fun xs H Q => ∃ p ys, xs = [.ref p] ∧ SqL X.K H p ys ∧ ∀ l H', TupZ H' l ys → H l = none → (∀ b, b ≠ l → H' b = H b) → Q (.ref l) H') := by
  intro pins s σ H xs us Q I r h
  obtain ⟨p, ys, rfl, hq, q⟩ := h
  obtain ⟨u, rfl, rx⟩ := vals1 r
  cases rx
  obtain ⟨its, r', pl, hz⟩ := I.list hq
  have hlen := r'.length
  refine call_tuple_list pl.isList (fun h' kp => ?_) (by simp only [List.size_toArray] <;> omega)
  have I1 : Inv X pins σ H { s with heap := h' } := I.kept (t' := s.toks) kp
  have I2 : Inv X pins σ (upd H h'.objs.size (.frz { cls := .type "tuple", data := .seq its.toArray } (.tup ys))) { s with heap := h'.push { cls := .type "tuple", data := .seq its.toArray } } :=
    I1.laid (t' := s.toks) (fun b o e => Heap.get?_push_of_some _ e) (Nat.le_refl _) (show ObjOk X.prog X.w _ _ _ (.frz _ (.tup ys)) from ⟨Heap.get?_push_size _ rfl, hz, its, r', IsTup.new _ _⟩)
  exact ⟨.ref h'.objs.size, _, I2, rfl, q _ _ ⟨_, rfl, upd_same⟩ (I1.hok.fresh (Nat.le_refl _)) (fun b n => upd_ne n)⟩
def tyTupZ (x : V) (H : Hp) : Prop := ∃ a xs, x = .ref a ∧ TupZ H a xs
theorem ty_tupZ : TyOk X "tuple" tyTupZ := by
  intro pins σ H s x v I r ty
  obtain ⟨a, xs, rfl, ob, hd, e⟩ := ty
  cases r
  obtain ⟨e1, hz, its, rv, o2, e2, hc, _⟩ := I.hok a _ e
  rw [e1] at e2
  cases e2
  refine ⟨⟨_, e1, hc⟩, fun b q => ?_⟩
  cases q
  exact ⟨_, e1, hd⟩
end
section
variable {P : Program} {w : World} {K : PySem.W.Frag} {mg : Str → Option Value} {base : Heap}
/-! ### users -/
def spKUse (C : Addr) : Sp := fun vs H Q _ => ∃ x md leaf M ns z, vs = [.ref x, .str z] ∧ KindsAt C H x md leaf M ns ∧ Vld leaf M ∧ z ∈ ns ∧ ∀ p H', Same H H' → H' p = some (.tup ((usersK M z).map V.str)) → Q (.ref p) H'
abbrev NU : List Str := ["self", "name", "user"]
theorem ok_kuse {C f : Addr} {fd : FuncData} (F : Fun K "users" "Kinds.users" s_Kinds_users f fd) (T : Top K mg) (TC : Cl_Kinds K mg C) : FnOk P w K mg base CX0 1 f fd ["self", "name"] (spKUse C) := by
  refine F.ok sc_Kinds_users (fun vs H Q E h => ?_) (fun cdv A outer s H vs Q E hr h => ?_)
  · obtain ⟨x, md, leaf, M, ns, z, rfl, _⟩ := h
    rfl
  · obtain ⟨x, md, leaf, M, ns, n, rfl, ⟨dx, nt, kvs, hx, hd, hM, hn⟩, hV, hin, q⟩ := h
    have hu := hu_of hr
    refine ⟨_, pss_cons (ps_if (pt_cmpR op_notIn_seq (pv 1) (pe_fld (pv 0) rfl) (by rfl)) (pss_one ps_never) pss_nil)
      (pss_one (ps_ret (pe_callTy call_tuple_of (by rfl) T.b_tuple (by decide +kernel) (pa_cons (pe_lock (pe_lc (own := [("user", 2)]) (g := gName 2) rfl sc_Kinds_users.nd (pi_keys (pe_fld (pv 0) rfl))
          (blkOk_by (N := NU) (sc := defScope s_Kinds_users) (by decide +kernel)) (fun _ _ _ _ _ => pg_name (i := 2) sc_Kinds_users.nd rfl (.inl rfl))
          (fun _ _ _ _ _ => pts_one (pt_cmpR (op_inSeqK (K := K) (by exact rfl)) (pv 1) (pe_dget hu (pe_fldK (K := K) (by exact rfl) (pv 0)) (pv 2) (fun _ _ => rfl)) (by rfl)))
          (fun _ _ _ _ _ => pv 2))) pa_nil)))), ?_⟩
    have lM := hV.len
    have lk := hM.len
    refine ⟨_, rfl, _, rfl, x, C, dx, _, _, rfl, hx, TC.cl, TC.n_names, kf_names _ _ _, nt, _, rfl, .inr (.inl (.inl hn)), rfl, flat_strs' ns, _, rfl, ?_⟩
    have e : inV (V.str n) (ns.map V.str) = true := by rw [inV_strs, decide_eq_true hin]
    simp only [e, if_true, Bool.not_true, Bool.false_eq_true, if_false]
    refine ⟨md, _, hd, trivial, fun od => ?_⟩
    have nxm : x ≠ md := fun z => by
      rw [z, hd] at hx
      cases hx
    have hx1 : upd H md (.frz od (.dK kvs)) x = some (.ins C dx (kf leaf md nt)) := by
      rw [upd_ne nxm]
      exact hx
    refine ⟨_, rfl, x, C, dx, _, _, rfl, hx1, TC.cl, TC.n_makings, kf_mak _ _ _, md, od, rfl, .inl ⟨kvs, upd_same, fun D hD => ?_⟩⟩
    refine lc_it (g := gName 2) (vs := [2]) (σ := L2.start NU [.ref x, .str n]) walk_keys (fun j G => G D = some (.lst ((usersK (M.take j) n).map V.str)) ∧ Same (upd H md (.frz od (.dK kvs))) G) ⟨upd_same, same_new (Same.refl _) hD⟩ (fun j G _ hP => hP.2 _ _ upd_same) (fun j v G G' hj hP hy => ?_) (fun G hP => ?_)
    · obtain ⟨eD, sm⟩ := hP
      obtain ⟨rfl, k, v, hkv, rfl⟩ := hy
      obtain ⟨m, a, hm, rfl, rfl, ha⟩ := hM.at hkv
      have hmM := List.mem_of_getElem? hm
      have na : a ≠ md := ha.ne hd (fun _ => nofun)
      have ha1 : TupZ (upd H md (.frz od (.dK kvs))) a (m.2.map V.str) := ha.at fun o e => by rw [upd_ne na]; exact e
      have hv : valV kvs (Sum.inr m.1) = some (.ref a) := by
        have e4 : (kvs.map (·.1)).Nodup := by
          rw [hM.keys]
          exact List.Pairwise.map Sum.inr (fun a b h q => h (Sum.inr.inj q)) hV.nd
        exact val_nodup e4 (Sum.inr m.1, .ref a) (List.mem_of_getElem? hkv)
      refine ⟨rfl, _, rfl, _, rfl, x, C, dx, _, _, rfl, sm _ _ hx1, TC.cl, TC.n_makings, kf_mak _ _ _, _, rfl, md, _, rfl, .inl ⟨kvs, Sum.inr m.1, .inr ⟨od, sm _ _ upd_same⟩, rfl, hv.symm⟩, a, _, rfl, .inr (ha1.mono sm).sq, rfl, flat_strs' m.2, _, rfl, ?_⟩
      have et : M.take (j + 1) = M.take j ++ [m] := by
        rw [List.take_add_one, hm]
        rfl
      have eu : usersK (M.take (j + 1)) n = usersK (M.take j) n ++ (if n ∈ m.2 then [m.1] else []) := by
        unfold usersK
        rw [et, List.filter_append, List.map_append]
        by_cases c : n ∈ m.2
        · simp [c]
        · simp [c]
      have e2 : inV (V.str n) (m.2.map V.str) = decide (n ∈ m.2) := inV_strs n m.2
      by_cases c : n ∈ m.2
      · rw [if_pos c] at eu
        simp only [e2, decide_eq_true c, Bool.false_eq_true, if_false, if_true]
        refine ⟨_, rfl, _, eD, ?_, ?_, fun b u e => by rw [upd_ne (ne_of_none e hD)]; exact sm b u e⟩
        · rw [List.length_map]
          unfold usersK
          rw [List.length_map]
          exact Nat.lt_of_le_of_lt (Nat.le_trans (List.length_filter_le _ _) (by rw [List.length_take]; omega)) (show 7 < sizeLine by decide)
        · rw [upd_same, eu, List.map_append]
          rfl
      · rw [if_neg c, List.append_nil] at eu
        simp only [e2, decide_eq_false c, Bool.false_eq_true, if_false]
        rw [eu]
        exact ⟨eD, sm⟩
    obtain ⟨eD, sm⟩ := hP
    rw [lk, List.take_length] at eD
    have s1 := same_unlock hd sm
    have nD : D ≠ md := fun z => by
      rw [z, upd_same] at hD
      cases hD
    refine ⟨sm _ _ upd_same, D, _, rfl, .inl ⟨.inl (.inl (by rw [upd_ne nD]; exact eD)), fun l nl => ?_⟩⟩
    exact q l _ (same_new s1 nl) upd_same
/-! ### in, [..], len, str -/
def spKHas (K : PySem.W.Frag) (C : Addr) : Sp := fun vs H Q _ => ∃ (x md : Addr) (leaf : Str) (M : Mak) (ns : List Str) (v : V), vs = [V.ref x, v] ∧ KindsAt C H x md leaf M ns ∧ (∀ z ∈ ns, PyData.strOk z = true) ∧
  ((∃ d, Dp K H v d ∧ d.canLay0 = true ∧ d.depth ≤ 10 ∧ Q (.bl ((tD ns).any fun z => PyData.eqv z d)) H) ∨ ∃ a kvs, v = .ref a ∧ H a = some (.dK kvs) ∧ Q (.bl false) H)
theorem ok_khas {C f : Addr} {fd : FuncData} (F : Fun K "__contains__" "Kinds.__contains__" s_Kinds_contains f fd) (T : Top K mg) (TC : Cl_Kinds K mg C) : FnOk P w K mg base CX0 1 f fd ["self", "value"] (spKHas K C) := by
  refine F.ok sc_Kinds_contains (fun vs H Q E h => ?_) (fun cdv A outer s H vs Q E hr h => ?_)
  · obtain ⟨x, md, leaf, M, ns, v, rfl, _⟩ := h
    rfl
  · obtain ⟨x, md, leaf, M, ns, v, rfl, ⟨dx, nt, kvs, hx, hd, hM, hn⟩, ok, q⟩ := h
    have hu := hu_of hr
    refine ⟨_, pss_one (ps_ret (pe_cmpR (op_inTx hr.units) (pv 1) (pe_fld (pv 0) rfl) (by rfl))), ?_⟩
    exact ⟨_, rfl, _, rfl, x, C, dx, _, _, rfl, hx, TC.cl, TC.n_names, kf_names _ _ _, nt, ns, rfl, .inl (.inl hn), ok, q⟩
def spKGet (C : Addr) : Sp := fun vs H Q _ => ∃ (x md : Addr) (leaf : Str) (M : Mak) (ns : List Str) (z : Str), vs = [V.ref x, .str z] ∧ KindsAt C H x md leaf M ns ∧ z ∈ ns ∧
  ∀ p H', Same H H' → ((∃ ps, lookM M z = some ps ∧ TupZ H' p (ps.map V.str)) ∨ (lookM M z = none ∧ H' p = some (.tup []))) → Q (.ref p) H'
theorem ok_kget {C f : Addr} {fd : FuncData} (F : Fun K "__getitem__" "Kinds.__getitem__" s_Kinds_getitem f fd) (T : Top K mg) (TC : Cl_Kinds K mg C) : FnOk P w K mg base CX0 1 f fd ["self", "name"] (spKGet C) := by
  refine F.ok sc_Kinds_getitem (fun vs H Q E h => ?_) (fun cdv A outer s H vs Q E hr h => ?_)
  · obtain ⟨x, md, leaf, M, ns, z, rfl, _⟩ := h
    rfl
  · obtain ⟨x, md, leaf, M, ns, z, rfl, ⟨dx, nt, kvs, hx, hd, hM, hn⟩, hz, q⟩ := h
    have hu := hu_of hr
    refine ⟨_, pss_cons (ps_if (pt_cmpR op_notIn_seq (pv 1) (pe_fld (pv 0) rfl) (by rfl)) (pss_one ps_never) pss_nil)
      (pss_one (ps_ret (pe_dget2 hu (pe_fld (pv 0) rfl) (pv 1) (pe_tup pa_nil) (by constructor <;> rfl)))), ?_⟩
    refine ⟨_, rfl, _, rfl, x, C, dx, _, _, rfl, hx, TC.cl, TC.n_names, kf_names _ _ _, nt, _, rfl, .inr (.inl (.inl hn)), rfl, flat_strs' ns, _, rfl, ?_⟩
    have e : inV (V.str z) (ns.map V.str) = true := by rw [inV_strs, decide_eq_true hz]
    simp only [e, if_true, Bool.not_true, Bool.false_eq_true, if_false]
    refine ⟨_, rfl, x, C, dx, _, _, rfl, hx, TC.cl, TC.n_makings, kf_mak _ _ _, md, rfl, .inl ⟨kvs, .inl hd⟩, _, rfl, Nat.zero_le _, fun p np => ?_⟩
    have s1 : Same H (upd H p (.tup [])) := same_new (Same.refl H) np
    have hd1 := s1 _ _ hd
    rcases hM.get z with ⟨e1, e2⟩ | ⟨ps, a, e1, e2, e3⟩
    · refine ⟨none, .inl ⟨kvs, Sum.inr z, .inl hd1, rfl, e2.symm⟩, ?_⟩
      exact q p _ s1 (.inr ⟨e1, upd_same⟩)
    · refine ⟨some (.ref a), .inl ⟨kvs, Sum.inr z, .inl hd1, rfl, e2.symm⟩, ?_⟩
      exact q a _ s1 (.inl ⟨ps, e1, e3.mono s1⟩)
def spKLen (C : Addr) : Sp := fun vs H Q _ => ∃ (x md : Addr) (leaf : Str) (M : Mak) (ns : List Str), vs = [V.ref x] ∧ KindsAt C H x md leaf M ns ∧ Q (.int (ns.length : Nat)) H
theorem ok_klen {C f : Addr} {fd : FuncData} (F : Fun K "__len__" "Kinds.__len__" s_Kinds_len f fd) (T : Top K mg) (TC : Cl_Kinds K mg C) : FnOk P w K mg base CX0 1 f fd ["self"] (spKLen C) := by
  refine F.ok sc_Kinds_len (fun vs H Q E h => ?_) (fun cdv A outer s H vs Q E hr h => ?_)
  · obtain ⟨x, md, leaf, M, ns, rfl, _⟩ := h
    rfl
  · obtain ⟨x, md, leaf, M, ns, rfl, ⟨dx, nt, kvs, hx, hd, hM, hn⟩, q⟩ := h
    refine ⟨_, pss_one (ps_ret (pe_callB call_len_seq (by rfl) T.b_len PySem.boot_len (pa_cons (pe_fld (pv 0) rfl) pa_nil))), ?_⟩
    refine ⟨_, rfl, x, C, dx, _, _, rfl, hx, TC.cl, TC.n_names, kf_names _ _ _, nt, _, rfl, .inr (.inl (.inl hn)), ?_⟩
    rw [List.length_map]
    exact q
def strK (n : Nat) (leaf : Str) : Str := ((toString (n : Int) : Str) ++ " kinds, leaf ") ++ leaf
theorem strK_len {n : Nat} (h : n ≤ 6) : ((toString (n : Int) : Str)).length ≤ 8 := by
  have e : (List.range 7).all (fun n => decide (((toString (n : Int) : Str)).length ≤ 8)) = true := by decide +kernel
  exact of_decide_eq_true (List.all_eq_true.mp e n (List.mem_range.mpr (by omega)))
theorem log_six {n : Nat} (h : n ≤ 6) : ((n : Int)).natAbs.log2 < 1920 := by
  have e : (List.range 7).all (fun n => decide (((n : Int)).natAbs.log2 < 1920)) = true := by decide +kernel
  exact of_decide_eq_true (List.all_eq_true.mp e n (List.mem_range.mpr (by omega)))
def spKStr (C : Addr) : Sp := fun vs H Q _ => ∃ (x md : Addr) (leaf : Str) (M : Mak) (ns : List Str), vs = [V.ref x] ∧ KindsAt C H x md leaf M ns ∧ ns.length ≤ 6 ∧ leaf.length ≤ 8 ∧ Q (.str (strK ns.length leaf)) H
theorem ok_kstr {C f : Addr} {fd : FuncData} (F : Fun K "__str__" "Kinds.__str__" s_Kinds_str f fd) (T : Top K mg) (TC : Cl_Kinds K mg C) : FnOk P w K mg base CX0 1 f fd ["self"] (spKStr C) := by
  refine F.ok sc_Kinds_str (fun vs H Q E h => ?_) (fun cdv A outer s H vs Q E hr h => ?_)
  · obtain ⟨x, md, leaf, M, ns, rfl, _⟩ := h
    rfl
  · obtain ⟨x, md, leaf, M, ns, rfl, ⟨dx, nt, kvs, hx, hd, hM, hn⟩, l6, l8, q⟩ := h
    refine ⟨_, pss_one (ps_ret (pe_joinedN (.cons (pe_fmt (pe_callB call_len_seq (by rfl) T.b_len PySem.boot_len (pa_cons (pe_fld (pv 0) rfl) pa_nil))) (.cons pe_str (.cons (pe_fmt (pe_fld (pv 0) rfl)) .nil))))), ?_⟩
    refine ⟨_, rfl, x, C, dx, _, _, rfl, hx, TC.cl, TC.n_names, kf_names _ _ _, nt, _, rfl, .inr (.inl (.inl hn)), .inr ⟨(ns.length : Int), by rw [List.length_map], log_six l6, ?_⟩⟩
    have k14 : (" kinds, leaf " : Str).length = 13 := rfl
    have big : 1000 ≤ sizeLine := by decide
    have e8 := strK_len l6
    refine ⟨_, rfl, by rw [empty_app]; omega, _, rfl, by rw [empty_app, len_app]; omega, _, rfl, x, C, dx, _, _, rfl, hx, TC.cl, TC.n_leaf, kf_leaf _ _ _, .inl ⟨leaf, rfl, by omega, _, rfl, by rw [empty_app, len_app, len_app]; omega, ?_⟩⟩
    rw [empty_app]
    exact q
end
end Kl

set_option maxRecDepth 100000
set_option maxHeartbeats 4000000
namespace Kl
open PySem PySem.Spec PyProof.Rows L2 Gx Mx
/-! ### equal makings -/
def eqB (M N : Mak) : Bool := M.length == N.length && M.all fun m => decide (lookM N m.1 = some m.2)
theorem sub_back : ∀ {xs ys : List Str}, xs.Nodup → (∀ z ∈ xs, z ∈ ys) → ys.length ≤ xs.length → ∀ z ∈ ys, z ∈ xs
  | [], ys, _, _, hl, z, hz => by
    have e : ys = [] := List.eq_nil_of_length_eq_zero (Nat.le_zero.mp hl)
    rw [e] at hz
    exact hz
  | x :: xs, ys, nd, hs, hl, z, hz => by
    have nd' := List.nodup_cons.mp nd
    have hx : x ∈ ys := hs x List.mem_cons_self
    by_cases e : z = x
    · rw [e]
      exact List.mem_cons_self
    · refine List.mem_cons_of_mem _ (sub_back nd'.2 (ys := ys.erase x) (fun y hy => ?_) ?_ z ((List.mem_erase_of_ne e).mpr hz))
      · exact (List.mem_erase_of_ne (fun q => nd'.1 (by rw [← q]; exact hy))).mpr (hs y (List.mem_cons_of_mem _ hy))
      · rw [List.length_erase_of_mem hx]
        rw [List.length_cons] at hl
        omega
theorem eqB_iff {M N : Mak} (hM : (keysOf M).Nodup) (hN : (keysOf N).Nodup) : eqB M N = true ↔ ∀ z, lookM M z = lookM N z := by
  unfold eqB
  rw [Bool.and_eq_true, beq_iff_eq, List.all_eq_true]
  constructor
  · rintro ⟨hl, ha⟩ z
    have sub : ∀ z ∈ keysOf M, z ∈ keysOf N := fun z hz => by
      obtain ⟨m, hm, rfl⟩ := List.mem_map.mp hz
      exact List.mem_map.mpr ⟨(m.1, m.2), lookM_some (of_decide_eq_true (ha m hm)), rfl⟩
    have back := sub_back hM sub (by unfold keysOf; rw [List.length_map, List.length_map]; omega)
    by_cases hz : z ∈ keysOf M
    · obtain ⟨m, hm, rfl⟩ := List.mem_map.mp hz
      rw [lookM_mem hM hm, of_decide_eq_true (ha m hm)]
    · rw [lookM_none.mpr hz, lookM_none.mpr fun q => hz (back z q)]
  · intro h
    have k : ∀ z, z ∈ keysOf M ↔ z ∈ keysOf N := fun z => by
      constructor
      · intro q
        obtain ⟨ps, e⟩ := lookM_in q
        rw [h] at e
        exact List.mem_map.mpr ⟨_, lookM_some e, rfl⟩
      · intro q
        obtain ⟨ps, e⟩ := lookM_in q
        rw [← h] at e
        exact List.mem_map.mpr ⟨_, lookM_some e, rfl⟩
    refine ⟨?_, fun m hm => decide_eq_true ((h m.1).symm.trans (lookM_mem hM hm))⟩
    have := ((List.perm_ext_iff_of_nodup hM hN).mpr k).length_eq
    unfold keysOf at this
    rwa [List.length_map, List.length_map] at this
theorem eqB_ord {M M' N N' : Mak} (hM : (keysOf M).Nodup) (hN : (keysOf N).Nodup) (o : OrdOf M M') (o' : OrdOf N N') : eqB M' N' = eqB M N := by
  rw [Bool.eq_iff_iff, eqB_iff o.nd o'.nd, eqB_iff hM hN]
  constructor
  · intro h z
    rw [← o.look, ← o'.look]
    exact h z
  · intro h z
    rw [o.look, o'.look]
    exact h z
theorem hits {K : PySem.W.Frag} {H : Hp} {ls : List (Key × V)} {N : Mak} (hN : MakAt H ls N) : ∀ {ks : List (Key × V)} {M : Mak}, MakAt H ks M → M.length ≤ 1000 → (∀ m ∈ M, SeqAt.shaped (.tuple (tD m.2)) = true) → (∀ m ∈ N, SeqAt.shaped (.tuple (tD m.2)) = true) →
    HitsV K H ls ks (M.all fun m => decide (lookM N m.1 = some m.2))
  | _, _, .nil, _, _, _ => .nil
  | kv :: ks, m :: M, .cons h t, hl, hs, hs' => by
    obtain ⟨h1, a, h2, h3⟩ := h
    have ih := hits (K := K) hN t (by rw [List.length_cons] at hl; omega) (fun m hm => hs m (List.mem_cons_of_mem _ hm)) hs'
    rw [List.all_cons]
    rcases hN.get m.1 with ⟨e1, e2⟩ | ⟨ps, b, e1, e2, e3⟩
    · rw [e1, show decide ((none : Option (List Str)) = some m.2) = false from rfl, Bool.false_and]
      exact .miss (by rw [h1]; exact e2)
    · have e : decide (lookM N m.1 = some m.2) = PyData.eqv (.tuple (tD m.2)) (.tuple (tD ps)) := by
        rw [PyData.eqv, eqv_texts, e1, Bool.eq_iff_iff, decide_eq_true_eq, decide_eq_true_eq]
        constructor
        · intro q
          exact (Option.some.inj q).symm
        · intro q
          rw [q]
      rw [e]
      exact .hit (by rw [h1]; exact e2) (by rw [h2]; exact .tup h3.sq (dp_texts _)) (.tup e3.sq (dp_texts _)) (hs m List.mem_cons_self) (hs' (m.1, ps) (lookM_some e1)) ih
section
variable {P : Program} {w : World} {K : PySem.W.Frag} {mg : Str → Option Value} {base : Heap}
/-! ### == -/
theorem hu66_of {A : Around} {k : Nat} (hr : Room k A) : A.units + 66 < cLine := by
  have := hr.un
  omega
theorem texts_shaped : ∀ (zs : List Str), (∀ z ∈ zs, z ∈ POOL) → zs.length ≤ 3 → SeqAt.shaped (.tuple (tD zs)) = true
  | [], _, _ => by decide +kernel
  | [a], h, _ => by
    have e : POOL.all (fun a => SeqAt.shaped (.tuple (tD [a]))) = true := by decide +kernel
    exact List.all_eq_true.mp e a (h a List.mem_cons_self)
  | [a, b], h, _ => by
    have e : POOL.all (fun a => POOL.all fun b => SeqAt.shaped (.tuple (tD [a, b]))) = true := by decide +kernel
    exact List.all_eq_true.mp (List.all_eq_true.mp e a (h a (by simp))) b (h b (by simp))
  | [a, b, c], h, _ => by
    have e : POOL.all (fun a => POOL.all fun b => POOL.all fun c => SeqAt.shaped (.tuple (tD [a, b, c]))) = true := by decide +kernel
    exact List.all_eq_true.mp (List.all_eq_true.mp (List.all_eq_true.mp e a (h a (by simp))) b (h b (by simp))) c (h c (by simp))
  | a :: b :: c :: d :: r, _, hl => by simp at hl
theorem Vld.shaped {leaf : Str} {M : Mak} (v : Vld leaf M) : ∀ m ∈ M, SeqAt.shaped (.tuple (tD m.2)) = true := fun m hm =>
  texts_shaped m.2 (fun z hz => v.part hm hz) (v.parts m hm).2.2.1
def spKEq (K : PySem.W.Frag) (C : Addr) : Sp := fun vs H Q _ => ∃ (x md : Addr) (leaf : Str) (M : Mak) (ns : List Str) (y : V), vs = [V.ref x, y] ∧ KindsAt C H x md leaf M ns ∧ Vld leaf M ∧
  ((∃ (x' md' : Addr) (leaf' : Str) (N : Mak) (ns' : List Str), y = .ref x' ∧ KindsAt C H x' md' leaf' N ns' ∧ Vld leaf' N ∧ Q (.bl (decide (leaf = leaf') && eqB M N)) H) ∨
    ∃ t, TyX K H y t ∧ PySem.W.kitOne K t (.ref C) = some false ∧ Q (.bl false) H)
theorem ok_keq {C f : Addr} {fd : FuncData} (F : Fun K "__eq__" "Kinds.__eq__" s_Kinds_eq f fd) (T : Top K mg) (TC : Cl_Kinds K mg C) : FnOk P w K mg base CX0 1 f fd ["self", "other"] (spKEq K C) := by
  refine F.ok sc_Kinds_eq (fun vs H Q E h => ?_) (fun cdv A outer s H vs Q E hr h => ?_)
  · obtain ⟨x, md, leaf, M, ns, y, rfl, _⟩ := h
    rfl
  · obtain ⟨x, md, leaf, M, ns, y, rfl, ⟨dx, nt, kvs, hx, hd, hM, hn⟩, hV, q⟩ := h
    have hu := hu_of hr
    refine ⟨_, pss_one (ps_ret (pe_and (pe_callB call_isi (by rfl) T.b_isinstance (by decide +kernel) (pa_cons (pv 1) (pa_cons (pe_glob (v := .ref C) (by rfl) TC.gC rfl) pa_nil)))
      (pe_and (pe_cmpR op_eq (pe_fld (pv 0) rfl) (pe_fld (pv 1) rfl) (nomark _)) (pe_one (pe_cmpR (op_eqDX (hu66_of hr)) (pe_fld (pv 0) rfl) (pe_fld (pv 1) rfl) (nomark _)))))), ?_⟩
    rcases q with ⟨x', md', leaf', N, ns', rfl, ⟨dx', nt', kvs', hx', hd', hN, hn'⟩, hV', q⟩ | ⟨t, ty, kt, q⟩
    · refine ⟨_, rfl, _, _, .ref C, .ref C, true, rfl, .own C, .base (.ins hx' TC.cl TC.ca TC.cg TC.ct TC.ob), TC.kit, true, rfl, ?_⟩
      rw [if_pos rfl]
      refine ⟨_, rfl, x, C, dx, _, _, rfl, hx, TC.cl, TC.n_leaf, kf_leaf _ _ _, _, rfl, x', C, dx', _, _, rfl, hx', TC.cl, TC.n_leaf, kf_leaf _ _ _, rfl, _, rfl, ?_⟩
      have ed : decide (V.str leaf = V.str leaf') = decide (leaf = leaf') := by
        rw [Bool.eq_iff_iff, decide_eq_true_eq, decide_eq_true_eq]
        exact ⟨fun q => V.str.inj q, fun q => by rw [q]⟩
      rw [ed]
      by_cases e : leaf = leaf'
      · rw [decide_eq_true e, if_pos rfl]
        rw [decide_eq_true e, Bool.true_and] at q
        refine ⟨_, rfl, x, C, dx, _, _, rfl, hx, TC.cl, TC.n_makings, kf_mak _ _ _, _, rfl, x', C, dx', _, _, rfl, hx', TC.cl, TC.n_makings, kf_mak _ _ _, md, md', kvs, kvs', _, rfl, rfl, hd, hd', fun _ => hits hN hM (by have := hV.len; omega) hV.shaped hV'.shaped, ?_⟩
        rw [hM.len, hN.len]
        exact q
      · rw [decide_eq_false e] at q ⊢
        rw [if_neg (by decide)]
        exact q
    · refine ⟨_, rfl, _, _, t, .ref C, false, rfl, .own C, ty, kt, false, rfl, ?_⟩
      rw [if_neg (by decide)]
      exact q
end
end Kl

set_option maxRecDepth 100000
set_option maxHeartbeats 4000000
namespace Kl
open PySem PySem.Spec PyProof.Rows L2 Gx Mx
theorem erase_map {α β : Type} (f : α → β) : ∀ (l : List α) (k : Nat), (l.map f).eraseIdx k = (l.eraseIdx k).map f
  | [], _ => rfl
  | _ :: _, 0 => rfl
  | x :: l, k + 1 => congrArg (f x :: ·) (erase_map f l k)
theorem erase_perm {α : Type} : ∀ (l : List α) (k : Nat) (x : α), l[k]? = some x → (x :: l.eraseIdx k).Perm l
  | [], _, _, h => by simp at h
  | y :: l, 0, x, h => by
    simp at h
    subst h
    exact List.Perm.refl _
  | y :: l, k + 1, x, h => by
    have ih := erase_perm l k x h
    exact (List.Perm.swap y x (l.eraseIdx k)).trans (ih.cons y)
section
variable {P : Program} {w : World} {K : PySem.W.Frag} {mg : Str → Option Value} {base : Heap}
/-! ### _law_mixed -/
def spMixed (K : PySem.W.Frag) : Sp := fun vs H Q _ => ∃ (d p : Addr) (zs : List Str), vs = [.ref d, .ref p] ∧ DiceAt H d ∧ p ≠ d ∧ SqL K H p (zs.map V.str) ∧ zs.length ≤ 1000 ∧
  ∀ (q : Addr) (H' : Hp) (ys : List Str), ys.Perm zs → H q = none → H' q = some (.lst (ys.map V.str)) → SameX d H H' → DiceAt H' d → Q (.ref q) H'
theorem seqI {r : Int} {n : Nat} (h0 : 0 ≤ r) (h1 : r < n) : seqIndex? r n = some r.toNat := by
  have e : ¬ r < 0 := by omega
  simp [seqIndex?, e, h0, h1]
theorem ok_mixed {f : Addr} {fd : FuncData} (F : Fun K "_law_mixed" "_law_mixed" s_law_mixed f fd) (T : Top K mg) : FnOk P w K mg base CX0 2 f fd ["_law_dice_here", "_law_items"] (spMixed K) := by
  have cr : Cal P w K mg base 1 "_law_roll" ["_law_dice_here", "_law_total"] spRoll := T.d_law_roll.cal fun f fd F => ok_roll F T
  refine F.ok sc_law_mixed (fun vs H Q E h => ?_) (fun cdv A outer s H vs Q E hr h => ?_)
  · obtain ⟨d, p, zs, rfl, _⟩ := h
    rfl
  · obtain ⟨d, p, zs, rfl, hd, hpd, hs, hl, q⟩ := h
    refine ⟨_, pss_cons (ps_par (i := 2) (j := 3) rfl sc_law_mixed.nd rfl rfl (by decide) rfl rfl (pa_cons (pe_callTy call_list_of (by rfl) T.b_list (by decide +kernel) (pa_cons (pv 1) pa_nil)) (pa_cons (pe_lst pa_nil) pa_nil)) rfl)
      (pss_cons (ps_for PassesOwn.never rfl (pi_range1 (by rfl) T.b_range (pa_cons (pe_callB call_len_seq (by rfl) T.b_len PySem.boot_len (pa_cons (pv 1) pa_nil)) pa_nil)) (pg_name (i := 4) sc_law_mixed.nd rfl (.inl rfl))
        (pss_one (ps_expr (pe_bm PySem.F.plainAttrs_list PySem.F.slot_list_append PySem.F.type_list_append mt_append (pv 3) (pa_cons
          (pe_bm PySem.F.plainAttrs_list PySem.F.slot_list_pop PySem.F.type_list_pop mt_popAt (pv 2) (pa_cons (pe_cal cr hr (by rfl) (pa_cons (pv 0) (pa_cons (pe_callB call_len_seq (by rfl) T.b_len PySem.boot_len (pa_cons (pv 2) pa_nil)) pa_nil))) pa_nil)) pa_nil)))))
      (pss_one (ps_ret (pv 3)))), ?_⟩
    have ln : (zs.map V.str).length = zs.length := List.length_map _
    refine ⟨_, rfl, p, _, rfl, .inl hs, fun l nl => ?_⟩
    have hld : l ≠ d := dice_ne hd nl
    refine ⟨Nat.zero_le _, fun q' nq => ?_⟩
    have hql : q' ≠ l := fun z => by
      rw [z, upd_same] at nq
      cases nq
    have nq0 : H q' = none := by rwa [upd_ne hql] at nq
    have hqd : q' ≠ d := dice_ne hd nq0
    have hp2 : SqL K (upd (upd H l (.lst (zs.map V.str))) q' (.lst [])) p (zs.map V.str) := by
      have s2 : Same H (upd (upd H l (.lst (zs.map V.str))) q' (.lst [])) := same_new (same_new (Same.refl H) nl) nq
      rcases hs with (h | ⟨o, h⟩) | h
      · exact .inl (.inl (s2 _ _ h))
      · exact .inl (.inr ⟨o, s2 _ _ h⟩)
      · exact .inr h
    refine ⟨_, _, rfl, _, rfl, p, _, rfl, .inl hp2, _, rfl, by omega, by omega, ?_⟩
    rw [ln]
    refine for_range (lo := 0) (fun i σ' H' => ∃ t, ∃ ls fs : List Str, σ' = [some (.ref d), some (.ref p), some (.ref l), some (.ref q'), t] ∧ H' l = some (.lst (ls.map V.str)) ∧ H' q' = some (.lst (fs.map V.str)) ∧ fs.length = i ∧ (fs ++ ls).Perm zs ∧ SameX d H H' ∧ DiceAt H' d)
      ⟨none, zs, [], rfl, ?_, upd_same, rfl, List.Perm.refl _, ?_, ?_⟩ (fun i σ' H' hi hP => ?_) (fun σ' H' hP => ?_)
    · rw [upd_ne hql.symm, upd_same]
    · exact ((SameX.refl d H).at nl).at nq0
    · exact dice_upd (dice_upd hd hld) hqd
    · obtain ⟨t, ls, fs, rfl, el, eq, lf, hp, sx, hd'⟩ := hP
      have lz := hp.length_eq
      rw [List.length_append] at lz
      have l1 : 0 < ls.length := by omega
      have lm : (ls.map V.str).length = ls.length := List.length_map _
      refine ⟨_, rfl, ⟨.inl ⟨rfl, _, .inl (.inl eq)⟩, ?_⟩⟩
      refine ⟨_, rfl, ⟨.inl ⟨rfl, _, .inl (.inl el)⟩, ?_⟩⟩
      refine ⟨_, rfl, _, rfl, l, _, rfl, .inl (.inl (.inl el)), d, _, rfl, hd', by rw [lm]; omega, by rw [lm]; exact log2_small (by omega), fun r x b c h0 h1 => ?_⟩
      rw [lm] at h1
      obtain ⟨k, rfl⟩ := Int.eq_ofNat_of_zero_le h0
      have hk : k < ls.length := by omega
      have ek : (ls.map V.str)[k]? = some (.str ls[k]) := by rw [List.getElem?_map, List.getElem?_eq_getElem hk]; rfl
      refine ⟨l, ls.map V.str, (k : Int), k, _, rfl, rfl, by rw [upd_ne hld]; exact el, by omega, by omega, by rw [lm]; exact seqI h0 h1, ek, ?_⟩
      refine ⟨q', fs.map V.str, _, rfl, rfl, by rw [upd_ne hql, upd_ne hqd]; exact eq, ?_, ?_⟩
      · rw [List.length_map]
        exact Nat.lt_of_le_of_lt (show fs.length ≤ 1000 by omega) (by decide)
      · refine ⟨_, ls.eraseIdx k, fs ++ [ls[k]], rfl, ?_, ?_, by rw [List.length_append, lf]; rfl, ?_, ?_, ?_⟩
        · rw [upd_ne hql.symm, upd_same, erase_map]
        · rw [upd_same, List.map_append]
          rfl
        · have e1 := erase_perm ls k _ (List.getElem?_eq_getElem hk)
          rw [List.append_assoc]
          exact (e1.append_left fs).trans hp
        · exact (sx.atd.at nl).at nq0
        · exact dice_upd (dice_upd (dice_new x b c) hld) hqd
    · obtain ⟨t, ls, fs, rfl, el, eq, lf, hp, sx, hd'⟩ := hP
      have lz := hp.length_eq
      rw [List.length_append] at lz
      have e0 : ls = [] := List.eq_nil_of_length_eq_zero (by omega)
      rw [e0, List.append_nil] at hp
      exact ⟨_, rfl, q q' H' fs hp nq0 eq sx hd'⟩
end
end Kl

set_option maxRecDepth 100000
set_option maxHeartbeats 4000000
namespace Kl
open PySem PySem.Spec PyProof.Rows L2 Gx Mx
theorem TupZ.samex {d a : Addr} {H H' : Hp} {xs : List V} (h : TupZ H a xs) (hd : DiceAt H d) (s : SameX d H H') : TupZ H' a xs := by
  obtain ⟨_, _, _, e⟩ := hd
  exact h.at fun o q => s _ _ (h.ne e (fun _ => nofun)) q
theorem MakAt.samex {d : Addr} {H H' : Hp} {kvs : List (Key × V)} {M : Mak} (h : MakAt H kvs M) (hd : DiceAt H d) (s : SameX d H H') : MakAt H' kvs M := h.same fun _ _ q => q.samex hd s
theorem sub_len : ∀ {xs ys : List Str}, xs.Nodup → (∀ z ∈ xs, z ∈ ys) → xs.length ≤ ys.length
  | [], ys, _, _ => Nat.zero_le _
  | x :: xs, ys, nd, hs => by
    have nd' := List.nodup_cons.mp nd
    have hx : x ∈ ys := hs x List.mem_cons_self
    have ih := sub_len nd'.2 (ys := ys.erase x) fun y hy => (List.mem_erase_of_ne (fun q => nd'.1 (by rw [← q]; exact hy))).mpr (hs y (List.mem_cons_of_mem _ hy))
    have e := List.length_erase_of_mem hx
    have p : 0 < ys.length := List.length_pos_of_mem hx
    rw [List.length_cons]
    omega
/-- the makings so far, of the first i names -/
structure Sofar (ns : List Str) (leaf : Str) (i : Nat) (M : Mak) : Prop where
  nd : (keysOf M).Nodup
  sub : ∀ z ∈ keysOf M, z ∈ ns.take i
  all : ∀ z ∈ ns.take i, z ≠ leaf → z ∈ keysOf M
  parts : ∀ m ∈ M, sortedS m.2 = true ∧ 2 ≤ m.2.length ∧ m.2.length ≤ 3 ∧ ∀ p ∈ m.2, p ∈ ns
theorem Sofar.vld {ns : List Str} {leaf : Str} {M : Mak} (h : Sofar ns leaf ns.length M) (hl : leaf ∈ ns) (hp : ∀ z ∈ ns, z ∈ POOL) (h6 : ns.length ≤ 6) : Vld leaf M := by
  have e : ns.take ns.length = ns := List.take_length
  refine ⟨hp _ hl, fun z hz => hp z (by have := h.sub z hz; rwa [e] at this), h.nd, fun m hm => ?_, fun ms nd hs => ?_⟩
  · obtain ⟨p1, p2, p3, p4⟩ := h.parts m hm
    refine ⟨p1, p2, p3, fun p hpm => ?_⟩
    by_cases c : p = leaf
    · exact .inl c
    · exact .inr (h.all p (by rw [e]; exact p4 p hpm) c)
  · refine Nat.le_trans (sub_len nd (ys := ns) fun z hz => ?_) h6
    rcases hs z hz with rfl | q
    · exact hl
    · have := h.sub z q
      rwa [e] at this
theorem Sofar.skip {ns : List Str} {leaf : Str} {i : Nat} {M : Mak} {z : Str} (h : Sofar ns leaf i M) (hz : ns[i]? = some z) (e : z = leaf) : Sofar ns leaf (i + 1) M := by
  have et : ns.take (i + 1) = ns.take i ++ [z] := by rw [List.take_add_one, hz]; rfl
  refine ⟨h.nd, fun y hy => by rw [et]; exact List.mem_append_left _ (h.sub y hy), fun y hy ne => ?_, h.parts⟩
  rw [et, List.mem_append, List.mem_singleton] at hy
  rcases hy with hy | rfl
  · exact h.all y hy ne
  · exact absurd e ne
theorem take_not {ns : List Str} (nd : ns.Nodup) {i : Nat} {z : Str} (hz : ns[i]? = some z) : z ∉ ns.take i := by
  intro hin
  obtain ⟨j, hj⟩ := List.mem_iff_getElem?.mp hin
  rw [List.getElem?_take] at hj
  by_cases c : j < i
  · rw [if_pos c] at hj
    obtain ⟨h1, e1⟩ := List.getElem?_eq_some_iff.mp hj
    obtain ⟨h2, e2⟩ := List.getElem?_eq_some_iff.mp hz
    have := (List.nodup_iff_pairwise_ne.mp nd)
    exact absurd (e1.trans e2.symm) (List.pairwise_iff_getElem.mp this j i h1 h2 c)
  · rw [if_neg c] at hj
    cases hj
theorem Sofar.put {ns : List Str} {leaf : Str} {i : Nat} {M : Mak} {z : Str} {ps : List Str} (h : Sofar ns leaf i M) (nd : ns.Nodup) (hz : ns[i]? = some z) (hs : sortedS ps = true) (h2 : 2 ≤ ps.length) (h3 : ps.length ≤ 3) (hp : ∀ p ∈ ps, p ∈ ns) :
    Sofar ns leaf (i + 1) (M ++ [(z, ps)]) := by
  have et : ns.take (i + 1) = ns.take i ++ [z] := by rw [List.take_add_one, hz]; rfl
  have ek : keysOf (M ++ [(z, ps)]) = keysOf M ++ [z] := by unfold keysOf; rw [List.map_append]; rfl
  have nz : z ∉ keysOf M := fun q => take_not nd hz (h.sub z q)
  refine ⟨?_, fun y hy => ?_, fun y hy ne => ?_, fun m hm => ?_⟩
  · rw [ek, List.nodup_append]
    refine ⟨h.nd, List.nodup_cons.mpr ⟨List.not_mem_nil, List.nodup_nil⟩, fun a ha b hb => ?_⟩
    rw [List.mem_singleton] at hb
    subst hb
    exact fun q => nz (by rw [← q]; exact ha)
  · rw [ek, List.mem_append, List.mem_singleton] at hy
    rw [et, List.mem_append, List.mem_singleton]
    exact hy.imp (h.sub y) id
  · rw [et, List.mem_append, List.mem_singleton] at hy
    rw [ek, List.mem_append, List.mem_singleton]
    exact hy.imp (fun q => h.all y q ne) id
  · rw [List.mem_append, List.mem_singleton] at hm
    rcases hm with hm | rfl
    · exact h.parts m hm
    · exact ⟨hs, h2, h3, hp⟩
theorem MakAt.put {H : Hp} {kvs : List (Key × V)} {M : Mak} {z : Str} {ps : List Str} {t : Addr} (h : MakAt H kvs M) (nz : z ∉ keysOf M) (ht : TupZ H t (ps.map V.str)) : MakAt H (putK kvs (Sum.inr z) (.ref t)) (M ++ [(z, ps)]) := by
  have e : valV kvs (Sum.inr z) = none := by
    rcases h.get z with ⟨_, e⟩ | ⟨ps', a, e1, _⟩
    · exact e
    · rw [lookM_none.mpr nz] at e1
      cases e1
  rw [putK_new _ e]
  unfold MakAt at h ⊢
  clear e nz
  induction h with
  | nil => exact .cons ⟨rfl, t, rfl, ht⟩ .nil
  | cons h _ ih => exact .cons h ih
structure LKs (H : Hp) (d l mk : Addr) (ns : List Str) (leaf : Str) (i : Nat) (H' : Hp) : Prop where
  el : H' l = some (.lst (ns.map V.str))
  mks : ∃ kvs M, H' mk = some (.dK kvs) ∧ MakAt H' kvs M ∧ Sofar ns leaf i M
  sx : SameX d H H'
  hd : DiceAt H' d
theorem LKs.step {H H' H'' : Hp} {d l mk : Addr} {ns : List Str} {leaf : Str} {i : Nat} (h : LKs H d l mk ns leaf i H') (nl : l ≠ d) (nm : mk ≠ d) (s : SameX d H' H'') (hd : DiceAt H'' d) : LKs H d l mk ns leaf i H'' := by
  obtain ⟨el, ⟨kvs, M, e1, e2, e3⟩, sx, hd'⟩ := h
  exact ⟨s _ _ nl el, ⟨kvs, M, s _ _ nm e1, e2.samex hd' s, e3⟩, sx.trans s, hd⟩
end Kl

set_option maxRecDepth 100000
set_option maxHeartbeats 4000000
namespace Kl
open PySem PySem.Spec PyProof.Rows L2 Gx Mx
section
variable {P : Program} {w : World} {K : PySem.W.Frag} {mg : Str → Option Value} {base : Heap}
theorem pi_or {X : Cx} {tg e : Expr} {t1 t2 : TI} (h1 : PI X tg e t1) (h2 : PI X tg e t2) : PI X tg e (fun σ H R => t1 σ H R ∨ t2 σ H R) :=
  ⟨fun pins s σ H R I h => h.elim (h1.run pins s σ H R I) (h2.run pins s σ H R I)⟩
/-- a sequence of these, a tuple or a list -/
def SqB (K : PySem.W.Frag) (H : Hp) (a : Addr) (xs : List V) : Prop := SqT K H a xs ∨ SqL K H a xs
theorem SqB.at {H H' : Hp} {a : Addr} {xs : List V} (h : SqB K H a xs) (s : ∀ o, H a = some o → H' a = some o) : SqB K H' a xs := by
  rcases h with ((h | ⟨o, h⟩) | h) | ((h | ⟨o, h⟩) | h)
  · exact .inl (.inl (.inl (s _ h)))
  · exact .inl (.inl (.inr ⟨o, s _ h⟩))
  · exact .inl (.inr h)
  · exact .inr (.inl (.inl (s _ h)))
  · exact .inr (.inl (.inr ⟨o, s _ h⟩))
  · exact .inr (.inr h)
theorem SqB.keep {H H' : Hp} {a : Addr} {xs : List V} (h : SqB K H a xs) (s : ∀ o, H a = some o → (∀ kv, o ≠ .dK kv) → H' a = some o) : SqB K H' a xs := by
  rcases h with ((h | ⟨o, h⟩) | h) | ((h | ⟨o, h⟩) | h)
  · exact .inl (.inl (.inl (s _ h (fun _ => nofun))))
  · exact .inl (.inl (.inr ⟨o, s _ h (fun _ => nofun)⟩))
  · exact .inl (.inr h)
  · exact .inr (.inl (.inl (s _ h (fun _ => nofun))))
  · exact .inr (.inl (.inr ⟨o, s _ h (fun _ => nofun)⟩))
  · exact .inr (.inr h)
theorem cast_sum (f : Str → Nat) : ∀ l : List Str, (l.map fun p => ((f p : Nat) : Int)).sum = (((l.map f).sum : Nat) : Int)
  | [] => rfl
  | p :: l => by
    rw [List.map_cons, List.sum_cons, cast_sum f l, List.map_cons, List.sum_cons, Int.natCast_add]
theorem sqT_mono {H H' : Hp} {a : Addr} {xs : List V} (h : SqT K H a xs) (s : Same H H') : SqT K H' a xs := by
  rcases h with (h | ⟨o, h⟩) | h
  · exact .inl (.inl (s _ _ h))
  · exact .inl (.inr ⟨o, s _ _ h⟩)
  · exact .inr h
theorem sqL_mono {H H' : Hp} {a : Addr} {xs : List V} (h : SqL K H a xs) (s : Same H H') : SqL K H' a xs := by
  rcases h with (h | ⟨o, h⟩) | h
  · exact .inl (.inl (s _ _ h))
  · exact .inl (.inr ⟨o, s _ _ h⟩)
  · exact .inr h
theorem rowK_some (R : Row) (z : Str) : (valV (rowK R) (Sum.inr z)).isSome = decide (z ∈ keysR R) := by
  by_cases h : z ∈ keysR R
  · rw [rowK_get h, decide_eq_true h]
    rfl
  · rw [rowK_look, lookR_no h, decide_eq_false h]
    rfl
theorem SqB.mono {H H' : Hp} {a : Addr} {xs : List V} (h : SqB K H a xs) (s : Same H H') : SqB K H' a xs := h.at fun o e => s _ _ e
/-- the parts of each kind, told by tuples or lists -/
def PartsAt (K : PySem.W.Frag) (H : Hp) (kvs : List (Key × V)) (M : Mak) : Prop := Paired (fun (kv : Key × V) (m : Str × List Str) => kv.1 = Sum.inr m.1 ∧ ∃ a, kv.2 = .ref a ∧ SqB K H a (m.2.map V.str)) kvs M
theorem PartsAt.len {H : Hp} {kvs : List (Key × V)} {M : Mak} (h : PartsAt K H kvs M) : kvs.length = M.length := Paired.length h
theorem PartsAt.same {H H' : Hp} {kvs : List (Key × V)} {M : Mak} (h : PartsAt K H kvs M) (s : ∀ a xs, SqB K H a xs → SqB K H' a xs) : PartsAt K H' kvs M := by
  unfold PartsAt at h ⊢
  induction h with
  | nil => exact .nil
  | cons h _ ih =>
    obtain ⟨h1, a, h2, h3⟩ := h
    exact .cons ⟨h1, a, h2, s a _ h3⟩ ih
theorem PartsAt.at {H : Hp} {kvs : List (Key × V)} {M : Mak} (h : PartsAt K H kvs M) {i : Nat} {k : Key} {v : V} (e : kvs[i]? = some (k, v)) : ∃ m a, M[i]? = some m ∧ k = Sum.inr m.1 ∧ v = .ref a ∧ SqB K H a (m.2.map V.str) := by
  unfold PartsAt at h
  induction h generalizing i with
  | nil => cases e
  | @cons kv m kvs M h _ ih =>
    cases i with
    | zero =>
      cases e
      obtain ⟨h1, a, h2, h3⟩ := h
      exact ⟨m, a, rfl, h1, h2, h3⟩
    | succ i => exact ih e
theorem MakAt.parts {H : Hp} {kvs : List (Key × V)} {M : Mak} (h : MakAt H kvs M) : PartsAt K H kvs M := by
  unfold MakAt at h
  unfold PartsAt
  induction h with
  | nil => exact .nil
  | cons h _ ih =>
    obtain ⟨h1, a, h2, h3⟩ := h
    exact .cons ⟨h1, a, h2, .inl h3.sq⟩ ih
/-! ### the sizes a rank above -/
def spSums (K : PySem.W.Frag) : Sp := fun vs H Q _ => ∃ (po pb : Addr) (kvs : List (Key × V)) (M : Mak) (R : Row), vs = [V.ref po, V.ref pb] ∧ H po = some (.dK kvs) ∧ PartsAt K H kvs M ∧ M.length ≤ 6 ∧ (keysOf M).Nodup ∧ (∀ m ∈ M, m.2.length ≤ 3) ∧ H pb = some (.dK (rowK R)) ∧ po ≠ pb ∧
  ∀ p H', Same H H' → H p = none → H' p = some (.dK (rowK (aboveR M R))) → Q (.ref p) H'
abbrev NSA : List Str := ["parts_of", "below", "name", "parts", "part"]
theorem ok_sums {f : Addr} {fd : FuncData} (F : Fun K "sums_above" "sums_above" s_sums_above f fd) (T : Top K mg) : FnOk P w K mg base CX0 1 f fd ["parts_of", "below"] (spSums K) := by
  refine F.ok sc_sums_above (fun vs H Q E h => ?_) (fun cdv A outer s H vs Q E hr h => ?_)
  · obtain ⟨po, pb, kvs, M, R, rfl, _⟩ := h
    rfl
  · obtain ⟨po, pb, kvs, M, R, rfl, hm, hM, lM, nd, l3, he, npb, q⟩ := h
    have hu := hu_of hr
    refine ⟨_, pss_one (ps_ret (pe_lock (pe_dc (own := [("name", 2), ("parts", 3)]) (g := gTup K 2 (gCons (gName 2) (gCons (gName 3) gNil))) rfl sc_sums_above.nd (pi_items (pv 0))
          (blkOk_by (N := NSA) (sc := defScope s_sums_above) (by decide +kernel)) (fun _ _ _ _ _ => pg_tup rfl (pgs_cons (pg_name (i := 2) sc_sums_above.nd rfl (.inl rfl)) (pgs_cons (pg_name (i := 3) sc_sums_above.nd rfl (.inl rfl)) pgs_nil)))
          (fun _ _ _ _ _ => pts_one (pt_val (pe_callB (cr_allK (K := K) (by exact rfl) (by exact rfl)) (by rfl) T.b_all (by decide +kernel) (pa_cons (pe_lc (own := [("part", 4)]) (g := gName 4) (tt := tYes) (by exact rfl) (by exact sc_sums_above.nd) (pi_or (pi_tupK (K := K) (by exact rfl) (pv 3)) (pi_listK (K := K) (by exact rfl) (pv 3)))
              (by exact blkOk_by (by kernel_rfl)) (fun _ _ _ _ _ => pg_name (i := 4) sc_sums_above.nd rfl (.inl rfl)) (fun _ _ _ _ _ => pts_nil)
              (fun _ _ _ _ _ => pe_cmp (pc_din hu (pv 4) (pv 1)))) pa_nil))))
          (fun _ _ _ _ _ => pv 2)
          (fun _ _ _ _ _ => pe_callB (cr_sumK (K := K) (by exact rfl) (by exact rfl)) (by rfl) T.b_sum (by decide +kernel) (pa_cons (pe_lc (own := [("part", 4)]) (g := gName 4) (tt := tYes) (by exact rfl) (by exact sc_sums_above.nd) (pi_or (pi_tupK (K := K) (by exact rfl) (pv 3)) (pi_listK (K := K) (by exact rfl) (pv 3)))
              (by exact blkOk_by (by kernel_rfl)) (fun _ _ _ _ _ => pg_name (i := 4) sc_sums_above.nd rfl (.inl rfl)) (fun _ _ _ _ _ => pts_nil)
              (fun _ _ _ _ _ => pe_dget hu (pv 1) (pv 4) (fun _ _ => rfl))) pa_nil))))), ?_⟩
    have lk := hM.len
    refine ⟨po, _, hm, trivial, fun od => ?_⟩
    have heF : (upd H po (.frz od (.dK kvs))) pb = some (.dK (rowK R)) := by
      rw [upd_ne npb.symm]
      exact he
    have hMF : PartsAt K (upd H po (.frz od (.dK kvs))) kvs M := hM.same fun a xs h => h.keep fun o e n => by
      rw [upd_ne (fun c => by rw [c, hm] at e; exact n _ (Option.some.inj e).symm)]
      exact e
    refine ⟨_, rfl, po, od, kvs, rfl, upd_same, fun D hD => ?_⟩
    refine walk_in (walk_items (d := po) (o := od) (kvs := kvs)) (fun j G => G D = some (.dK (rowK (aboveR (M.take j) R))) ∧ Same (upd H po (.frz od (.dK kvs))) G) ⟨upd_same, same_new (Same.refl _) hD⟩ (fun j G _ hP => hP.2 _ _ upd_same) (fun j v Gx G hj hP hy => ?_) (fun G hP => ?_)
    · obtain ⟨eD0, sm0⟩ := hP
      obtain ⟨t, x, y, rfl, nt, rfl, hx, hy2⟩ := hy
      obtain ⟨⟨k, v⟩, hkv, rfl⟩ := Option.map_eq_some_iff.mp hx
      have hy3 : kvs[j]?.map Prod.snd = some y := hy2
      rw [hkv] at hy3
      cases hy3
      obtain ⟨m, a, hmj, rfl, rfl, ha⟩ := hMF.at hkv
      have hmM := List.mem_of_getElem? hmj
      have lm := l3 m hmM
      have sm : Same (upd H po (.frz od (.dK kvs))) (upd Gx t (.tup [kV (Sum.inr m.1), .ref a])) := same_new sm0 nt
      have eD : (upd Gx t (.tup [kV (Sum.inr m.1), .ref a])) D = some (.dK (rowK (aboveR (M.take j) R))) := by
        rw [upd_ne (ne_of_none eD0 nt)]
        exact eD0
      refine ⟨t, _, rfl, .inl (.inl upd_same), rfl, _, _, rfl, _, _, rfl, rfl, rfl, ?_⟩
      generalize upd Gx t (.tup [kV (Sum.inr m.1), .ref a]) = G at sm eD
      have haG := ha.mono sm
      have hfit : ((m.2.map fun p => decide (p ∈ keysR R)).all id) = fitsR (keysR R) m.2 := by
        unfold fitsR
        rw [List.all_map]
        rfl
      have et : aboveR (M.take (j + 1)) R = aboveR (M.take j) R ++ (if fitsR (keysR R) m.2 = true then [(m.1, (m.2.map (getR R)).sum)] else []) := by
        unfold aboveR
        rw [take_snoc hmj, List.filter_append, List.map_append]
        by_cases c : fitsR (keysR R) m.2 = true
        · simp [c]
        · simp [c]
      have hnew : m.1 ∉ keysR (aboveR (M.take j) R) := by
        rw [keys_above]
        intro hin
        have h1 := (above_sub (M.take j) (keysR R)).subset hin
        unfold keysOf at h1
        rw [List.map_take] at h1
        have hkey : (M.map (·.1))[j]? = some m.1 := by
          rw [List.getElem?_map, hmj]
          rfl
        exact take_not nd hkey h1
      have hlen : (aboveR (M.take j) R).length ≤ 6 := by
        unfold aboveR
        rw [List.length_map]
        have := List.length_filter_le (fun m => fitsR (keysR R) m.2) (M.take j)
        rw [List.length_take] at this
        omega
      rcases haG with haG | haG
      · refine .inl ⟨_, rfl, a, rfl, ⟨_, haG⟩, fun D2 hD2 => ?_⟩
        refine lc_it (g := gName 4) (tt := tYes) (vs := [4]) (walk_tup (K := K) (a := a) (xs := m.2.map V.str)) (fun i G2 => G2 D2 = some (.lst (((m.2.take i).map fun p => decide (p ∈ keysR R)).map V.bl)) ∧ Same G G2) ⟨upd_same, same_new (Same.refl G) hD2⟩ (fun i G2 _ h => sqT_mono haG h.2) (fun i v Gx G2 hi h hy => ?_) (fun G2 h => ?_)
        · obtain ⟨eD2, sm2⟩ := h
          obtain ⟨rfl, hv2⟩ := hy
          obtain ⟨z, hz, rfl⟩ := at_texts hv2
          refine ⟨rfl, _, rfl, _, rfl, pb, _, rfl, .inl ⟨_, Sum.inr z, .inl (sm2 _ _ (sm _ _ heF)), rfl, rfl⟩, ?_⟩
          show ∃ acc, _
          refine ⟨_, eD2, ?_, ?_, fun b u e => by rw [upd_ne (ne_of_none e hD2)]; exact sm2 b u e⟩
          · rw [List.length_map, List.length_map, List.length_take]
            exact Nat.lt_of_le_of_lt (show _ ≤ 3 by omega) (by decide)
          · rw [upd_same, take_snoc hz, List.map_append, List.map_append, rowK_some]
            rfl
        · obtain ⟨eD2, sm2⟩ := h
          rw [List.length_map, List.take_length] at eD2
          refine ⟨D2, _, rfl, .inl (.inl eD2), ?_⟩
          rw [hfit]
          have sm3 : ∀ b o, (upd H po (.frz od (.dK kvs))) b = some o → G2 b = some o := fun b o e => sm2 _ _ (sm b o e)
          have eD3 := sm2 _ _ eD
          have haG2 := sqT_mono haG sm2
          refine ⟨_, rfl, ?_⟩
          by_cases c : fitsR (keysR R) m.2 = true
          · rw [if_pos c] at et
            rw [if_pos c]
            refine ⟨_, rfl, .inl ⟨_, rfl, a, rfl, ⟨_, haG2⟩, fun D4 hD4 => ?_⟩⟩
            refine lc_it (g := gName 4) (tt := tYes) (vs := [4]) (walk_tup (K := K) (a := a) (xs := m.2.map V.str)) (fun i G3 => G3 D4 = some (.lst (((m.2.take i).map fun p => ((getR R p : Nat) : Int)).map V.int)) ∧ Same G2 G3) ⟨upd_same, same_new (Same.refl G2) hD4⟩ (fun i G3 _ h => sqT_mono haG2 h.2) (fun i v Gx G3 hi h hy => ?_) (fun G3 h => ?_)
            · obtain ⟨eD4, sm4⟩ := h
              obtain ⟨rfl, hv2⟩ := hy
              obtain ⟨z, hz, rfl⟩ := at_texts hv2
              have hzR : z ∈ keysR R := of_decide_eq_true (List.all_eq_true.mp c z (List.mem_of_getElem? hz))
              refine ⟨rfl, _, rfl, _, rfl, pb, _, rfl, .inl ⟨_, Sum.inr z, .inl (sm4 _ _ (sm3 _ _ heF)), rfl, (rowK_get hzR).symm⟩, _, eD4, ?_, ?_, fun b u e => by rw [upd_ne (ne_of_none e hD4)]; exact sm4 b u e⟩
              · rw [List.length_map, List.length_map, List.length_take]
                exact Nat.lt_of_le_of_lt (show _ ≤ 3 by omega) (by decide)
              · rw [upd_same, take_snoc hz, List.map_append, List.map_append]
                rfl
            · obtain ⟨eD4, sm4⟩ := h
              rw [List.length_map, List.take_length] at eD4
              refine ⟨D4, _, rfl, .inl (.inl eD4), ?_⟩
              rw [cast_sum]
              refine ⟨_, Sum.inr m.1, rfl, sm4 _ _ eD3, by rw [rowK_len]; exact Nat.lt_of_le_of_lt hlen (by decide), ?_, fun b u e => by rw [upd_ne (ne_of_none e hD)]; exact sm4 _ _ (sm3 b u e)⟩
              rw [upd_same, putK_new _ (by rw [rowK_look, lookR_no hnew]; rfl), et]
              unfold rowK
              rw [List.map_append]
              rfl
          · rw [if_neg c, List.append_nil] at et
            rw [if_neg c]
            rw [et]
            exact ⟨eD3, sm3⟩
      · refine .inr ⟨_, rfl, a, rfl, ⟨_, haG⟩, fun D2 hD2 => ?_⟩
        refine lc_it (g := gName 4) (tt := tYes) (vs := [4]) (walk_list (K := K) (a := a) (xs := m.2.map V.str)) (fun i G2 => G2 D2 = some (.lst (((m.2.take i).map fun p => decide (p ∈ keysR R)).map V.bl)) ∧ Same G G2) ⟨upd_same, same_new (Same.refl G) hD2⟩ (fun i G2 _ h => sqL_mono haG h.2) (fun i v Gx G2 hi h hy => ?_) (fun G2 h => ?_)
        · obtain ⟨eD2, sm2⟩ := h
          obtain ⟨rfl, hv2⟩ := hy
          obtain ⟨z, hz, rfl⟩ := at_texts hv2
          refine ⟨rfl, _, rfl, _, rfl, pb, _, rfl, .inl ⟨_, Sum.inr z, .inl (sm2 _ _ (sm _ _ heF)), rfl, rfl⟩, ?_⟩
          show ∃ acc, _
          refine ⟨_, eD2, ?_, ?_, fun b u e => by rw [upd_ne (ne_of_none e hD2)]; exact sm2 b u e⟩
          · rw [List.length_map, List.length_map, List.length_take]
            exact Nat.lt_of_le_of_lt (show _ ≤ 3 by omega) (by decide)
          · rw [upd_same, take_snoc hz, List.map_append, List.map_append, rowK_some]
            rfl
        · obtain ⟨eD2, sm2⟩ := h
          rw [List.length_map, List.take_length] at eD2
          refine ⟨D2, _, rfl, .inl (.inl eD2), ?_⟩
          rw [hfit]
          have sm3 : ∀ b o, (upd H po (.frz od (.dK kvs))) b = some o → G2 b = some o := fun b o e => sm2 _ _ (sm b o e)
          have eD3 := sm2 _ _ eD
          have haG2 := sqL_mono haG sm2
          refine ⟨_, rfl, ?_⟩
          by_cases c : fitsR (keysR R) m.2 = true
          · rw [if_pos c] at et
            rw [if_pos c]
            refine ⟨_, rfl, .inr ⟨_, rfl, a, rfl, ⟨_, haG2⟩, fun D4 hD4 => ?_⟩⟩
            refine lc_it (g := gName 4) (tt := tYes) (vs := [4]) (walk_list (K := K) (a := a) (xs := m.2.map V.str)) (fun i G3 => G3 D4 = some (.lst (((m.2.take i).map fun p => ((getR R p : Nat) : Int)).map V.int)) ∧ Same G2 G3) ⟨upd_same, same_new (Same.refl G2) hD4⟩ (fun i G3 _ h => sqL_mono haG2 h.2) (fun i v Gx G3 hi h hy => ?_) (fun G3 h => ?_)
            · obtain ⟨eD4, sm4⟩ := h
              obtain ⟨rfl, hv2⟩ := hy
              obtain ⟨z, hz, rfl⟩ := at_texts hv2
              have hzR : z ∈ keysR R := of_decide_eq_true (List.all_eq_true.mp c z (List.mem_of_getElem? hz))
              refine ⟨rfl, _, rfl, _, rfl, pb, _, rfl, .inl ⟨_, Sum.inr z, .inl (sm4 _ _ (sm3 _ _ heF)), rfl, (rowK_get hzR).symm⟩, _, eD4, ?_, ?_, fun b u e => by rw [upd_ne (ne_of_none e hD4)]; exact sm4 b u e⟩
              · rw [List.length_map, List.length_map, List.length_take]
                exact Nat.lt_of_le_of_lt (show _ ≤ 3 by omega) (by decide)
              · rw [upd_same, take_snoc hz, List.map_append, List.map_append]
                rfl
            · obtain ⟨eD4, sm4⟩ := h
              rw [List.length_map, List.take_length] at eD4
              refine ⟨D4, _, rfl, .inl (.inl eD4), ?_⟩
              rw [cast_sum]
              refine ⟨_, Sum.inr m.1, rfl, sm4 _ _ eD3, by rw [rowK_len]; exact Nat.lt_of_le_of_lt hlen (by decide), ?_, fun b u e => by rw [upd_ne (ne_of_none e hD)]; exact sm4 _ _ (sm3 b u e)⟩
              rw [upd_same, putK_new _ (by rw [rowK_look, lookR_no hnew]; rfl), et]
              unfold rowK
              rw [List.map_append]
              rfl
          · rw [if_neg c, List.append_nil] at et
            rw [if_neg c]
            rw [et]
            exact ⟨eD3, sm3⟩
    · obtain ⟨eD, sm⟩ := hP
      rw [lk, List.take_length] at eD
      have s1 := same_unlock hm sm
      have nD : D ≠ po := fun z => by
        rw [z, upd_same] at hD
        cases hD
      refine ⟨sm _ _ upd_same, q D _ s1 ?_ (by rw [upd_ne nD]; exact eD)⟩
      rw [upd_ne nD] at hD
      exact hD
end
end Kl

set_option maxRecDepth 100000
set_option maxHeartbeats 4000000
namespace Kl
open PySem PySem.Spec PyProof.Rows L2 Gx Mx
section
variable {P : Program} {w : World} {K : PySem.W.Frag} {mg : Str → Option Value} {base : Heap}
/-! ### the sizes of many ranks -/
def RowsAt (H : Hp) (leaf : Str) (M : Mak) (ds : List Addr) : Prop := ∀ (i : Nat) (a : Addr), ds[i]? = some a → H a = some (.dK (rowK (rowsR leaf M i)))
theorem RowsAt.same {H H' : Hp} {leaf : Str} {M : Mak} {ds : List Addr} (h : RowsAt H leaf M ds) (s : Same H H') : RowsAt H' leaf M ds := fun i a e => s _ _ (h i a e)
theorem RowsAt.snoc {H H' : Hp} {leaf : Str} {M : Mak} {ds : List Addr} {p : Addr} (h : RowsAt H leaf M ds) (k : ∀ a kv, H a = some (.dK kv) → H' a = some (.dK kv)) (e : H' p = some (.dK (rowK (rowsR leaf M ds.length)))) : RowsAt H' leaf M (ds ++ [p]) := by
  intro i a ha
  rw [List.getElem?_append] at ha
  by_cases c : i < ds.length
  · rw [if_pos c] at ha
    exact k _ _ (h i a ha)
  · rw [if_neg c] at ha
    obtain ⟨h1, h2⟩ := List.getElem?_eq_some_iff.mp ha
    have e0 : i - ds.length = 0 := by
      rw [List.length_singleton] at h1
      omega
    have e1 : i = ds.length := by omega
    rw [e1]
    have : a = p := by
      rw [e0] at ha
      exact (Option.some.inj ha).symm
    rw [this]
    exact e
def spSumsBy (K : PySem.W.Frag) : Sp := fun vs H Q _ => ∃ (leaf : Str) (po : Addr) (n : Nat) (kvs : List (Key × V)) (M : Mak), vs = [V.str leaf, V.ref po, V.int (n : Nat)] ∧ 1 ≤ n ∧ n ≤ 1000 ∧ H po = some (.dK kvs) ∧ PartsAt K H kvs M ∧ M.length ≤ 6 ∧ (keysOf M).Nodup ∧ (∀ m ∈ M, m.2.length ≤ 3) ∧
  ∀ (p : Addr) (ds : List Addr) (H' : Hp), Same H H' → H p = none → H' p = some (.lst (ds.map V.ref)) → ds.length = n → RowsAt H' leaf M ds → Q (.ref p) H'
abbrev NSB : List Str := ["leaf", "parts_of", "ranks", "by_rank"]
theorem ok_sumsBy {f : Addr} {fd : FuncData} (F : Fun K "sums_by_rank" "sums_by_rank" s_sums_by_rank f fd) (T : Top K mg) : FnOk P w K mg base CX0 2 f fd ["leaf", "parts_of", "ranks"] (spSumsBy K) := by
  have cs : Cal P w K mg base 1 "sums_above" ["parts_of", "below"] (spSums K) := T.d_sums_above.cal fun f fd F => ok_sums F T
  refine F.ok sc_sums_by_rank (fun vs H Q E h => ?_) (fun cdv A outer s H vs Q E hr h => ?_)
  · obtain ⟨leaf, po, n, kvs, M, rfl, _⟩ := h
    rfl
  · obtain ⟨leaf, po, n, kvs, M, rfl, n1, n2, hm, hM, lM, nd, l3, q⟩ := h
    have hu := hu_of hr
    refine ⟨_, pss_cut (ps_set (i := 3) sc_sums_by_rank.nd rfl (.inl rfl) (pe_lst (pa_cons (pe_disp (pps_cons (pv 0) pe_int pps_nil) rfl rfl (by decide) (by decide)) pa_nil)))
      (pss_cut (ps_while PassesOwn.never (pt_cmpR op_lt (pe_callB call_len_seq (by rfl) T.b_len PySem.boot_len (pa_cons (pv 3) pa_nil)) (pv 2) (nomark _))
        (pss_one (ps_expr (pe_bm PySem.F.plainAttrs_list PySem.F.slot_list_append PySem.F.type_list_append mt_append (pv 3) (pa_cons (pe_cal cs hr (by rfl) (pa_cons (pv 1) (pa_cons (pe_ix ix_list (pv 3) (pe_un un_neg pe_int) (fun _ _ => rfl)) pa_nil))) pa_nil)))))
      (pss_one (ps_ret (pv 3)))), ?_⟩
    have big : 100000 ≤ sizeLine := by decide
    refine ⟨fun σ' G => ∃ (bl b0 : Addr), σ' = [some (.str leaf), some (.ref po), some (.int (n : Nat)), some (.ref bl)] ∧ G bl = some (.lst [.ref b0]) ∧ G b0 = some (.dK (rowK (rowsR leaf M 0))) ∧ Same H G ∧ H bl = none ∧ H b0 = none, ?_, ?_⟩
    · refine fun b0 nb0 => ⟨_, rfl, upd_same, [(Sum.inr leaf, V.int 1)], rfl, by show 1 ≤ 15; omega, by show 1 ≤ sizeLine; omega, fun bl nbl => ?_⟩
      have e1 : mergeK [] [((Sum.inr leaf : Key), V.int 1)] = rowK (rowsR leaf M 0) := rfl
      rw [e1] at nbl ⊢
      have s1 : Same H (upd (upd H b0 (.dK [])) b0 (.dK (rowK (rowsR leaf M 0)))) := fun b o e => by
        rw [upd_ne (ne_of_none e nb0), upd_ne (ne_of_none e nb0)]
        exact e
      have s2 := same_new (o := .lst [V.ref b0]) s1 nbl
      refine ⟨bl, b0, rfl, upd_same, ?_, s2, s1.free nbl, nb0⟩
      rw [upd_ne (ne_of_none upd_same nbl)]
      exact upd_same
    rintro σ' G ⟨bl, b0, rfl, ebl, eb0, s0, nbl, nb0⟩
    refine ⟨fun σ' G' => ∃ ds : List Addr, σ' = [some (.str leaf), some (.ref po), some (.int (n : Nat)), some (.ref bl)] ∧ G' bl = some (.lst (ds.map V.ref)) ∧ ds.length = n ∧ RowsAt G' leaf M ds ∧ Same H G', ?_, ?_⟩
    · refine ⟨fun m σ' G' => ∃ ds : List Addr, σ' = [some (.str leaf), some (.ref po), some (.int (n : Nat)), some (.ref bl)] ∧ G' bl = some (.lst (ds.map V.ref)) ∧ ds.length + m = n ∧ 1 ≤ ds.length ∧ RowsAt G' leaf M ds ∧ Same H G' ∧ ∀ a ∈ ds, H a = none,
        ⟨n - 1, [b0], rfl, ebl, by rw [List.length_singleton]; omega, by show 1 ≤ 1; omega, ?_, s0, fun a ha => by rw [List.mem_singleton.mp ha]; exact nb0⟩, fun m σ' G' hW => ?_⟩
      · intro i a ha
        have hi : i = 0 := by
          have := (List.getElem?_eq_some_iff.mp ha).1
          rw [List.length_singleton] at this
          omega
        subst hi
        cases ha
        exact eb0
      obtain ⟨ds, rfl, eB, hl, h1, hR, sm, hF⟩ := hW
      have ld : (ds.map V.ref).length = ds.length := List.length_map _
      refine ⟨_, rfl, bl, _, rfl, .inl (.inl (.inl eB)), _, rfl, _, _, rfl, rfl, ?_⟩
      rw [ld]
      refine ⟨_, rfl, ?_⟩
      refine ite2 (fun c0 => ?_) (fun c0 => ?_)
      · have c : ds.length < n := by
          have := of_decide_eq_true c0
          omega
        refine ⟨fun σ' G' => ∃ m', m' < m ∧ ∃ ds : List Addr, σ' = [some (.str leaf), some (.ref po), some (.int (n : Nat)), some (.ref bl)] ∧ G' bl = some (.lst (ds.map V.ref)) ∧ ds.length + m' = n ∧ 1 ≤ ds.length ∧ RowsAt G' leaf M ds ∧ Same H G' ∧ ∀ a ∈ ds, H a = none, fun σ' G' h => h, ?_⟩
        obtain ⟨k, hk⟩ : ∃ k, ds.length = k + 1 := ⟨ds.length - 1, by omega⟩
        have hlast : atI (ds.map V.ref) (-1) = (ds[k]?).map V.ref := by
          unfold atI ixN
          rw [ld]
          have h0 : ¬ (0 : Int) ≤ -1 := by omega
          rw [if_neg h0, if_pos (by omega)]
          show (ds.map V.ref)[((-1 : Int) + (ds.length : Int)).toNat]? = _
          rw [show ((-1 : Int) + (ds.length : Int)).toNat = k by omega, List.getElem?_map]
        have hdk : ds[k]? = some ds[k] := List.getElem?_eq_getElem (by omega)
        rw [hdk] at hlast
        have hrow := hR k _ hdk
        refine ⟨_, rfl, ⟨.inl ⟨rfl, _, .inl (.inl eB)⟩, ?_⟩⟩
        have hmG := sm _ _ hm
        have hMG : PartsAt K G' kvs M := hM.same fun a xs h => h.mono sm
        have npo : po ≠ ds[k] := fun z => by
          have := hF _ (List.mem_of_getElem? hdk)
          rw [← z, hm] at this
          cases this
        refine ⟨_, rfl, _, rfl, _, rfl, bl, _, _, _, rfl, rfl, .inl (.inl eB), hlast, po, ds[k], kvs, M, rowsR leaf M k, rfl, hmG, hMG, lM, nd, l3, hrow, npo, fun p H2 s2 np ep => ?_⟩
        refine ⟨bl, _, _, rfl, rfl, s2 _ _ eB, by rw [ld]; exact Nat.lt_of_le_of_lt (show _ ≤ 1000 by omega) (by decide), ?_⟩
        have npb : p ≠ bl := fun z => by
          rw [z, eB] at np
          cases np
        refine ⟨m - 1, by omega, ds ++ [p], rfl, ?_, by rw [List.length_append, List.length_singleton]; omega, by rw [List.length_append]; omega, ?_, fun b o e => ?_, fun a ha => ?_⟩
        · rw [upd_same, List.map_append]
          rfl
        · refine (hR.same s2).snoc (fun a kv e => ?_) ?_
          · rw [upd_ne (fun z => by rw [z, s2 _ _ eB] at e; cases e)]
            exact e
          · rw [upd_ne npb, hk]
            exact ep
        · rw [upd_ne (ne_of_none e nbl)]
          exact s2 _ _ (sm _ _ e)
        · rcases List.mem_append.mp ha with h | h
          · exact hF a h
          · rw [List.mem_singleton.mp h]
            exact sm.free np
      · have c : ¬ ds.length < n := fun z => c0 (decide_eq_true (by omega))
        exact ⟨ds, rfl, eB, by omega, hR, sm⟩
    rintro σ' G' ⟨ds, rfl, eB, hl, hR, sm⟩
    exact ⟨_, rfl, q bl ds G' sm nbl eB hl hR⟩
/-! ### the kinds of each rank -/
end
end Kl

set_option maxRecDepth 100000
set_option maxHeartbeats 4000000
namespace Kl
open PySem PySem.Spec PyProof.Rows L2 Gx Mx
section
variable {P : Program} {w : World} {K : PySem.W.Frag} {mg : Str → Option Value} {base : Heap}
/-! ### the kinds of each rank -/
theorem pool_ok {z : Str} (h : z ∈ POOL) : PyData.strOk z = true := names_low (pool_name h)
def SetsAt (H : Hp) (leaf : Str) (M : Mak) (es : List Addr) : Prop := ∀ (i : Nat) (a : Addr), es[i]? = some a → H a = some (.tup ((setR leaf M i).map V.str))
theorem SetsAt.same {H H' : Hp} {leaf : Str} {M : Mak} {es : List Addr} (h : SetsAt H leaf M es) (s : Same H H') : SetsAt H' leaf M es := fun i a e => s _ _ (h i a e)
theorem snoc_at {es : List Addr} {a p : Addr} {i : Nat} (h : (es ++ [p])[i]? = some a) : es[i]? = some a ∨ (i = es.length ∧ a = p) := by
  rw [List.getElem?_append] at h
  by_cases c : i < es.length
  · rw [if_pos c] at h
    exact .inl h
  · rw [if_neg c] at h
    obtain ⟨h1, h2⟩ := List.getElem?_eq_some_iff.mp h
    rw [List.length_singleton] at h1
    have e0 : i - es.length = 0 := by omega
    rw [e0] at h
    exact .inr ⟨by omega, (Option.some.inj h).symm⟩
def setD (leaf : Str) (M : Mak) (n : Nat) : List PyData := (List.range n).map fun i => .tuple (tD (setR leaf M i))
theorem dpAll_snoc {H : Hp} {x : V} {d : PyData} (h : Dp K H x d) : ∀ {xs : List V} {ds : List PyData}, DpAll K H xs ds → DpAll K H (xs ++ [x]) (ds ++ [d])
  | [], _, .nil => .cons h .nil
  | _ :: _, _, .cons a r => .cons a (dpAll_snoc h r)
theorem dp_sets {H : Hp} {leaf : Str} {M : Mak} : ∀ {n : Nat} {es : List Addr}, es.length = n → SetsAt H leaf M es → DpAll K H (es.map V.ref) (setD leaf M n) := by
  intro n
  induction n with
  | zero =>
    intro es hl _
    rw [List.eq_nil_of_length_eq_zero hl]
    exact .nil
  | succ n ih =>
    intro es hl hS
    obtain ⟨fs, p, rfl⟩ : ∃ fs p, es = fs ++ [p] := ⟨es.dropLast, es.getLast (by intro e; rw [e] at hl; cases hl), (List.dropLast_concat_getLast _).symm⟩
    rw [List.length_append, List.length_singleton] at hl
    have lf : fs.length = n := by omega
    have h1 := ih lf fun i a e => hS i a (by rw [List.getElem?_append_left (List.getElem?_eq_some_iff.mp e).1]; exact e)
    have h2 := hS n p (by rw [List.getElem?_append_right (by omega), lf, Nat.sub_self]; rfl)
    unfold setD at h1 ⊢
    rw [List.range_succ, List.map_append, List.map_append]
    exact dpAll_snoc (.tup (.inl (.inl h2)) (dp_texts _)) h1
theorem sets_any {leaf : Str} {M : Mak} {n k : Nat} : ((setD leaf M n).any fun z => PyData.eqv z (.tuple (tD (setR leaf M k)))) = decide (∃ i, i < n ∧ setR leaf M i = setR leaf M k) := by
  rw [Bool.eq_iff_iff, List.any_eq_true, decide_eq_true_iff]
  constructor
  · rintro ⟨z, hz, h⟩
    obtain ⟨i, hi, rfl⟩ := List.mem_map.mp hz
    refine ⟨i, List.mem_range.mp hi, ?_⟩
    rw [PyData.eqv, eqv_texts] at h
    exact of_decide_eq_true h
  · rintro ⟨i, hi, h⟩
    refine ⟨_, List.mem_map.mpr ⟨i, List.mem_range.mpr hi, rfl⟩, ?_⟩
    rw [PyData.eqv, eqv_texts]
    exact decide_eq_true h
theorem canLay_all : ∀ {ds : List PyData}, (∀ d ∈ ds, PyData.canLay0 d = true ∧ PyData.depth d ≤ 60) → PyData.canLayAll0 ds = true ∧ PyData.depthAll ds ≤ 60
  | [], _ => by simp [PyData.canLayAll0, PyData.depthAll]
  | d :: ds, h => by
    obtain ⟨i1, i2⟩ := canLay_all fun x hx => h x (List.mem_cons_of_mem _ hx)
    obtain ⟨h1, h2⟩ := h d List.mem_cons_self
    rw [PyData.canLayAll0, PyData.depthAll, h1, i1]
    exact ⟨rfl, by omega⟩
theorem shaped_list {ds : List PyData} (h : ∀ d ∈ ds, PyData.canLay0 d = true ∧ PyData.depth d ≤ 60) : SeqAt.shaped (.list ds) = true := by
  obtain ⟨h1, h2⟩ := canLay_all h
  unfold SeqAt.shaped
  rw [Bool.and_eq_true]
  refine ⟨by simp only [PyData.canLay0]; exact h1, decide_eq_true ?_⟩
  simp only [PyData.depth]
  omega
theorem tuple_small {zs : List Str} (h : ∀ z ∈ zs, PyData.strOk z = true) : PyData.canLay0 (.tuple (tD zs)) = true ∧ PyData.depth (.tuple (tD zs)) ≤ 60 := by
  refine ⟨by simp only [PyData.canLay0]; exact canLay_texts zs h, ?_⟩
  have := depth_texts zs
  simp only [PyData.depth]
  omega
theorem set_pool {leaf : Str} {M : Mak} (v : Vld leaf M) (r : Nat) : ∀ z ∈ setR leaf M r, z ∈ POOL := fun z hz => by
  rcases set_sub r z hz with rfl | h
  · exact v.lf
  · exact v.keys z h
def spKBR (K : PySem.W.Frag) (C : Addr) : Sp := fun vs H Q _ => ∃ (kx md : Addr) (leaf : Str) (M : Mak) (ns : List Str), vs = [V.ref kx] ∧ KindsAt C H kx md leaf M ns ∧ Fin6 leaf M ns ∧
  ∀ (tu bl : Addr) (es : List Addr) (t : Nat) (H' : Hp), Same H H' → H' tu = some (.tup [.ref bl, .int (t : Nat)]) → H' bl = some (.lst (es.map V.ref)) → H bl = none → SetsAt H' leaf M es → Turn leaf M es.length t → Q (.ref tu) H'
abbrev NKB : List Str := ["kinds", "makings", "by_rank", "existing"]
theorem ok_kbr {C f : Addr} {fd : FuncData} (F : Fun K "_kinds_by_rank" "_kinds_by_rank" s_kinds_by_rank f fd) (T : Top K mg) (TC : Cl_Kinds K mg C) : FnOk P w K mg base CX0 3 f fd ["kinds"] (spKBR K C) := by
  have ca : Cal P w K mg base 2 "_kinds_above" ["makings", "existing"] (spAbove K) := (T.d_kinds_above.cal fun f fd F => ok_above F T).mono (by decide)
  have kMak : CalP P w K mg base C "makings" 1 (spKMak C) := TC.p_makings.cal fun f fd F => ok_kmak F T TC
  have kLeaf : CalP P w K mg base C "leaf" 1 (spKLeaf C) := TC.p_leaf.cal fun f fd F => ok_kleaf F TC
  refine F.ok sc_kinds_by_rank (fun vs H Q E h => ?_) (fun cdv A outer s H vs Q E hr h => ?_)
  · obtain ⟨kx, md, leaf, M, ns, rfl, _⟩ := h
    rfl
  · obtain ⟨kx, md, leaf, M, ns, rfl, hK, f6, q⟩ := h
    have hu := hu_of hr
    have hu65 := Nat.lt_of_succ_lt (hu66_of hr)
    refine ⟨_, pss_cut (ps_set (i := 1) sc_kinds_by_rank.nd rfl (.inl rfl) (pe_propC (pv 0) TC.cl kMak hr rfl))
      (pss_cut (ps_set (i := 2) sc_kinds_by_rank.nd rfl (.inl rfl) (pe_lst pa_nil))
      (pss_cut (ps_set (i := 3) sc_kinds_by_rank.nd rfl (.inl rfl) (pe_tup (pa_cons (pe_propC (pv 0) TC.cl kLeaf hr rfl) pa_nil)))
      (pss_cut (ps_while PassesOwn.never (pt_cmpR (op_notInD hu65) (pv 3) (pv 2) (by rfl))
        (pss_cut (ps_expr (pe_bm PySem.F.plainAttrs_list PySem.F.slot_list_append PySem.F.type_list_append mt_append (pv 2) (pa_cons (pv 3) pa_nil)))
        (pss_one (ps_set (i := 3) sc_kinds_by_rank.nd rfl (.inl rfl) (pe_cal ca hr (by rfl) (pa_cons (pv 1) (pa_cons (pv 3) pa_nil)))))))
      (pss_one (ps_ret (pe_tup (pa_cons (pv 2) (pa_cons (pe_bm PySem.F.plainAttrs_list PySem.F.slot_list_index PySem.F.type_list_index (mt_indexD hu65) (pv 2) (pa_cons (pv 3) pa_nil)) pa_nil)))))))), ?_⟩
    have big : 100000 ≤ sizeLine := by decide
    have lM := f6.v.len
    have l3 : ∀ m ∈ M, m.2.length ≤ 3 := fun m hm => (f6.v.parts m hm).2.2.1
    have okS : ∀ r, SeqAt.shaped (.tuple (tD (setR leaf M r))) = true := fun r => shaped_textsT fun z hz => pool_ok (set_pool f6.v r z hz)
    -- makings, an empty list, the leaf alone
    obtain ⟨dx, nt, kvs0, hx, hmd0, hM0, _⟩ := id hK
    refine ⟨fun σ' G => ∃ (pm : Addr) (kvs : List (Key × V)), σ' = [some (.ref kx), some (.ref pm), none, none] ∧ G pm = some (.dK kvs) ∧ MakAt G kvs M ∧ Same H G ∧ H pm = none, ?_, ?_⟩
    · refine ⟨_, rfl, kx, dx, _, rfl, hx, kx, md, leaf, M, ns, rfl, hK, fun p kvs np hMp => ?_⟩
      have s1 := same_new (o := .dK kvs) (Same.refl H) np
      exact ⟨p, kvs, rfl, upd_same, hMp.same (fun _ _ h => h.mono s1), s1, np⟩
    rintro σ' G1 ⟨pm, kvs, rfl, epm, hMp, s1, npm⟩
    refine ⟨fun σ' G => ∃ bl : Addr, σ' = [some (.ref kx), some (.ref pm), some (.ref bl), none] ∧ G bl = some (.lst []) ∧ Same G1 G ∧ H bl = none, ?_, ?_⟩
    · refine ⟨by show 0 ≤ sizeLine; omega, fun bl nbl => ⟨bl, rfl, upd_same, same_new (Same.refl G1) nbl, s1.free nbl⟩⟩
    rintro σ' G2 ⟨bl, rfl, ebl, s2, nbl⟩
    refine ⟨fun σ' G => ∃ e0 : Addr, σ' = [some (.ref kx), some (.ref pm), some (.ref bl), some (.ref e0)] ∧ G e0 = some (.tup ((setR leaf M 0).map V.str)) ∧ Same G2 G, ?_, ?_⟩
    · refine ⟨_, rfl, kx, dx, _, rfl, s2 _ _ (s1 _ _ hx), kx, md, leaf, M, ns, rfl, (hK.same s1).same s2, by show 1 ≤ sizeLine; omega, fun e0 ne0 => ⟨e0, rfl, upd_same, same_new (Same.refl G2) ne0⟩⟩
    rintro σ' G3 ⟨e0, rfl, ee0, s3⟩
    have sG3 : Same H G3 := fun b o e => s3 _ _ (s2 _ _ (s1 _ _ e))
    have okL : ∀ n, SeqAt.shaped (.list (setD leaf M n)) = true := fun n => shaped_list fun d hd => by
      obtain ⟨i, _, rfl⟩ := List.mem_map.mp hd
      exact tuple_small fun z hz => pool_ok (set_pool f6.v i z hz)
    -- rank by rank
    refine ⟨fun σ' G => ∃ (es : List Addr) (e : Addr), σ' = [some (.ref kx), some (.ref pm), some (.ref bl), some (.ref e)] ∧ G bl = some (.lst (es.map V.ref)) ∧ SetsAt G leaf M es ∧ G e = some (.tup ((setR leaf M es.length).map V.str)) ∧
      (∀ i j, i < j → j < es.length → setR leaf M i ≠ setR leaf M j) ∧ es.length ≤ 64 ∧ (∃ t, t < es.length ∧ setR leaf M t = setR leaf M es.length) ∧ Same H G, ?_, ?_⟩
    · refine ⟨fun m σ' G => ∃ (es : List Addr) (e : Addr), σ' = [some (.ref kx), some (.ref pm), some (.ref bl), some (.ref e)] ∧ G bl = some (.lst (es.map V.ref)) ∧ SetsAt G leaf M es ∧ G e = some (.tup ((setR leaf M es.length).map V.str)) ∧
        (∀ i j, i < j → j < es.length → setR leaf M i ≠ setR leaf M j) ∧ es.length + m = 64 ∧ Same H G ∧ G pm = some (.dK kvs) ∧ MakAt G kvs M,
        ⟨64, [], e0, rfl, s3 _ _ ebl, (fun i a h => by cases h), ee0, (fun i j _ h => absurd h (by show ¬ j < 0; omega)), rfl, sG3, s3 _ _ (s2 _ _ epm), hMp.same (fun _ _ h => (h.mono s2).mono s3)⟩, fun m σ' G hW => ?_⟩
      obtain ⟨es, e, rfl, eB, hS, eE, hne, hl, sm, epG, hMG⟩ := hW
      refine ⟨_, rfl, _, rfl, .tuple (tD (setR leaf M es.length)), setD leaf M es.length, .tup (.inl (.inl eE)) (dp_texts _), .lst (.inl (.inl eB)) (dp_sets rfl hS), okS _, okL _, ?_⟩
      rw [sets_any]
      refine ⟨_, rfl, ?_⟩
      refine ite2 (fun c0 => ?_) (fun c0 => ?_)
      · have c : ¬ ∃ i, i < es.length ∧ setR leaf M i = setR leaf M es.length := of_decide_eq_false (by simpa using c0)
        have hne2 : ∀ i j, i < j → j ≤ es.length → setR leaf M i ≠ setR leaf M j := fun i j h1 h2 e => by
          rcases Nat.lt_or_ge j es.length with h | h
          · exact hne i j h1 h e
          · have ej : j = es.length := by omega
            exact c ⟨i, by omega, by rw [← ej]; exact e⟩
        have h64 := set_again f6 es.length hne2
        refine ⟨fun σ' G' => ∃ m', m' < m ∧ ∃ (es : List Addr) (e : Addr), σ' = [some (.ref kx), some (.ref pm), some (.ref bl), some (.ref e)] ∧ G' bl = some (.lst (es.map V.ref)) ∧ SetsAt G' leaf M es ∧ G' e = some (.tup ((setR leaf M es.length).map V.str)) ∧
          (∀ i j, i < j → j < es.length → setR leaf M i ≠ setR leaf M j) ∧ es.length + m' = 64 ∧ Same H G' ∧ G' pm = some (.dK kvs) ∧ MakAt G' kvs M, fun σ' G' h => h, ?_⟩
        refine ⟨fun σ' G' => σ' = [some (.ref kx), some (.ref pm), some (.ref bl), some (.ref e)] ∧ G' bl = some (.lst ((es ++ [e]).map V.ref)) ∧ SameX bl G G', ?_, ?_⟩
        · refine ⟨_, rfl, ⟨.inl ⟨rfl, _, .inl (.inl eB)⟩, ?_⟩⟩
          refine ⟨_, rfl, ?_⟩
          refine ⟨bl, _, _, rfl, rfl, eB, by rw [List.length_map]; exact Nat.lt_of_le_of_lt (show _ ≤ 64 by omega) (by decide), rfl, ?_, fun b o n e' => by rw [upd_ne n]; exact e'⟩
          rw [upd_same, List.map_append]
          rfl
        rintro σ' G' ⟨rfl, eB', sx⟩
        have neb : e ≠ bl := fun z => by rw [z, eB] at eE; cases eE
        have npb : pm ≠ bl := fun z => by rw [z, eB] at epG; cases epG
        have eE' := sx _ _ neb eE
        have hMG' : MakAt G' kvs M := hMG.same fun a xs h => h.at fun o e' => sx _ _ (h.ne eB (fun _ => nofun)) e'
        have sm' : Same H G' := fun b o e' => sx _ _ (ne_of_none e' nbl) (sm _ _ e')
        refine ⟨_, rfl, _, rfl, pm, e, kvs, M, setR leaf M es.length, rfl, sx _ _ npb epG, hMG', lM, f6.v.nd, l3, eE', fun p G2 s4 np ep => ?_⟩
        have hlen : (es ++ [e]).length = es.length + 1 := by rw [List.length_append, List.length_singleton]
        refine ⟨m - 1, by omega, es ++ [e], p, rfl, s4 _ _ eB', ?_, ?_, ?_, by omega, fun b o e' => s4 _ _ (sm' _ _ e'), s4 _ _ (sx _ _ npb epG), hMG'.same (fun _ _ h => h.mono s4)⟩
        · intro i a ha
          rcases snoc_at ha with h | ⟨rfl, rfl⟩
          · exact s4 _ _ (sx _ _ (fun z => by have := hS i a h; rw [z, eB] at this; cases this) (hS i a h))
          · exact s4 _ _ eE'
        · rw [hlen, set_succ]
          exact ep
        · intro i j h1 h2
          rw [hlen] at h2
          exact hne2 i j h1 (by omega)
      · have c : ∃ i, i < es.length ∧ setR leaf M i = setR leaf M es.length := by
          simpa using c0
        exact ⟨es, e, rfl, eB, hS, eE, hne, by omega, c, sm⟩
    rintro σ' G ⟨es, e, rfl, eB, hS, eE, hne, hl, ⟨t, ht, et⟩, sm⟩
    have hget : ∀ m, m < es.length → (setD leaf M es.length)[m]? = some (.tuple (tD (setR leaf M m))) := fun m hm => by
      unfold setD
      rw [List.getElem?_map, List.getElem?_range hm]
      rfl
    refine ⟨_, rfl, _, rfl, ⟨.inl ⟨rfl, _, .inl (.inl eB)⟩, ?_⟩⟩
    refine ⟨_, rfl, ?_⟩
    refine ⟨bl, .ref e, .tuple (tD (setR leaf M es.length)), setD leaf M es.length, t, .tuple (tD (setR leaf M t)), rfl, rfl, .lst (.inl (.inl eB)) (dp_sets rfl hS), .tup (.inl (.inl eE)) (dp_texts _), okL _, okS _, hget t ht, ?_, fun m z hm hz => ?_, ?_⟩
    · rw [PyData.eqv, eqv_texts]
      exact decide_eq_true et
    · rw [hget m (by omega)] at hz
      cases hz
      rw [PyData.eqv, eqv_texts]
      exact decide_eq_false fun h => hne m t hm ht (h.trans et.symm)
    refine ⟨by show 2 ≤ sizeLine; omega, fun tu ntu => ?_⟩
    have s5 := same_new (o := .tup [.ref bl, .int (t : Nat)]) (Same.refl G) ntu
    exact q tu bl es t _ (fun b o e' => s5 _ _ (sm _ _ e')) upd_same (s5 _ _ eB) nbl (hS.same s5) ⟨ht, hl, hne, et⟩
end
end Kl

set_option maxRecDepth 100000
set_option maxHeartbeats 4000000
namespace Kl
open PySem PySem.Spec PyProof.Rows L2 Gx Mx
/-! ### kinds opened again and again: the mathematics -/
/-- no making is empty -/
structure Nem (M : Mak) : Prop where
  nd : (keysOf M).Nodup
  ne : ∀ m ∈ M, m.2 ≠ []
theorem Vld.nem {leaf : Str} {M : Mak} (v : Vld leaf M) : Nem M := ⟨v.nd, fun m hm e => by
  have h := (v.parts m hm).2.1
  rw [e] at h
  exact absurd h (by show ¬ 2 ≤ 0; omega)⟩
/-- one more of c times p -/
def addR : Row → Str → Nat → Row
  | [], p, c => [(p, c)]
  | q :: S, p, c => if q.1 = p then (q.1, q.2 + c) :: S else q :: addR S p c
/-- its parts, c times each -/
def addP (c : Nat) (S : Row) (ps : List Str) : Row := ps.foldl (fun S p => addR S p c) S
def prt (M : Mak) (z : Str) : List Str := (lookM M z).getD []
/-- all of them opened once -/
def openF (M : Mak) (S R : Row) : Row := R.foldl (fun S q => addP q.2 S (prt M q.1)) S
def openR (M : Mak) (R : Row) : Row := openF M [] R
def canR (M : Mak) (R : Row) : Prop := ∀ q ∈ R, q.1 ∈ keysOf M
def opR (M : Mak) (z : Str) : Nat → Row
  | 0 => [(z, 1)]
  | n + 1 => openR M (opR M z n)
def tot (R : Row) (g : Str → Nat) : Nat := (R.map fun q => q.2 * g q.1).sum
theorem addR_keys {z : Str} : ∀ {S : Row} {p : Str} {c : Nat}, z ∈ keysR (addR S p c) ↔ z ∈ keysR S ∨ z = p
  | [], p, c => by
    show z ∈ [p] ↔ z ∈ [] ∨ z = p
    rw [List.mem_singleton]
    exact ⟨.inr, fun h => h.resolve_left List.not_mem_nil⟩
  | q :: S, p, c => by
    unfold addR
    by_cases e : q.1 = p
    · rw [if_pos e]
      show z ∈ q.1 :: keysR S ↔ z ∈ q.1 :: keysR S ∨ z = p
      refine ⟨.inl, fun h => h.elim id fun h => ?_⟩
      rw [h, ← e]
      exact List.mem_cons_self
    · rw [if_neg e]
      show z ∈ q.1 :: keysR (addR S p c) ↔ z ∈ q.1 :: keysR S ∨ z = p
      rw [List.mem_cons, List.mem_cons, addR_keys, or_assoc]
theorem addR_nd : ∀ {S : Row} {p : Str} {c : Nat}, (keysR S).Nodup → (keysR (addR S p c)).Nodup
  | [], p, c, _ => List.nodup_cons.mpr ⟨List.not_mem_nil, List.nodup_nil⟩
  | q :: S, p, c, h => by
    have h' : (q.1 :: keysR S).Nodup := h
    rw [List.nodup_cons] at h'
    unfold addR
    by_cases e : q.1 = p
    · rw [if_pos e]
      exact h
    · rw [if_neg e]
      show (q.1 :: keysR (addR S p c)).Nodup
      refine List.nodup_cons.mpr ⟨fun hq => ?_, addR_nd h'.2⟩
      rcases addR_keys.mp hq with hq | hq
      · exact h'.1 hq
      · exact e hq
theorem addR_tot (g : Str → Nat) : ∀ (S : Row) (p : Str) (c : Nat), tot (addR S p c) g = tot S g + c * g p
  | [], p, c => by
    show (c * g p + 0) = 0 + c * g p
    omega
  | q :: S, p, c => by
    unfold addR
    by_cases e : q.1 = p
    · rw [if_pos e]
      show (q.2 + c) * g q.1 + tot S g = q.2 * g q.1 + tot S g + c * g p
      rw [Nat.add_mul, e]
      omega
    · rw [if_neg e]
      show q.2 * g q.1 + tot (addR S p c) g = q.2 * g q.1 + tot S g + c * g p
      rw [addR_tot g S p c]
      omega
theorem addP_keys {z : Str} {c : Nat} : ∀ {ps : List Str} {S : Row}, z ∈ keysR (addP c S ps) ↔ z ∈ keysR S ∨ z ∈ ps
  | [], S => ⟨.inl, fun h => h.resolve_right List.not_mem_nil⟩
  | p :: ps, S => by
    show z ∈ keysR (addP c (addR S p c) ps) ↔ _
    rw [addP_keys, addR_keys, List.mem_cons, or_assoc]
theorem addP_nd {c : Nat} : ∀ {ps : List Str} {S : Row}, (keysR S).Nodup → (keysR (addP c S ps)).Nodup
  | [], _, h => h
  | p :: ps, S, h => addP_nd (ps := ps) (S := addR S p c) (addR_nd h)
theorem addP_tot (g : Str → Nat) {c : Nat} : ∀ (ps : List Str) (S : Row), tot (addP c S ps) g = tot S g + c * (ps.map g).sum
  | [], S => by
    show tot S g = tot S g + c * 0
    omega
  | p :: ps, S => by
    show tot (addP c (addR S p c) ps) g = _
    rw [addP_tot g ps, addR_tot, List.map_cons, List.sum_cons, Nat.mul_add]
    omega
theorem openF_keys {M : Mak} {z : Str} : ∀ {R S : Row}, z ∈ keysR (openF M S R) ↔ z ∈ keysR S ∨ ∃ q ∈ R, z ∈ prt M q.1
  | [], S => ⟨.inl, fun h => h.resolve_right fun ⟨_, h, _⟩ => nomatch h⟩
  | q :: R, S => by
    show z ∈ keysR (openF M (addP q.2 S (prt M q.1)) R) ↔ _
    rw [openF_keys, addP_keys, or_assoc]
    refine or_congr_right ⟨fun h => h.elim (fun h => ⟨q, List.mem_cons_self, h⟩) fun ⟨x, h1, h2⟩ => ⟨x, List.mem_cons_of_mem _ h1, h2⟩, fun ⟨x, h1, h2⟩ => ?_⟩
    rcases List.mem_cons.mp h1 with rfl | h1
    · exact .inl h2
    · exact .inr ⟨x, h1, h2⟩
theorem openF_nd {M : Mak} : ∀ {R S : Row}, (keysR S).Nodup → (keysR (openF M S R)).Nodup
  | [], _, h => h
  | q :: R, S, h => openF_nd (R := R) (S := addP q.2 S (prt M q.1)) (addP_nd h)
theorem openF_tot {M : Mak} (g : Str → Nat) : ∀ (R S : Row), tot (openF M S R) g = tot S g + tot R fun k => ((prt M k).map g).sum
  | [], S => rfl
  | q :: R, S => by
    show tot (openF M (addP q.2 S (prt M q.1)) R) g = _
    rw [openF_tot g R, addP_tot]
    show _ = tot S g + (q.2 * ((prt M q.1).map g).sum + tot R fun k => ((prt M k).map g).sum)
    omega
theorem opR_nd {M : Mak} {z : Str} : ∀ n, (keysR (opR M z n)).Nodup
  | 0 => List.nodup_cons.mpr ⟨List.not_mem_nil, List.nodup_nil⟩
  | n + 1 => openF_nd List.nodup_nil
theorem key_in {R : Row} {z : Str} (h : z ∈ keysR R) : ∃ q ∈ R, q.1 = z := by
  obtain ⟨q, h1, h2⟩ := List.mem_map.mp h
  exact ⟨q, h1, h2⟩
theorem in_key {R : Row} {q : Str × Nat} (h : q ∈ R) : q.1 ∈ keysR R := List.mem_map.mpr ⟨q, h, rfl⟩
theorem prt_of {M : Mak} {z : Str} {ps : List Str} (h : lookM M z = some ps) : prt M z = ps := by
  unfold prt
  rw [h]
  rfl
theorem opR_ne {M : Mak} (v : Nem M) {z : Str} : ∀ {n : Nat}, (∀ i, i < n → canR M (opR M z i)) → keysR (opR M z n) ≠ []
  | 0, _ => nofun
  | n + 1, h => by
    have ih := opR_ne v (n := n) fun i hi => h i (by omega)
    intro e
    cases c : opR M z n with
    | nil => exact ih (by rw [c]; rfl)
    | cons q R =>
      have hq : q ∈ opR M z n := by rw [c]; exact List.mem_cons_self
      obtain ⟨ps, hps⟩ := lookM_in (h n (by omega) q hq)
      have two : ps ≠ [] := v.ne _ (lookM_some hps)
      cases ps with
      | nil => exact absurd rfl two
      | cons p ps =>
        have : p ∈ keysR (opR M z (n + 1)) := openF_keys.mpr (.inr ⟨q, hq, by rw [prt_of hps]; exact List.mem_cons_self⟩)
        rw [e] at this
        cases this
/-- the size of a kind at a rank -/
def siz (leaf : Str) (M : Mak) (r : Nat) (z : Str) : Nat := getR (rowsR leaf M r) z
theorem mem_succ {leaf : Str} {M : Mak} (nd : (keysOf M).Nodup) {r : Nat} {z : Str} : z ∈ setR leaf M (r + 1) ↔ ∃ ps, lookM M z = some ps ∧ ∀ p ∈ ps, p ∈ setR leaf M r := by
  rw [set_succ]
  unfold aboveE
  rw [List.mem_map]
  constructor
  · rintro ⟨m, hm, rfl⟩
    obtain ⟨h1, h2⟩ := List.mem_filter.mp hm
    exact ⟨m.2, lookM_mem nd h1, fun p hp => of_decide_eq_true (List.all_eq_true.mp h2 p hp)⟩
  · rintro ⟨ps, h1, h2⟩
    refine ⟨(z, ps), List.mem_filter.mpr ⟨lookM_some h1, ?_⟩, rfl⟩
    exact List.all_eq_true.mpr fun p hp => decide_eq_true (h2 p hp)
theorem lookR_above {M : Mak} {R : Row} : ∀ {N : Mak}, (keysOf N).Nodup → ∀ {z : Str} {ps : List Str}, (z, ps) ∈ N → fitsR (keysR R) ps = true → lookR ((N.filter fun m => fitsR (keysR R) m.2).map fun m => (m.1, (m.2.map (getR R)).sum)) z = some (ps.map (getR R)).sum
  | [], _, _, _, h, _ => nomatch h
  | m :: N, nd, z, ps, h, hf => by
    have nd' : (m.1 :: keysOf N).Nodup := nd
    rw [List.nodup_cons] at nd'
    rw [List.filter_cons]
    rcases List.mem_cons.mp h with e | h
    · subst e
      rw [if_pos hf, List.map_cons, lookR_cons, if_pos rfl]
    · have ne : m.1 ≠ z := fun e => nd'.1 (by rw [e]; exact List.mem_map.mpr ⟨(z, ps), h, rfl⟩)
      have ih := lookR_above (M := M) (R := R) nd'.2 h hf
      by_cases c : fitsR (keysR R) m.2 = true
      · rw [if_pos c, List.map_cons, lookR_cons, if_neg ne]
        exact ih
      · rw [if_neg c]
        exact ih
theorem siz_succ {leaf : Str} {M : Mak} (nd : (keysOf M).Nodup) {r : Nat} {z : Str} {ps : List Str} (h1 : lookM M z = some ps) (h2 : ∀ p ∈ ps, p ∈ setR leaf M r) : siz leaf M (r + 1) z = (ps.map (siz leaf M r)).sum := by
  unfold siz
  have h := lookR_above (M := M) (R := rowsR leaf M r) nd (lookM_some h1) (List.all_eq_true.mpr fun p hp => decide_eq_true (h2 p hp))
  show getR (aboveR M (rowsR leaf M r)) z = _
  unfold getR aboveR
  rw [h]
  rfl
theorem siz_zero (leaf : Str) (M : Mak) : siz leaf M 0 leaf = 1 := by
  unfold siz getR
  show (lookR [(leaf, 1)] leaf).getD 0 = 1
  rw [lookR_cons, if_pos rfl]
  rfl
theorem mem_zero {leaf : Str} {M : Mak} {z : Str} : z ∈ setR leaf M 0 ↔ z = leaf := List.mem_singleton
theorem tot_congr {R : Row} {g h : Str → Nat} (e : ∀ q ∈ R, g q.1 = h q.1) : tot R g = tot R h := by
  unfold tot
  rw [List.map_congr_left fun q hq => by rw [e q hq]]
/-- opened once -/
theorem stp_mem {leaf : Str} {M : Mak} (nd : (keysOf M).Nodup) {m : Nat} {R : Row} (h : ∀ z ∈ keysR R, z ∈ setR leaf M (m + 1)) : canR M R ∧ (∀ y ∈ keysR (openR M R), y ∈ setR leaf M m) ∧ tot R (siz leaf M (m + 1)) = tot (openR M R) (siz leaf M m) := by
  refine ⟨fun q hq => ?_, fun y hy => ?_, ?_⟩
  · obtain ⟨ps, h1, _⟩ := (mem_succ nd).mp (h _ (in_key hq))
    exact List.mem_map.mpr ⟨_, lookM_some h1, rfl⟩
  · rcases openF_keys.mp hy with hy | ⟨q, hq, hy⟩
    · cases hy
    · obtain ⟨ps, h1, h2⟩ := (mem_succ nd).mp (h _ (in_key hq))
      rw [prt_of h1] at hy
      exact h2 y hy
  · unfold openR
    rw [openF_tot]
    show _ = 0 + _
    rw [Nat.zero_add]
    refine tot_congr fun q hq => ?_
    obtain ⟨ps, h1, h2⟩ := (mem_succ nd).mp (h _ (in_key hq))
    rw [siz_succ nd h1 h2, prt_of h1]
theorem stp_back {leaf : Str} {M : Mak} (nd : (keysOf M).Nodup) {m : Nat} {R : Row} (c : canR M R) (h : ∀ y ∈ keysR (openR M R), y ∈ setR leaf M m) : ∀ z ∈ keysR R, z ∈ setR leaf M (m + 1) := by
  intro z hz
  obtain ⟨q, hq, rfl⟩ := key_in hz
  obtain ⟨ps, hps⟩ := lookM_in (c q hq)
  exact (mem_succ nd).mpr ⟨ps, hps, fun p hp => h p (openF_keys.mpr (.inr ⟨q, hq, by rw [prt_of hps]; exact hp⟩))⟩
/-- opened n times -/
theorem opn_mem {leaf : Str} {M : Mak} (nd : (keysOf M).Nodup) {z : Str} : ∀ {n m : Nat}, z ∈ setR leaf M (n + m) → (∀ i, i < n → canR M (opR M z i)) ∧ (∀ y ∈ keysR (opR M z n), y ∈ setR leaf M m) ∧ siz leaf M (n + m) z = tot (opR M z n) (siz leaf M m)
  | 0, m, h => by
    rw [Nat.zero_add] at h ⊢
    refine ⟨fun i hi => absurd hi (Nat.not_lt_zero _), fun y hy => by rw [List.mem_singleton.mp hy]; exact h, ?_⟩
    show _ = 1 * siz leaf M m z + 0
    omega
  | n + 1, m, h => by
    have h' : z ∈ setR leaf M (n + (m + 1)) := by rw [show n + (m + 1) = n + 1 + m by omega]; exact h
    obtain ⟨h1, h2, h3⟩ := opn_mem nd h'
    obtain ⟨h4, h5, h6⟩ := stp_mem nd h2
    refine ⟨fun i hi => ?_, h5, ?_⟩
    · by_cases c : i = n
      · rw [c]
        exact h4
      · exact h1 i (by omega)
    · rw [show n + 1 + m = n + (m + 1) by omega, h3, h6]
      rfl
theorem opn_back {leaf : Str} {M : Mak} (nd : (keysOf M).Nodup) {z : Str} : ∀ {n m : Nat}, (∀ i, i < n → canR M (opR M z i)) → (∀ y ∈ keysR (opR M z n), y ∈ setR leaf M m) → z ∈ setR leaf M (n + m)
  | 0, m, _, hl => by
    rw [Nat.zero_add]
    exact hl z (List.mem_singleton.mpr rfl)
  | n + 1, m, h, hr => by
    have := opn_back nd (n := n) (m := m + 1) (fun i hi => h i (by omega)) (stp_back nd (h n (by omega)) hr)
    rw [show n + 1 + m = n + (m + 1) by omega]
    exact this
/-- leaves alone: the kind exists there -/
theorem leaves {leaf : Str} {M : Mak} (v : Nem M) {z : Str} {d : Nat} (h : ∀ i, i < d → canR M (opR M z i)) : keysR (opR M z d) = [leaf] ↔ z ∈ setR leaf M d := by
  constructor
  · intro e
    have := opn_back v.nd (m := 0) h fun y hy => by
      rw [e] at hy
      exact mem_zero.mpr (List.mem_singleton.mp hy)
    exact this
  · intro hz
    obtain ⟨_, h2, _⟩ := opn_mem v.nd (n := d) (m := 0) hz
    have nd := opR_nd (M := M) (z := z) d
    have ne := opR_ne v h
    revert nd ne h2
    cases keysR (opR M z d) with
    | nil => exact fun _ _ ne => absurd rfl ne
    | cons a l =>
      intro h2 nd _
      have ha : a = leaf := mem_zero.mp (h2 a List.mem_cons_self)
      subst ha
      cases l with
      | nil => rfl
      | cons b l =>
        have hb : b = a := mem_zero.mp (h2 b (List.mem_cons_of_mem _ List.mem_cons_self))
        subst hb
        exact absurd List.mem_cons_self (List.nodup_cons.mp nd).1
theorem leaves_n {leaf : Str} {M : Mak} (v : Nem M) {z : Str} {d : Nat} (h : z ∈ setR leaf M d) : opR M z d = [(leaf, siz leaf M d z)] := by
  obtain ⟨h1, h2, h3⟩ := opn_mem v.nd (n := d) (m := 0) h
  have e := (leaves v h1).mpr h
  revert h3 e
  cases opR M z d with
  | nil => exact fun _ e => nomatch e
  | cons q R =>
    intro h3 e
    have e' : q.1 :: keysR R = [leaf] := e
    obtain ⟨e1, e2⟩ := List.cons.inj e'
    have e3 : R = [] := List.map_eq_nil_iff.mp e2
    subst e3
    obtain ⟨k, n⟩ := q
    cases e1
    rw [show tot [(k, n)] (siz k M 0) = n * siz k M 0 k + 0 from rfl, siz_zero, Nat.mul_one, Nat.add_zero] at h3
    show [(k, n)] = [(k, siz k M d z)]
    have h4 : siz k M d z = n := h3
    rw [h4]
/-! ### makings whose parts are told once each -/
def DedOf (M N : Mak) : Prop := Paired (fun (m n : Str × List Str) => n.1 = m.1 ∧ sortedS n.2 = true ∧ n.2.Nodup ∧ ∀ z, z ∈ n.2 ↔ z ∈ m.2) M N
theorem DedOf.keys {M N : Mak} (h : DedOf M N) : keysOf N = keysOf M := by
  unfold DedOf at h
  induction h with
  | nil => rfl
  | @cons m n M N h _ ih =>
    show n.1 :: keysOf N = m.1 :: keysOf M
    rw [ih, h.1]
theorem DedOf.mem {M N : Mak} (h : DedOf M N) {n : Str × List Str} (hn : n ∈ N) : ∃ m ∈ M, n.1 = m.1 ∧ sortedS n.2 = true ∧ n.2.Nodup ∧ ∀ z, z ∈ n.2 ↔ z ∈ m.2 := by
  unfold DedOf at h
  induction h with
  | nil => cases hn
  | @cons m n' M N h _ ih =>
    rcases List.mem_cons.mp hn with rfl | hn
    · exact ⟨m, List.mem_cons_self, h⟩
    · obtain ⟨m', h1, h2⟩ := ih hn
      exact ⟨m', List.mem_cons_of_mem _ h1, h2⟩
theorem DedOf.look {M N : Mak} (h : DedOf M N) {z : Str} {ps : List Str} (e : lookM M z = some ps) : ∃ qs, lookM N z = some qs ∧ sortedS qs = true ∧ qs.Nodup ∧ ∀ y, y ∈ qs ↔ y ∈ ps := by
  unfold DedOf at h
  induction h with
  | nil => cases e
  | @cons m n M N h _ ih =>
    obtain ⟨h1, h2, h3, h4⟩ := h
    rw [lookM_cons] at e ⊢
    by_cases c : m.1 = z
    · rw [if_pos c] at e
      cases e
      rw [if_pos (h1.trans c)]
      exact ⟨_, rfl, h2, h3, h4⟩
    · rw [if_neg c] at e
      rw [if_neg (by rw [h1]; exact c)]
      exact ih e
theorem DedOf.fits {E : List Str} {m n : Str × List Str} (h : ∀ z, z ∈ n.2 ↔ z ∈ m.2) : fitsR E n.2 = fitsR E m.2 := by
  unfold fitsR
  rw [Bool.eq_iff_iff, List.all_eq_true, List.all_eq_true]
  exact ⟨fun q z hz => q z ((h z).mpr hz), fun q z hz => q z ((h z).mp hz)⟩
theorem DedOf.above {M N : Mak} (h : DedOf M N) (E : List Str) : aboveE N E = aboveE M E := by
  unfold DedOf at h
  unfold aboveE
  induction h with
  | nil => rfl
  | @cons m n M N h _ ih =>
    obtain ⟨h1, _, _, h4⟩ := h
    rw [List.filter_cons, List.filter_cons, DedOf.fits h4]
    by_cases c : fitsR E m.2 = true
    · rw [if_pos c, if_pos c, List.map_cons, List.map_cons, ih, h1]
    · rw [if_neg c, if_neg c, ih]
theorem DedOf.sets {leaf : Str} {M N : Mak} (h : DedOf M N) : ∀ r, setR leaf N r = setR leaf M r
  | 0 => rfl
  | r + 1 => by rw [set_succ, set_succ, h.sets r, h.above]
theorem DedOf.nem {leaf : Str} {M N : Mak} (h : DedOf M N) (v : Vld leaf M) : Nem N := ⟨by rw [h.keys]; exact v.nd, fun n hn e => by
  obtain ⟨m, h1, _, _, _, h2⟩ := h.mem hn
  have h3 := (v.parts m h1).2.1
  cases q : m.2 with
  | nil =>
    rw [q] at h3
    exact absurd h3 (by show ¬ 2 ≤ 0; omega)
  | cons y l =>
    have := (h2 y).mpr (by rw [q]; exact List.mem_cons_self)
    rw [e] at this
    cases this⟩
end Kl

set_option maxRecDepth 100000
set_option maxHeartbeats 4000000
namespace Gx
open PySem PySem.Spec PyProof.Rows L2
/-! ### set(tuple of texts); a field as one of several targets -/
section
variable {P : Program} {w : World} {A : Around} {s : Shared} {E : Value → Shared → Prop}
theorem call_setXT {l : Addr} {items : Array Value} {xs : List Str} {Q : Value → Shared → Prop} (hh : A.handled = none) (hl : s.heap.IsTuple l items) (hi : StrsAre items.toList xs) (few : xs.length + 1 < scanBound)
    (h : ∀ (h' : Heap) (tk : Nat), SetX P w h' s.heap.objs.size xs → (∀ b o, b < s.heap.objs.size → s.heap.get? b = some o → h'.get? b = some o) → Q (.ref s.heap.objs.size) { s with heap := h', toks := tk }) :
    wpAny (model P w) A (call (.type "set") [.ref l]) Q E s := by
  obtain ⟨c, tl, hmro⟩ := PySem.F.called_set.mro
  have hmade := PySem.F.called_set.made
  have hsub := PySem.F.called_set.sub
  refine wpAny_call (codeAny_of_tree ?_)
  show wpAny _ _ (callAny (.type "set") _) _ _ _
  refine wpAny_pure ⟨Code.quiet_builtin _ (by decide +kernel), codeAny_builtin PySem.F.entry_type_call ?_⟩
  rw [Around.under_plain (weight_type_call_type "set" [.ref l] []) rfl]
  have h1 := PySem.F.called_set.notType
  have h2 := PySem.F.called_set.canCreate
  have hct := PySem.F.typeCall_set_1 (.ref l)
  repeat (any_goals (first | assumption | wp_step))
  have R0 : SetX P w (s.heap.push { cls := .type "set", dict := none, data := .set #[] 0 (.fresh 0 0 (!w.params.followText "set-order")) }) s.heap.objs.size [] := setX_fresh
  refine codeAny_mono (code_setX (x := .ref l) (E := E) (Q₁ := fun obj s₁ => obj = .ref s.heap.objs.size ∧ s₁ = { s with heap := s.heap.push { cls := .type "set", dict := none, data := .set #[] 0 (.fresh 0 0 (!w.params.followText "set-order")) } }) ⟨rfl, rfl⟩) fun r s₁ hr => ?_
  have hS : (s.heap.push { cls := .type "set", dict := none, data := .set #[] 0 (.fresh 0 0 (!w.params.followText "set-order")) }).get? s.heap.objs.size = some { cls := .type "set", dict := none, data := .set #[] 0 (.fresh 0 0 (!w.params.followText "set-order")) } := Heap.get?_push_size _ rfl
  cases r with
  | error e => exact hr
  | ok fl =>
    cases fl with
    | ret obj =>
      obtain ⟨rfl, rfl⟩ := hr
      have hT : Shared.TypeIs { s with heap := s.heap.push ({ cls := .type "set", dict := none, data := .set #[] 0 (.fresh 0 0 (!w.params.followText "set-order")) } : Obj) } (.ref s.heap.objs.size) "set" := ⟨_, hS, rfl⟩
      have hli := PySem.F.called_set.init.lookup
      have hbi := PySem.F.called_set.init.bind (.ref s.heap.objs.size)
      repeat (any_goals (first | assumption | wp_step))
      refine codeAny_mono (codeAny_call_builtin (R := wants (fun r s₂ => r = .none ∧ ∃ h' tk, s₂ = { s with heap := h', toks := tk } ∧ SetX P w h' s.heap.objs.size xs ∧
          (∀ b o, b < s.heap.objs.size → s.heap.get? b = some o → h'.get? b = some o)) E) PySem.F.called_set.init.plain PySem.F.entry_set_init (check_set_init_1 hT ?_)) fun r₂ s₂ hr₂ => ?_
      · obtain ⟨ol, hol, hcl, nl, hdl⟩ := hl
        obtain ⟨ocls, odict, odata, oslots⟩ := ol
        simp only at hcl hdl
        subst hcl; subst hdl
        have hol' : (s.heap.push ({ cls := .type "set", dict := none, data := .set #[] 0 (.fresh 0 0 (!w.params.followText "set-order")) } : Obj)).get? l = some { cls := .type "tuple", dict := odict, data := .seq items nl, slots := oslots } := Heap.get?_push_of_some _ hol
        have hsls := PySem.F.sub_tuple_set
        have hslf := PySem.F.sub_tuple_frozenset
        have hne : (Value.type "tuple" == Value.type "dict") = false := by decide
        have hl1 : (s.heap.push ({ cls := .type "set", dict := none, data := .set #[] 0 (.fresh 0 0 (!w.params.followText "set-order")) } : Obj)).IsTuple l items := ⟨_, hol', rfl, nl, rfl⟩
        unfold Builtin.«set.__init__» noKeywords Builtin.Frozenset.updateFrom
        generalize hPI : pyIter = PI
        wp_walk
        subst hPI
        refine wpAny_pyIter_tuple hl1 ?_
        refine wpAny_bind (wpAny_runValue ?_)
        have hlS : l < s.heap.objs.size := Heap.lt_size hol
        have hh3 : A.in1.in1.in1.handled = none := by simp [hh]
        have szp : (s.heap.push ({ cls := .type "set", dict := none, data := .set #[] 0 (.fresh 0 0 (!w.params.followText "set-order")) } : Obj)).objs.size = s.heap.objs.size + 1 := Heap.size_push _ _
        have hneI : l ≠ (s.heap.push ({ cls := .type "set", dict := none, data := .set #[] 0 (.fresh 0 0 (!w.params.followText "set-order")) } : Obj)).objs.size := by rw [szp]; exact Nat.ne_of_lt (Nat.lt_succ_of_lt hlS)
        have hSf : s.heap.objs.size ∉ [(s.heap.push ({ cls := .type "set", dict := none, data := .set #[] 0 (.fresh 0 0 (!w.params.followText "set-order")) } : Obj)).objs.size, l] := by
          rw [szp]
          simp only [List.mem_cons, List.not_mem_nil, or_false, not_or]
          exact ⟨Nat.ne_of_lt (Nat.lt_succ_self _), Nat.ne_of_gt hlS⟩
        have hsz : xs.length = items.size := by rw [← StrsAre.len_eq hi, Array.length_toList]
        refine setX_loop ((Walks.tuple hh3 _ l hneI items).toS) s.heap.objs.size hSf xs hsz (by rw [← hsz]; exact few) (fun i v hv => texts_at hi i v (by rw [Array.getElem?_toList]; exact hv))
          (items.size - 0) 0 _ (by omega) (Nat.zero_le _) ⟨⟨_, Heap.get?_push_size _ rfl, rfl, rfl⟩, (hl1.push _)⟩ ?hS0 ?hR
        case hS0 => exact R0.at fun o e => Heap.get?_push_of_some _ e
        case hR =>
          intro s' hm hS'
          obtain ⟨h', g', d', tk', os'⟩ := s'
          obtain rfl : g' = s.gens := hm.gens
          obtain rfl : d' = s.drawn := hm.drawn
          obtain rfl : os' = s.os := hm.os
          show wpAny _ _ _ _ _ _
          refine wpAny_pure ?_
          show wpAny _ _ (ret Value.none) _ _ _
          refine wpAny_pure ⟨rfl, h', tk', rfl, hS', fun b o hb e => hm.heap b o ?_ (Heap.get?_push_of_some _ (Heap.get?_push_of_some _ e))⟩
          rw [szp]
          simp only [List.mem_cons, List.not_mem_nil, or_false, not_or]
          exact ⟨Nat.ne_of_lt hb, Nat.ne_of_lt (Nat.lt_succ_of_lt hb)⟩
      · cases r₂ with
        | error e => exact hr₂
        | ok fl₂ =>
          cases fl₂ with
          | ret r =>
            obtain ⟨rfl, h', tk, rfl, hS', hk'⟩ := hr₂
            repeat (any_goals (first | assumption | wp_step))
            exact h _ _ hS' hk'
          | _ => exact hr₂.elim
    | _ => exact hr.elim
end
section
variable {X : Cx}
def rSetXT (K : PySem.W.Frag) (P : Program) (w : World) : List V → Hp → VK → Prop := fun vs H Q => ∃ (l : Addr) (xs : List Str), vs = [V.ref l] ∧ SqT K H l (xs.map V.str) ∧ xs.length ≤ 1000 ∧ ∀ p, H p = none → Q (.ref p) (upd H p (SetO' P w p xs))
theorem cr_setXT (hc : X.calm = true) : CallR X (.type "set") (rSetXT X.K X.prog X.w) := by
  intro pins s σ H vs us Q I r h
  obtain ⟨l, xs, rfl, hq, few, q⟩ := h
  rw [Vals.ref1 r]
  obtain ⟨its, rv, pl, hz⟩ := I.tuple hq
  refine call_setXT (I.ok.hd hc) (show s.heap.IsTuple l its.toArray from pl) (by simpa using rv.strs) (Nat.lt_of_le_of_lt (Nat.succ_le_succ few) (by decide)) fun h' tk hS hk => ?_
  have kp : ∀ b o, s.heap.get? b = some o → h'.get? b = some o := fun b o e => hk b o (Heap.lt_size e) e
  obtain ⟨ob, ms, ep, tb, here, more⟩ := id hS
  exact ⟨.ref s.heap.objs.size, _, I.laid (t' := tk) kp (Nat.le_refl _) (show ObjOk X.prog X.w _ h' _ (SetO' X.prog X.w s.heap.objs.size xs) from ⟨hS, ⟨ob, here⟩, fun h1 h2 p k => SetX.at p k⟩), rfl, q _ (I.hok.fresh (Nat.le_refl _))⟩
theorem cr_setXTK {K : PySem.W.Frag} {P : Program} {w : World} (hk : X.K = K) (hp : X.prog = P) (hw : X.w = w) (hc : X.calm = true) : CallR X (.type "set") (rSetXT K P w) := by
  subst hk
  subst hp
  subst hw
  exact cr_setXT hc
theorem cr_sortedXK {P : Program} {w : World} (hp : X.prog = P) (hw : X.w = w) (hc : X.calm = true) : CallR X (.builtin "sorted") (rSortedX P w) := by
  subst hp
  subst hw
  exact cr_sortedX hc
/-- o.f as a target -/
def gFld (K : PySem.W.Frag) (to : TE) (f : Str) : TG := fun v σ H Q => to σ H fun x H1 => ∃ a C dx fs, x = .ref a ∧ H1 a = some (.ins C dx fs) ∧ Cls K C ∧ NoAttr K C f ∧ fs.length < 1000 ∧ Q σ (upd H1 a (.ins C dx (putF f v fs)))
theorem pg_fld {o : Expr} {f : Str} {pos' : Pos} {to : TE} (ho : PE X o to) : PG X (.Attribute o f pos') (gFld X.K to f) := by
  refine ⟨fun pins s σ H v u Q I r h => ?_⟩
  rw [assign_Attribute]
  refine wpAny_bind (wpAny_holding (thn (ho.run pins s σ H _ I h) fun ov s1 ⟨x, H1, I1, r1, q1⟩ => ?_))
  obtain ⟨a, C, dx, fs, ex, ea, c, n, l, q2⟩ := q1
  subst ex
  obtain rfl : ov = Value.ref a := r1
  refine wpAny_bind (wpAny_standAt (wpAny_bind (wpAny_holding (setattr_ok I1 ea c n l r fun s3 I3 => ?_))))
  exact wpAny_release ⟨σ, _, I3, q2⟩
end
end Gx

set_option maxRecDepth 100000
set_option maxHeartbeats 4000000
namespace Kl
open PySem PySem.Spec PyProof.Rows L2 Gx Mx
section
variable {P : Program} {w : World} {K : PySem.W.Frag} {mg : Str → Option Value} {base : Heap}
/-! ### Ranks.__init__ -/
theorem SqB.keep2 {H H' : Hp} {a : Addr} {xs : List V} (h : SqB K H a xs) (s : ∀ o, H a = some o → (∀ kv, o ≠ .dK kv) → (∀ ob kv, o ≠ .frz ob (.dK kv)) → (∀ C dx fs, o ≠ .ins C dx fs) → H' a = some o) : SqB K H' a xs := by
  rcases h with ((h | ⟨o, h⟩) | h) | ((h | ⟨o, h⟩) | h)
  · exact .inl (.inl (.inl (s _ h (fun _ => nofun) (fun _ _ => nofun) (fun _ _ _ => nofun))))
  · exact .inl (.inl (.inr ⟨o, s _ h (fun _ => nofun) (fun _ _ => nofun) (fun _ _ _ => nofun)⟩))
  · exact .inl (.inr h)
  · exact .inr (.inl (.inl (s _ h (fun _ => nofun) (fun _ _ => nofun) (fun _ _ _ => nofun))))
  · exact .inr (.inl (.inr ⟨o, s _ h (fun _ => nofun) (fun _ _ => nofun) (fun _ _ _ => nofun)⟩))
  · exact .inr (.inr h)
theorem parts_none {H : Hp} {kvs : List (Key × V)} {N : Mak} (h : PartsAt K H kvs N) {z : Str} (hz : z ∉ keysOf N) : valV kvs (Sum.inr z) = none := by
  unfold PartsAt at h
  induction h with
  | nil => rfl
  | @cons kv m kvs N h _ ih =>
    have hz' : ¬ (z = m.1 ∨ z ∈ keysOf N) := fun c => hz (List.mem_cons.mpr c)
    rw [valV_neg (by rw [h.1]; exact fun q => hz' (.inl (Sum.inr.inj q).symm))]
    exact ih fun c => hz' (.inr c)
abbrev rf (kx bl : Addr) (t : Nat) (pl sl wl : Addr) : List (Str × V) := [("_kinds", .ref kx), ("_by_rank", .ref bl), ("_turn", .int (t : Nat)), ("_parts_of", .ref pl), ("_sizes", .ref sl), ("_ways", .ref wl)]
theorem rf_parts5 (kx bl : Addr) (t : Nat) (pl sl : Addr) : List.lookup ("_parts_of" : Str) [(("_kinds" : Str), V.ref kx), ("_by_rank", .ref bl), ("_turn", .int (t : Nat)), ("_parts_of", .ref pl), ("_sizes", .ref sl)] = some (.ref pl) := by
  have h1 : (("_parts_of" : Str) == "_kinds") = false := by decide +kernel
  have h2 : (("_parts_of" : Str) == "_by_rank") = false := by decide +kernel
  have h3 : (("_parts_of" : Str) == "_turn") = false := by decide +kernel
  simp [List.lookup, h1, h2, h3]
/-- the parts of each kind, told by lists -/
def PartsL (H : Hp) (kvs : List (Key × V)) (M : Mak) : Prop := Paired (fun (kv : Key × V) (m : Str × List Str) => kv.1 = Sum.inr m.1 ∧ ∃ a, kv.2 = .ref a ∧ H a = some (.lst (m.2.map V.str))) kvs M
theorem PartsL.len {H : Hp} {kvs : List (Key × V)} {M : Mak} (h : PartsL H kvs M) : kvs.length = M.length := Paired.length h
theorem PartsL.imp {H H' : Hp} {kvs : List (Key × V)} {M : Mak} (h : PartsL H kvs M) (s : ∀ a xs, H a = some (.lst xs) → H' a = some (.lst xs)) : PartsL H' kvs M := by
  unfold PartsL at h ⊢
  induction h with
  | nil => exact .nil
  | cons h _ ih =>
    obtain ⟨h1, a, h2, h3⟩ := h
    exact .cons ⟨h1, a, h2, s a _ h3⟩ ih
theorem PartsL.snoc {H : Hp} {kvs : List (Key × V)} {M : Mak} (h : PartsL H kvs M) {z : Str} {ps : List Str} {a : Addr} (e : H a = some (.lst (ps.map V.str))) : PartsL H (kvs ++ [(Sum.inr z, .ref a)]) (M ++ [(z, ps)]) := Paired.snoc ⟨rfl, a, rfl, e⟩ h
theorem PartsL.parts {H : Hp} {kvs : List (Key × V)} {M : Mak} (h : PartsL H kvs M) : PartsAt K H kvs M := by
  unfold PartsL at h
  unfold PartsAt
  induction h with
  | nil => exact .nil
  | cons h _ ih =>
    obtain ⟨h1, a, h2, h3⟩ := h
    exact .cons ⟨h1, a, h2, .inr (.inl (.inl h3))⟩ ih
theorem PartsL.key {H : Hp} {kvs : List (Key × V)} {M : Mak} (h : PartsL H kvs M) {z : Str} {ps : List Str} (e : lookM M z = some ps) : ∃ a, valV kvs (Sum.inr z) = some (.ref a) ∧ H a = some (.lst (ps.map V.str)) := by
  unfold PartsL at h
  induction h with
  | nil => cases e
  | @cons kv m kvs M h _ ih =>
    obtain ⟨h1, a, h2, h3⟩ := h
    rw [lookM_cons] at e
    by_cases c : m.1 = z
    · rw [if_pos c] at e
      cases e
      exact ⟨a, by rw [valV_pos (by rw [h1, c]), h2], h3⟩
    · rw [if_neg c] at e
      rw [valV_neg (by rw [h1]; exact fun q => c (Sum.inr.inj q))]
      exact ih e
/-- the ways of ranks -/
def WaysAt (H : Hp) (leaf : Str) (M : Mak) (pl wl : Addr) : Prop := ∃ kvL N ws, H pl = some (.dK kvL) ∧ PartsL H kvL N ∧ DedOf M N ∧ H wl = some (.lst (ws.map V.ref)) ∧ ws.length = 403 ∧ RowsAt H leaf N ws
theorem WaysAt.same {H H' : Hp} {leaf : Str} {M : Mak} {pl wl : Addr} (h : WaysAt H leaf M pl wl) (s : Same H H') : WaysAt H' leaf M pl wl := by
  obtain ⟨kvL, N, ws, h1, h2, h3, h4, h5, h6⟩ := h
  exact ⟨kvL, N, ws, s _ _ h1, h2.imp fun _ _ e => s _ _ e, h3, s _ _ h4, h5, h6.same s⟩
/-- ranks of the kinds at kx stand at x -/
def RanksAt (C R : Addr) (H : Hp) (x kx md : Addr) (leaf : Str) (M : Mak) (ns : List Str) (L t : Nat) : Prop :=
  ∃ dx bl pl sl wl es ds, H x = some (.ins R dx (rf kx bl t pl sl wl)) ∧ KindsAt C H kx md leaf M ns ∧ H bl = some (.lst (es.map V.ref)) ∧ es.length = L ∧ SetsAt H leaf M es ∧ H sl = some (.lst (ds.map V.ref)) ∧ ds.length = 403 ∧ RowsAt H leaf M ds ∧ WaysAt H leaf M pl wl
theorem RanksAt.same {C R : Addr} {H H' : Hp} {x kx md : Addr} {leaf : Str} {M : Mak} {ns : List Str} {L t : Nat} (h : RanksAt C R H x kx md leaf M ns L t) (s : Same H H') : RanksAt C R H' x kx md leaf M ns L t := by
  obtain ⟨dx, bl, pl, sl, wl, es, ds, h1, h2, h3, h4, h5, h6, h7, h8, h9⟩ := h
  exact ⟨dx, bl, pl, sl, wl, es, ds, s _ _ h1, h2.same s, s _ _ h3, h4, h5.same s, s _ _ h6, h7, h8.same s, h9.same s⟩
def spRInit (C R : Addr) : Sp := fun vs H Q _ => ∃ (x dx kx md : Addr) (leaf : Str) (M : Mak) (ns : List Str), vs = [V.ref x, V.ref kx] ∧ H x = some (.ins R dx []) ∧ KindsAt C H kx md leaf M ns ∧ Fin6 leaf M ns ∧
  ∀ (H' : Hp) (L t : Nat), RanksAt C R H' x kx md leaf M ns L t → Turn leaf M L t → (∀ b o, b ≠ x → H b = some o → H' b = some o) → Q .non H'
abbrev NRI : List Str := ["self", "kinds", "makings", "name"]
theorem ok_rinit {C R f : Addr} {fd : FuncData} (F : Fun K "__init__" "Ranks.__init__" s_Ranks_init f fd) (T : Top K mg) (TC : Cl_Kinds K mg C) (TR : Cl_Ranks K mg R) : FnOk P w K mg base CX0 4 f fd ["self", "kinds"] (spRInit C R) := by
  obtain ⟨tm, gm⟩ := T.g_MAX_RANK
  have ck : Cal P w K mg base 3 "_kinds_by_rank" ["kinds"] (spKBR K C) := T.d_kinds_by_rank.cal fun f fd F => ok_kbr F T TC
  have cs : Cal P w K mg base 3 "sums_by_rank" ["leaf", "parts_of", "ranks"] (spSumsBy K) := (T.d_sums_by_rank.cal fun f fd F => ok_sumsBy F T).mono (by decide)
  have kMak : CalP P w K mg base C "makings" 2 (spKMak C) := (TC.p_makings.cal fun f fd F => ok_kmak F T TC).mono (by decide)
  have kLeaf : CalP P w K mg base C "leaf" 2 (spKLeaf C) := (TC.p_leaf.cal fun f fd F => ok_kleaf F TC).mono (by decide)
  refine F.ok sc_Ranks_init (fun vs H Q E h => ?_) (fun cdv A outer s H vs Q E hr h => ?_)
  · obtain ⟨x, dx, kx, md, leaf, M, ns, rfl, _⟩ := h
    rfl
  · obtain ⟨x, dx, kx, md, leaf, M, ns, rfl, hx, hK, f6, q⟩ := h
    have hu := hu_of hr
    refine ⟨_, pss_cut (ps_if (pt_not (pt_val (pe_callB call_isi (by rfl) T.b_isinstance (by decide +kernel) (pa_cons (pv 1) (pa_cons (pe_glob (v := .ref C) (by rfl) TC.gC rfl) pa_nil))))) (pss_one ps_never) pss_nil)
      (pss_cut (ps_set (i := 2) sc_Ranks_init.nd rfl (.inr rfl) (pe_propC (pv 1) TC.cl kMak hr rfl))
      (pss_cut (ps_fld (pv 0) (pv 1) rfl)
      (pss_cut (ps_asg (pe_cal ck hr (by rfl) (pa_cons (pv 1) pa_nil)) (pg_tup (n := 2) rfl (pgs_cons (pg_fld (pv 0)) (pgs_cons (pg_fld (pv 0)) pgs_nil))))
      (pss_cut (ps_fld (pv 0) (pe_lock (pe_dc (own := [("name", 3)]) (g := gName 3) (tt := tYes) rfl sc_Ranks_init.nd (pi_keys (pv 2))
          (blkOk_by (N := NRI) (sc := defScope s_Ranks_init) (by decide +kernel)) (fun _ _ _ _ _ => pg_name (i := 3) sc_Ranks_init.nd rfl (.inl rfl)) (fun _ _ _ _ _ => pts_nil) (fun _ _ _ _ _ => pv 3)
          (fun _ _ _ _ _ => pe_callB (cr_sortedXK (P := P) (w := w) (by exact rfl) (by exact rfl) (by exact rfl)) (by rfl) T.b_sorted (by decide +kernel) (pa_cons (pe_callTy (cr_setXTK (K := K) (P := P) (w := w) (by exact rfl) (by exact rfl) (by exact rfl) (by exact rfl)) (by rfl) T.b_set (by decide +kernel) (pa_cons (pe_dget hu (pv 2) (pv 3) (fun _ _ => rfl)) pa_nil)) pa_nil)))) rfl)
      (pss_cut (ps_fld (pv 0) (pe_cal cs hr (by rfl) (pa_cons (pe_propC (pv 1) TC.cl kLeaf hr rfl) (pa_cons (pv 2) (pa_cons (pe_op op_add (pe_glob (v := .int 402) (by rfl) gm ⟨_, rfl⟩) pe_int) pa_nil)))) rfl)
      (pss_one (ps_fld (pv 0) (pe_cal cs hr (by rfl) (pa_cons (pe_propC (pv 1) TC.cl kLeaf hr rfl) (pa_cons (pe_fld (pv 0) rfl) (pa_cons (pe_op op_add (pe_glob (v := .int 402) (by rfl) gm ⟨_, rfl⟩) pe_int) pa_nil)))) rfl))))))), ?_⟩
    have big : 100000 ≤ sizeLine := by decide
    have lM := f6.v.len
    have l3 : ∀ m ∈ M, m.2.length ≤ 3 := fun m hm => (f6.v.parts m hm).2.2.1
    have nkx : kx ≠ x := fun z => by
      obtain ⟨_, _, _, h1, _⟩ := id hK
      rw [z, hx] at h1
      cases h1
    have nmd : md ≠ x := fun z => by
      obtain ⟨_, _, _, _, h1, _⟩ := id hK
      rw [z, hx] at h1
      cases h1
    have nt1 : ∀ xs, H x ≠ some (.tup xs) := fun xs z => by rw [hx] at z; cases z
    have nt2 : ∀ xs, ¬ TupZ H x xs := fun xs z => by
      obtain ⟨_, _, z⟩ := z
      rw [hx] at z
      cases z
    have kk : ∀ {G : Hp}, SameX x H G → KindsAt C G kx md leaf M ns := fun s => hK.keep s nkx nmd nt1 nt2
    -- these are kinds
    refine ⟨fun σ' G => σ' = [some (.ref x), some (.ref kx), none, none] ∧ H = G, ?_, ?_⟩
    · obtain ⟨dk, _, _, hk, _⟩ := id hK
      refine ⟨_, rfl, _, _, .ref C, .ref C, true, rfl, .own C, .base (.ins hk TC.cl TC.ca TC.cg TC.ct TC.ob), TC.kit, true, rfl, ?_⟩
      show (if (!true) = true then _ else _)
      rw [if_neg (by decide)]
      exact ⟨rfl, rfl⟩
    rintro σ' G ⟨rfl, rfl⟩
    -- their makings
    refine ⟨fun σ' G => ∃ (pm : Addr) (kvs : List (Key × V)), σ' = [some (.ref x), some (.ref kx), some (.ref pm), none] ∧ G pm = some (.dK kvs) ∧ MakAt G kvs M ∧ Same H G, ?_, ?_⟩
    · obtain ⟨dk, _, _, hk, _⟩ := id hK
      refine ⟨_, rfl, kx, dk, _, rfl, hk, kx, md, leaf, M, ns, rfl, hK, fun p kvs np hMp => ?_⟩
      have s1 := same_new (o := .dK kvs) (Same.refl H) np
      exact ⟨p, kvs, rfl, upd_same, hMp.same (fun _ _ h => h.mono s1), s1⟩
    rintro σ' G1 ⟨pm, kvs, rfl, epm, hMp, s1⟩
    have hx1 := s1 _ _ hx
    have npx : pm ≠ x := fun z => by rw [z, hx1] at epm; cases epm
    -- the field of the kinds
    refine ⟨fun σ' G => σ' = [some (.ref x), some (.ref kx), some (.ref pm), none] ∧ G x = some (.ins R dx [("_kinds", .ref kx)]) ∧ SameX x G1 G, ?_, ?_⟩
    · refine ⟨_, rfl, _, rfl, x, R, dx, [], rfl, hx1, TR.cl, TR.n_kinds, by show 0 < 1000; decide, rfl, upd_same, fun b o n e => by rw [upd_ne n]; exact e⟩
    rintro σ' G2 ⟨rfl, hx2, sx2⟩
    have mk2 : ∀ {G : Hp}, SameX x G1 G → MakAt G kvs M := fun s => hMp.same fun a xs h => h.at fun o e => s _ _ (h.ne hx1 (fun _ => nofun)) e
    have sH2 : SameX x H G2 := fun b o n e => sx2 _ _ n (s1 _ _ e)
    -- the kinds by rank
    refine ⟨fun σ' G => ∃ (bl : Addr) (es : List Addr) (t : Nat), σ' = [some (.ref x), some (.ref kx), some (.ref pm), none] ∧ G x = some (.ins R dx [("_kinds", .ref kx), ("_by_rank", .ref bl), ("_turn", .int (t : Nat))]) ∧ SameX x G1 G ∧
      G bl = some (.lst (es.map V.ref)) ∧ SetsAt G leaf M es ∧ Turn leaf M es.length t, ?_, ?_⟩
    · refine ⟨_, rfl, kx, md, leaf, M, ns, rfl, kk sH2, f6, fun tu bl es t G' s etu ebl nbl hS hT => ?_⟩
      have hx3 := s _ _ hx2
      have nbx : bl ≠ x := fun z => by rw [z, hx3] at ebl; cases ebl
      have e1 : putF "_by_rank" (.ref bl) [(("_kinds" : Str), V.ref kx)] = [(("_kinds" : Str), V.ref kx), ("_by_rank", .ref bl)] := putF_app _ fun p hp => by
        simp only [List.mem_cons, List.not_mem_nil, or_false] at hp
        subst hp
        exact (by decide +kernel : ("_kinds" : Str) ≠ "_by_rank")
      have e2 : putF "_turn" (.int (t : Nat)) [(("_kinds" : Str), V.ref kx), ("_by_rank", .ref bl)] = [(("_kinds" : Str), V.ref kx), ("_by_rank", .ref bl), ("_turn", .int (t : Nat))] := putF_app _ fun p hp => by
        simp only [List.mem_cons, List.not_mem_nil, or_false] at hp
        rcases hp with rfl | rfl
        · exact (by decide +kernel : ("_kinds" : Str) ≠ "_turn")
        · exact (by decide +kernel : ("_by_rank" : Str) ≠ "_turn")
      refine ⟨tu, _, rfl, .inl (.inl etu), rfl, _, _, rfl, _, rfl, x, R, dx, _, rfl, hx3, TR.cl, TR.n_by_rank, by show 1 < 1000; decide, ?_⟩
      rw [e1]
      refine ⟨_, _, rfl, _, rfl, x, R, dx, _, rfl, upd_same, TR.cl, TR.n_turn, by show 2 < 1000; decide, rfl, ?_⟩
      rw [e2]
      refine ⟨bl, es, t, rfl, upd_same, fun b o n e => by rw [upd_ne n, upd_ne n]; exact s _ _ (sx2 _ _ n e), by rw [upd_ne nbx, upd_ne nbx]; exact ebl, fun i a h => ?_, hT⟩
      have ha := hS i a h
      have nax : a ≠ x := fun z => by rw [z, hx3] at ha; cases ha
      rw [upd_ne nax, upd_ne nax]
      exact ha
    rintro σ' G3 ⟨bl, es, t, rfl, hx3, sx3, ebl, hS3, hT⟩
    clear hx2 sx2 sH2
    have fac : ∀ {G : Hp}, SameX x G3 G → SameX x G1 G ∧ G bl = some (.lst (es.map V.ref)) ∧ SetsAt G leaf M es := fun {G} s => by
      refine ⟨sx3.trans s, s _ _ (fun z => by rw [z, hx3] at ebl; cases ebl) ebl, fun i a h => ?_⟩
      have ha := hS3 i a h
      exact s _ _ (fun z => by rw [z, hx3] at ha; cases ha) ha
    -- which kinds are parts
    refine ⟨fun σ' G => ∃ (pl : Addr) (kvL : List (Key × V)) (N : Mak), σ' = [some (.ref x), some (.ref kx), some (.ref pm), none] ∧ G x = some (.ins R dx [("_kinds", .ref kx), ("_by_rank", .ref bl), ("_turn", .int (t : Nat)), ("_parts_of", .ref pl)]) ∧ SameX x G3 G ∧
      G pl = some (.dK kvL) ∧ PartsL G kvL N ∧ keysOf N = keysOf M ∧ (∀ m ∈ N, m.2.length ≤ 3) ∧ DedOf M N, ?_, ?_⟩
    · have epm3 := sx3 _ _ npx epm
      have hM3 : MakAt G3 kvs M := mk2 sx3
      refine ⟨pm, _, epm3, trivial, fun od => ?_⟩
      have hMF : MakAt (upd G3 pm (.frz od (.dK kvs))) kvs M := hM3.same fun a xs h => h.at fun o e => by rw [upd_ne (h.ne epm3 (fun _ => nofun))]; exact e
      refine ⟨_, rfl, pm, od, rfl, .inl ⟨kvs, upd_same, fun D hD => ?_⟩⟩
      refine walk_in walk_keys (fun j G => ∃ (kvL : List (Key × V)) (N : Mak), G D = some (.dK kvL) ∧ PartsL G kvL N ∧ keysOf N = (keysOf M).take j ∧ (∀ m ∈ N, m.2.length ≤ 3) ∧ DedOf (M.take j) N ∧ Same (upd G3 pm (.frz od (.dK kvs))) G)
        ⟨[], [], upd_same, .nil, rfl, (fun m h => nomatch h), .nil, same_new (Same.refl _) hD⟩ (fun j G _ hP => by obtain ⟨_, _, _, _, _, _, _, h⟩ := hP; exact h _ _ upd_same) (fun j v Gx G hj hP hy => ?_) (fun G hP => ?_)
      · obtain ⟨kvL, N, eD, hPa, hke, hl3, hDe, sm⟩ := hP
        obtain ⟨rfl, k, v, hkv, rfl⟩ := hy
        obtain ⟨m, a, hmj, rfl, rfl, ha⟩ := hMF.at hkv
        have hmM := List.mem_of_getElem? hmj
        have lm := l3 m hmM
        have hv : valV kvs (Sum.inr m.1) = some (.ref a) := val_nodup (mak_nd hMp f6.v.nd) (Sum.inr m.1, .ref a) (List.mem_of_getElem? hkv)
        have haG := ha.mono sm
        refine ⟨rfl, _, rfl, _, rfl, _, rfl, pm, _, rfl, .inl ⟨kvs, Sum.inr m.1, .inr ⟨od, sm _ _ upd_same⟩, rfl, hv.symm⟩, a, m.2, rfl, haG.sq, by omega, fun p np => ?_⟩
        refine ⟨p, m.2, rfl, upd_same, by omega, fun ys q' hsrt hnd hmem nq => ?_⟩
        have s4 := same_new (o := .lst (ys.map V.str)) (same_new (o := SetO' P w p m.2) (Same.refl G) np) nq
        have ly : ys.length ≤ 3 := Nat.le_trans (nodup_len hnd fun z hz => (hmem z).mp hz) lm
        have hkey : (keysOf M)[j]? = some m.1 := by
          unfold keysOf
          rw [List.getElem?_map, hmj]
          rfl
        have hnew : m.1 ∉ keysOf N := by
          rw [hke]
          exact take_not f6.v.nd hkey
        have hlen : kvL.length ≤ 6 := by
          rw [hPa.len]
          have : (keysOf N).length = ((keysOf M).take j).length := by rw [hke]
          unfold keysOf at this
          rw [List.length_map, List.length_take, List.length_map] at this
          omega
        refine ⟨kvL, Sum.inr m.1, rfl, s4 _ _ eD, Nat.lt_of_le_of_lt hlen (by decide), ?_⟩
        have sD : ∀ b o, (upd (upd G p (SetO' P w p m.2)) q' (.lst (ys.map V.str))) b = some o → b ≠ D → (upd (upd (upd G p (SetO' P w p m.2)) q' (.lst (ys.map V.str))) D (.dK (putK kvL (Sum.inr m.1) (.ref q')))) b = some o := fun b o e n => by
          rw [upd_ne n]
          exact e
        have qD : q' ≠ D := fun z => by
          rw [z, (same_new (o := SetO' P w p m.2) (Same.refl G) np) _ _ eD] at nq
          cases nq
        refine ⟨kvL ++ [(Sum.inr m.1, .ref q')], N ++ [(m.1, ys)], ?_, ?_, ?_, ?_, ?_, fun b u e => by rw [upd_ne (ne_of_none e hD)]; exact s4 _ _ (sm b u e)⟩
        · rw [upd_same, putK_new _ (parts_none (K := K) hPa.parts hnew)]
        · exact PartsL.snoc (hPa.imp fun a' xs e => sD _ _ (s4 _ _ e) (fun z => by rw [z, eD] at e; cases e)) (sD q' (.lst (ys.map V.str)) upd_same qD)
        · unfold keysOf at hke ⊢
          rw [List.map_append, hke, take_snoc (show (M.map (·.1))[j]? = some m.1 from hkey)]
          rfl
        · intro m' hm'
          rcases List.mem_append.mp hm' with h | h
          · exact hl3 m' h
          · rw [List.mem_singleton.mp h]
            exact ly
        · rw [take_snoc hmj]
          exact Paired.snoc ⟨rfl, hsrt, hnd, hmem⟩ hDe
      · obtain ⟨kvL, N, eD, hPa, hke, hl3, hDe, sm⟩ := hP
        rw [hMF.len, List.take_length] at hDe
        rw [hMF.len, show (keysOf M).take M.length = keysOf M by unfold keysOf; rw [← List.map_take, List.take_length]] at hke
        have ef := sm _ _ upd_same
        have s4 := same_unlock epm3 sm
        have nD : D ≠ pm := fun z => by
          rw [z, upd_same] at hD
          cases hD
        refine ⟨ef, ?_⟩
        have eD4 : (upd G pm (.dK kvs)) D = some (.dK kvL) := by rw [upd_ne nD]; exact eD
        have hP4 : PartsL (upd G pm (.dK kvs)) kvL N := hPa.imp fun a xs e => by
          by_cases c : a = pm
          · rw [c, ef] at e
            cases e
          · rw [upd_ne c]
            exact e
        generalize upd G pm (.dK kvs) = G4 at s4 eD4 hP4
        have hx4 := s4 _ _ hx3
        have nDx : D ≠ x := fun z => by rw [z, hx4] at eD4; cases eD4
        refine ⟨_, rfl, x, R, dx, _, rfl, hx4, TR.cl, TR.n_parts_of, by show 3 < 1000; decide, ?_⟩
        have e3 : putF "_parts_of" (.ref D) [(("_kinds" : Str), V.ref kx), ("_by_rank", .ref bl), ("_turn", .int (t : Nat))] = [(("_kinds" : Str), V.ref kx), ("_by_rank", .ref bl), ("_turn", .int (t : Nat)), ("_parts_of", .ref D)] := putF_app _ fun p hp => by
          simp only [List.mem_cons, List.not_mem_nil, or_false] at hp
          rcases hp with rfl | rfl | rfl
          · exact (by decide +kernel : ("_kinds" : Str) ≠ "_parts_of")
          · exact (by decide +kernel : ("_by_rank" : Str) ≠ "_parts_of")
          · exact (by decide +kernel : ("_turn" : Str) ≠ "_parts_of")
        rw [e3]
        refine ⟨D, kvL, N, rfl, upd_same, fun b o n e => by rw [upd_ne n]; exact s4 _ _ e, by rw [upd_ne nDx]; exact eD4, hP4.imp fun a xs e => ?_, hke, hl3, hDe⟩
        by_cases c : a = x
        · rw [c, hx4] at e
          cases e
        · rw [upd_ne c]
          exact e
    rintro σ' G4 ⟨pl, kvL, N, rfl, hx4, sx4, epl, hPa, hke, hl3, hDe⟩
    have c402 : (V.int ((402 : Int) + 1)) = V.int ((403 : Nat) : Int) := rfl
    have e5 : ∀ sl : Addr, putF "_sizes" (.ref sl) [(("_kinds" : Str), V.ref kx), ("_by_rank", .ref bl), ("_turn", .int (t : Nat)), ("_parts_of", .ref pl)] = [(("_kinds" : Str), V.ref kx), ("_by_rank", .ref bl), ("_turn", .int (t : Nat)), ("_parts_of", .ref pl), ("_sizes", .ref sl)] := fun sl => putF_app _ fun p hp => by
      simp only [List.mem_cons, List.not_mem_nil, or_false] at hp
      rcases hp with rfl | rfl | rfl | rfl
      · exact (by decide +kernel : ("_kinds" : Str) ≠ "_sizes")
      · exact (by decide +kernel : ("_by_rank" : Str) ≠ "_sizes")
      · exact (by decide +kernel : ("_turn" : Str) ≠ "_sizes")
      · exact (by decide +kernel : ("_parts_of" : Str) ≠ "_sizes")
    have e6 : ∀ sl wl : Addr, putF "_ways" (.ref wl) [(("_kinds" : Str), V.ref kx), ("_by_rank", .ref bl), ("_turn", .int (t : Nat)), ("_parts_of", .ref pl), ("_sizes", .ref sl)] = rf kx bl t pl sl wl := fun sl wl => putF_app _ fun p hp => by
      simp only [List.mem_cons, List.not_mem_nil, or_false] at hp
      rcases hp with rfl | rfl | rfl | rfl | rfl
      · exact (by decide +kernel : ("_kinds" : Str) ≠ "_ways")
      · exact (by decide +kernel : ("_by_rank" : Str) ≠ "_ways")
      · exact (by decide +kernel : ("_turn" : Str) ≠ "_ways")
      · exact (by decide +kernel : ("_parts_of" : Str) ≠ "_ways")
      · exact (by decide +kernel : ("_sizes" : Str) ≠ "_ways")
    have npl : pl ≠ x := fun z => by rw [z, hx4] at epl; cases epl
    have all1 : ∀ {G : Hp}, SameX x G4 G → SameX x H G ∧ KindsAt C G kx md leaf M ns ∧ G bl = some (.lst (es.map V.ref)) ∧ SetsAt G leaf M es ∧ G pm = some (.dK kvs) ∧ MakAt G kvs M := fun {G} s => by
      obtain ⟨a1, a2, a3⟩ := fac (sx4.trans s)
      have a4 : SameX x H G := fun b o n e => a1 _ _ n (s1 _ _ e)
      exact ⟨a4, kk a4, a2, a3, a1 _ _ npx epm, mk2 a1⟩
    -- the sizes
    refine ⟨fun σ' G => ∃ (sl : Addr) (ds : List Addr), σ' = [some (.ref x), some (.ref kx), some (.ref pm), none] ∧ G x = some (.ins R dx [("_kinds", .ref kx), ("_by_rank", .ref bl), ("_turn", .int (t : Nat)), ("_parts_of", .ref pl), ("_sizes", .ref sl)]) ∧ SameX x G4 G ∧
      G sl = some (.lst (ds.map V.ref)) ∧ ds.length = 403 ∧ RowsAt G leaf M ds, ?_, ?_⟩
    · obtain ⟨_, b2, _, _, b5, b6⟩ := all1 (SameX.refl x G4)
      obtain ⟨dk, _, _, hk, _⟩ := id b2
      refine ⟨_, rfl, kx, dk, _, rfl, hk, kx, md, leaf, M, ns, rfl, b2, _, rfl, _, _, rfl, rfl, ?_⟩
      refine ⟨leaf, pm, 403, kvs, M, rfl, by decide, by decide, b5, b6.parts, lM, f6.v.nd, l3, fun p ds G' s np ep hl hR => ?_⟩
      have hx5 := s _ _ hx4
      have npx' : p ≠ x := fun z => by rw [z, hx5] at ep; cases ep
      refine ⟨_, rfl, x, R, dx, _, rfl, hx5, TR.cl, TR.n_sizes, by show 4 < 1000; decide, ?_⟩
      rw [e5]
      refine ⟨p, ds, rfl, upd_same, fun b o n e => by rw [upd_ne n]; exact s _ _ e, by rw [upd_ne npx']; exact ep, hl, fun i a h => ?_⟩
      have ha := hR i a h
      rw [upd_ne (fun z => by rw [z, hx5] at ha; cases ha)]
      exact ha
    rintro σ' G5 ⟨sl, ds, rfl, hx5, sx5, esl, hlen, hR5⟩
    -- the ways
    obtain ⟨_, b2, _, _, _, _⟩ := all1 sx5
    obtain ⟨dk, _, _, hk, _⟩ := id b2
    have hP5 : PartsL G5 kvL N := hPa.imp fun a xs e => sx5 _ _ (fun c => by rw [c, hx4] at e; cases e) e
    have lN : N.length ≤ 6 := by
      have : (keysOf N).length = (keysOf M).length := by rw [hke]
      unfold keysOf at this
      rw [List.length_map, List.length_map] at this
      omega
    refine ⟨_, rfl, kx, dk, _, rfl, hk, kx, md, leaf, M, ns, rfl, b2, _, rfl, x, R, dx, _, _, rfl, hx5, TR.cl, TR.n_parts_of, rf_parts5 _ _ _ _ _, _, _, rfl, rfl, ?_⟩
    refine ⟨leaf, pl, 403, kvL, N, rfl, by decide, by decide, sx5 _ _ npl epl, hP5.parts, lN, by rw [hke]; exact f6.v.nd, hl3, fun p ds' G' s np ep hl hR => ?_⟩
    have hx6 := s _ _ hx5
    refine ⟨_, rfl, x, R, dx, _, rfl, hx6, TR.cl, TR.n_ways, by show 5 < 1000; decide, ?_⟩
    rw [e6]
    have s6 : SameX x G4 (upd G' x (.ins R dx (rf kx bl t pl sl p))) := fun b o n e => by
      rw [upd_ne n]
      exact s _ _ (sx5 _ _ n e)
    obtain ⟨d1, d2, d3, d4, _, _⟩ := all1 s6
    have nsl : sl ≠ x := fun z => by rw [z, hx5] at esl; cases esl
    have npx' : p ≠ x := fun z => by rw [z, hx6] at ep; cases ep
    refine q _ es.length t ⟨dx, bl, pl, sl, p, es, ds, upd_same, d2, d3, rfl, d4, by rw [upd_ne nsl]; exact s _ _ esl, hlen, fun i a h => ?_, kvL, N, ds', ?_, ?_, hDe, ?_, hl, fun i a h => ?_⟩ hT d1
    · have ha := s _ _ (hR5 i a h)
      rw [upd_ne (fun z => by rw [z, hx6] at ha; cases ha)]
      exact ha
    · rw [upd_ne npl]
      exact s _ _ (sx5 _ _ npl epl)
    · exact hP5.imp fun a xs e => by
        have e' := s _ _ e
        rw [upd_ne (fun z => by rw [z, hx6] at e'; cases e')]
        exact e'
    · rw [upd_ne npx']
      exact ep
    · have ha := hR i a h
      rw [upd_ne (fun z => by rw [z, hx6] at ha; cases ha)]
      exact ha
end
end Kl

set_option maxRecDepth 100000
set_option maxHeartbeats 4000000
namespace Kl
open PySem PySem.Spec PyProof.Rows L2 Gx Mx
section
variable {P : Program} {w : World} {K : PySem.W.Frag} {mg : Str → Option Value} {base : Heap}
/-! ### what ranks tell -/
theorem rf_kinds (kx bl : Addr) (t : Nat) (pl sl wl : Addr) : List.lookup ("_kinds" : Str) (rf kx bl t pl sl wl) = some (.ref kx) := by simp [List.lookup]
theorem rf_by (kx bl : Addr) (t : Nat) (pl sl wl : Addr) : List.lookup ("_by_rank" : Str) (rf kx bl t pl sl wl) = some (.ref bl) := by
  have h1 : (("_by_rank" : Str) == "_kinds") = false := by decide +kernel
  simp [List.lookup, h1]
theorem rf_turn (kx bl : Addr) (t : Nat) (pl sl wl : Addr) : List.lookup ("_turn" : Str) (rf kx bl t pl sl wl) = some (.int (t : Nat)) := by
  have h1 : (("_turn" : Str) == "_kinds") = false := by decide +kernel
  have h2 : (("_turn" : Str) == "_by_rank") = false := by decide +kernel
  simp [List.lookup, h1, h2]
theorem rf_sizes (kx bl : Addr) (t : Nat) (pl sl wl : Addr) : List.lookup ("_sizes" : Str) (rf kx bl t pl sl wl) = some (.ref sl) := by
  have h1 : (("_sizes" : Str) == "_kinds") = false := by decide +kernel
  have h2 : (("_sizes" : Str) == "_by_rank") = false := by decide +kernel
  have h3 : (("_sizes" : Str) == "_turn") = false := by decide +kernel
  have h4 : (("_sizes" : Str) == "_parts_of") = false := by decide +kernel
  simp [List.lookup, h1, h2, h3, h4]
theorem rf_no (kx bl : Addr) (t : Nat) (pl sl wl : Addr) {m : Str} (h1 : m ≠ "_kinds") (h2 : m ≠ "_by_rank") (h3 : m ≠ "_turn") (h4 : m ≠ "_parts_of") (h5 : m ≠ "_sizes") (h6 : m ≠ "_ways") : (rf kx bl t pl sl wl).lookup m = none := by
  have e1 : (m == "_kinds") = false := beq_eq_false_iff_ne.mpr h1
  have e2 : (m == "_by_rank") = false := beq_eq_false_iff_ne.mpr h2
  have e3 : (m == "_turn") = false := beq_eq_false_iff_ne.mpr h3
  have e4 : (m == "_parts_of") = false := beq_eq_false_iff_ne.mpr h4
  have e5 : (m == "_sizes") = false := beq_eq_false_iff_ne.mpr h5
  have e6 : (m == "_ways") = false := beq_eq_false_iff_ne.mpr h6
  simp [List.lookup, e1, e2, e3, e4, e5, e6]
def spRKinds (C R : Addr) : Sp := fun vs H Q _ => ∃ x kx md leaf M ns L t, vs = [.ref x] ∧ RanksAt C R H x kx md leaf M ns L t ∧ Q (.ref kx) H
theorem ok_rkinds {C R f : Addr} {fd : FuncData} (F : Fun K "kinds" "Ranks.kinds" s_Ranks_kinds f fd) (TR : Cl_Ranks K mg R) : FnOk P w K mg base CX0 1 f fd ["self"] (spRKinds C R) := by
  refine F.ok sc_Ranks_kinds (fun vs H Q E h => ?_) (fun cdv A outer s H vs Q E hr h => ?_)
  · obtain ⟨x, kx, md, leaf, M, ns, L, t, rfl, _⟩ := h
    rfl
  · obtain ⟨x, kx, md, leaf, M, ns, L, t, rfl, ⟨dx, bl, pl, sl, wl, es, ds, hx, _⟩, q⟩ := h
    refine ⟨_, pss_one (ps_ret (pe_fld (pv 0) rfl)), ?_⟩
    exact ⟨_, rfl, x, R, dx, _, _, rfl, hx, TR.cl, TR.n_kinds, rf_kinds _ _ _ _ _ _, q⟩
def spRTurn (C R : Addr) : Sp := fun vs H Q _ => ∃ x kx md leaf M ns L t, vs = [.ref x] ∧ RanksAt C R H x kx md leaf M ns L t ∧ Q (.int (t : Nat)) H
theorem ok_rturn {C R f : Addr} {fd : FuncData} (F : Fun K "turn" "Ranks.turn" s_Ranks_turn f fd) (TR : Cl_Ranks K mg R) : FnOk P w K mg base CX0 1 f fd ["self"] (spRTurn C R) := by
  refine F.ok sc_Ranks_turn (fun vs H Q E h => ?_) (fun cdv A outer s H vs Q E hr h => ?_)
  · obtain ⟨x, kx, md, leaf, M, ns, L, t, rfl, _⟩ := h
    rfl
  · obtain ⟨x, kx, md, leaf, M, ns, L, t, rfl, ⟨dx, bl, pl, sl, wl, es, ds, hx, _⟩, q⟩ := h
    refine ⟨_, pss_one (ps_ret (pe_fld (pv 0) rfl)), ?_⟩
    exact ⟨_, rfl, x, R, dx, _, _, rfl, hx, TR.cl, TR.n_turn, rf_turn _ _ _ _ _ _, q⟩
def spRPer (C R : Addr) : Sp := fun vs H Q _ => ∃ x kx md leaf M ns L t, vs = [.ref x] ∧ RanksAt C R H x kx md leaf M ns L t ∧ Q (.int ((L : Int) - (t : Int))) H
theorem ok_rper {C R f : Addr} {fd : FuncData} (F : Fun K "period" "Ranks.period" s_Ranks_period f fd) (T : Top K mg) (TR : Cl_Ranks K mg R) : FnOk P w K mg base CX0 1 f fd ["self"] (spRPer C R) := by
  refine F.ok sc_Ranks_period (fun vs H Q E h => ?_) (fun cdv A outer s H vs Q E hr h => ?_)
  · obtain ⟨x, kx, md, leaf, M, ns, L, t, rfl, _⟩ := h
    rfl
  · obtain ⟨x, kx, md, leaf, M, ns, L, t, rfl, ⟨dx, bl, pl, sl, wl, es, ds, hx, hk, hb, hl, hS, _⟩, q⟩ := h
    refine ⟨_, pss_one (ps_ret (pe_op op_sub (pe_callB call_len_seq (by rfl) T.b_len PySem.boot_len (pa_cons (pe_fld (pv 0) rfl) pa_nil)) (pe_fld (pv 0) rfl))), ?_⟩
    refine ⟨_, rfl, x, R, dx, _, _, rfl, hx, TR.cl, TR.n_by_rank, rf_by _ _ _ _ _ _, bl, _, rfl, .inl (.inl (.inl hb)), _, rfl, x, R, dx, _, _, rfl, hx, TR.cl, TR.n_turn, rf_turn _ _ _ _ _ _, _, _, rfl, rfl, ?_⟩
    rw [List.length_map, hl]
    exact q
def spRLen (C R : Addr) : Sp := fun vs H Q _ => ∃ x kx md leaf M ns L t, vs = [.ref x] ∧ RanksAt C R H x kx md leaf M ns L t ∧ Q (.int (L : Nat)) H
theorem ok_rlen {C R f : Addr} {fd : FuncData} (F : Fun K "__len__" "Ranks.__len__" s_Ranks_len f fd) (T : Top K mg) (TR : Cl_Ranks K mg R) : FnOk P w K mg base CX0 1 f fd ["self"] (spRLen C R) := by
  refine F.ok sc_Ranks_len (fun vs H Q E h => ?_) (fun cdv A outer s H vs Q E hr h => ?_)
  · obtain ⟨x, kx, md, leaf, M, ns, L, t, rfl, _⟩ := h
    rfl
  · obtain ⟨x, kx, md, leaf, M, ns, L, t, rfl, ⟨dx, bl, pl, sl, wl, es, ds, hx, hk, hb, hl, hS, _⟩, q⟩ := h
    refine ⟨_, pss_one (ps_ret (pe_callB call_len_seq (by rfl) T.b_len PySem.boot_len (pa_cons (pe_fld (pv 0) rfl) pa_nil))), ?_⟩
    refine ⟨_, rfl, x, R, dx, _, _, rfl, hx, TR.cl, TR.n_by_rank, rf_by _ _ _ _ _ _, bl, _, rfl, .inl (.inl (.inl hb)), ?_⟩
    rw [List.length_map, hl]
    exact q
/-! ### ranks checked -/
def spChkR : Sp := fun vs H Q _ => ∃ r : Int, vs = [V.int r] ∧ 0 ≤ r ∧ r < TEN60 ∧ Q .non H
theorem cnt_ok {r : Int} (h0 : 0 ≤ r) (h1 : r < TEN60) : cntV (.int r) = true := by
  show ((decide (-TEN60 < r) && decide (r < TEN60)) && decide (0 ≤ r)) = true
  rw [decide_eq_true h0, decide_eq_true h1, decide_eq_true (show -TEN60 < r by unfold TEN60; omega)]
  rfl
theorem ok_chkR {f : Addr} {fd : FuncData} (F : Fun K "_check_rank" "_check_rank" s_check_rank f fd) (T : Top K mg) : FnOk P w K mg base CX0 3 f fd ["rank"] spChkR := by
  have cc : Cal P w K mg base 2 "is_count" ["value"] (spCnt K) := T.d_is_count.cal fun f fd F => ok_cnt F T
  refine F.ok sc_check_rank (fun vs H Q E h => ?_) (fun cdv A outer s H vs Q E hr h => ?_)
  · obtain ⟨r, rfl, _⟩ := h
    rfl
  · obtain ⟨r, rfl, h0, h1, q⟩ := h
    refine ⟨_, pss_one (ps_if (pt_not (pt_val (pe_cal cc hr (by rfl) (pa_cons (pv 0) pa_nil)))) (pss_one ps_never) pss_nil), ?_⟩
    refine ⟨_, rfl, .int r, rfl, .inl ⟨r, rfl⟩, _, rfl, ?_⟩
    rw [cnt_ok h0 h1]
    show (if (!true) = true then _ else _)
    rw [if_neg (by decide)]
    exact q
def spChkP (C : Addr) : Sp := fun vs H Q _ => ∃ (kx md : Addr) (leaf : Str) (M : Mak) (ns : List Str) (z : Str) (r : Int), vs = [V.ref kx, V.str z, V.int r] ∧ KindsAt C H kx md leaf M ns ∧ Fin6 leaf M ns ∧ z ∈ ns ∧ 0 ≤ r ∧ r < TEN60 ∧ Q .non H
theorem ok_chkP {C f : Addr} {fd : FuncData} (F : Fun K "_check_place" "_check_place" s_check_place f fd) (T : Top K mg) (TC : Cl_Kinds K mg C) : FnOk P w K mg base CX0 4 f fd ["kinds", "name", "rank"] (spChkP C) := by
  have cr : Cal P w K mg base 3 "_check_rank" ["rank"] spChkR := T.d_check_rank.cal fun f fd F => ok_chkR F T
  have kHas : CalM P w K mg base C "__contains__" 1 ["self", "value"] (spKHas K C) := TC.m_contains.cal fun f fd F => ok_khas F T TC
  have kHas3 : CalM P w K mg base C "__contains__" 3 ["self", "value"] (spKHas K C) := kHas.mono (by decide)
  refine F.ok sc_check_place (fun vs H Q E h => ?_) (fun cdv A outer s H vs Q E hr h => ?_)
  · obtain ⟨kx, md, leaf, M, ns, z, r, rfl, _⟩ := h
    rfl
  · obtain ⟨kx, md, leaf, M, ns, z, r, rfl, hK, f6, hz, h0, h1, q⟩ := h
    refine ⟨_, pss_cons (ps_if (pt_cmpR (op_notinM kHas3 hr) (pv 1) (pv 0) (by rfl)) (pss_one ps_never) pss_nil)
      (pss_one (ps_expr (pe_cal cr hr (by rfl) (pa_cons (pv 2) pa_nil)))), ?_⟩
    obtain ⟨dx, nt, kvs, hx, _⟩ := id hK
    have hok : ∀ y ∈ ns, PyData.strOk y = true := fun y hy => by
      rcases (f6.n.mem y).mp hy with rfl | h
      · exact pool_ok f6.v.lf
      · exact pool_ok (f6.v.keys y h)
    refine ⟨_, rfl, _, rfl, kx, dx, _, rfl, hx, kx, md, leaf, M, ns, .str z, rfl, hK, hok, .inl ⟨.str z, .str z, ?_, ?_, ?_⟩⟩
    · simp only [PyData.canLay0]
      exact hok z hz
    · simp only [PyData.depth]
      omega
    have e : ((tD ns).any fun y => PyData.eqv y (.str z)) = true := by
      rw [List.any_eq_true]
      exact ⟨.str z, List.mem_map.mpr ⟨z, hz, rfl⟩, by simp [PyData.eqv]⟩
    rw [e]
    refine ⟨true, rfl, _, rfl, ?_⟩
    show (if (!true) = true then _ else _)
    rw [if_neg (by decide)]
    exact ⟨_, rfl, r, rfl, h0, h1, q⟩
end
end Kl

set_option maxRecDepth 100000
set_option maxHeartbeats 4000000
namespace Kl
open PySem PySem.Spec PyProof.Rows L2 Gx Mx
section
variable {P : Program} {w : World} {K : PySem.W.Frag} {mg : Str → Option Value} {base : Heap}
/-! ### the base of a rank, the kinds there, sizes -/
def baseI (L t : Nat) (r : Int) : Int := if r < L then r else (t : Int) + (r - t) % ((L : Int) - t)
theorem base_lt {leaf : Str} {M : Mak} {L t : Nat} (h : Turn leaf M L t) {r : Int} (h0 : 0 ≤ r) : 0 ≤ baseI L t r ∧ baseI L t r < L := by
  have := h.lt
  unfold baseI
  by_cases c : r < L
  · rw [if_pos c]
    exact ⟨h0, c⟩
  · rw [if_neg c]
    have hp : (0 : Int) < (L : Int) - t := by omega
    have h1 := Int.emod_nonneg (r - t) (Int.ne_of_gt hp)
    have h2 := Int.emod_lt_of_pos (r - t) hp
    constructor <;> omega
def spRBase (C R : Addr) : Sp := fun vs H Q _ => ∃ x kx md leaf M ns L t, ∃ r : Int, vs = [V.ref x, V.int r] ∧ RanksAt C R H x kx md leaf M ns L t ∧ Turn leaf M L t ∧ 0 ≤ r ∧ r < TEN60 ∧ Q (.int (baseI L t r)) H
theorem ok_rbase {C R f : Addr} {fd : FuncData} (F : Fun K "base_of" "Ranks.base_of" s_Ranks_base_of f fd) (T : Top K mg) (TR : Cl_Ranks K mg R) : FnOk P w K mg base CX0 4 f fd ["self", "rank"] (spRBase C R) := by
  have cr : Cal P w K mg base 3 "_check_rank" ["rank"] spChkR := T.d_check_rank.cal fun f fd F => ok_chkR F T
  have rPer : CalP P w K mg base R "period" 2 (spRPer C R) := (TR.p_period.cal fun f fd F => ok_rper F T TR).mono (by decide)
  refine F.ok sc_Ranks_base_of (fun vs H Q E h => ?_) (fun cdv A outer s H vs Q E hr h => ?_)
  · obtain ⟨x, kx, md, leaf, M, ns, L, t, r, rfl, _⟩ := h
    rfl
  · obtain ⟨x, kx, md, leaf, M, ns, L, t, r, rfl, hR, hT, h0, h1, q⟩ := h
    refine ⟨_, pss_cons (ps_expr (pe_cal cr hr (by rfl) (pa_cons (pv 1) pa_nil)))
      (pss_cons (ps_if (pt_cmpR op_lt (pv 1) (pe_callB call_len_seq (by rfl) T.b_len PySem.boot_len (pa_cons (pe_fld (pv 0) rfl) pa_nil)) (nomark _)) (pss_one (ps_ret (pv 1))) pss_nil)
      (pss_one (ps_ret (pe_op op_add (pe_fld (pv 0) rfl) (pe_op op_mod (pe_op op_sub (pv 1) (pe_fld (pv 0) rfl)) (pe_propC (pv 0) TR.cl rPer hr rfl)))))), ?_⟩
    obtain ⟨dx, bl, pl, sl, wl, es, ds, hx, hk, hb, hl, hS, _⟩ := id hR
    refine ⟨_, rfl, r, rfl, h0, h1, ?_⟩
    refine ⟨_, rfl, _, rfl, x, R, dx, _, _, rfl, hx, TR.cl, TR.n_by_rank, rf_by _ _ _ _ _ _, bl, _, rfl, .inl (.inl (.inl hb)), _, _, rfl, rfl, ?_⟩
    rw [List.length_map, hl]
    refine ⟨_, rfl, ?_⟩
    unfold baseI at q
    refine ite2 (fun c0 => ?_) (fun c0 => ?_)
    · have c : r < L := of_decide_eq_true c0
      rw [if_pos c] at q
      exact ⟨_, rfl, q⟩
    · have c : ¬ r < L := fun z => c0 (decide_eq_true z)
      rw [if_neg c] at q
      refine ⟨_, rfl, x, R, dx, _, _, rfl, hx, TR.cl, TR.n_turn, rf_turn _ _ _ _ _ _, _, rfl, _, rfl, x, R, dx, _, _, rfl, hx, TR.cl, TR.n_turn, rf_turn _ _ _ _ _ _, _, _, rfl, rfl, ?_⟩
      refine ⟨_, rfl, x, dx, _, rfl, hx, x, kx, md, leaf, M, ns, L, t, rfl, hR, _, _, rfl, rfl, ?_, _, _, rfl, rfl, q⟩
      have := hT.lt
      omega
def spRAt (C R : Addr) : Sp := fun vs H Q _ => ∃ x kx md leaf M ns L t, ∃ r : Int, vs = [V.ref x, V.int r] ∧ RanksAt C R H x kx md leaf M ns L t ∧ Turn leaf M L t ∧ 0 ≤ r ∧ r < TEN60 ∧ ∀ p, H p = some (.tup ((setR leaf M (baseI L t r).toNat).map V.str)) → Q (.ref p) H
theorem ok_rat {C R f : Addr} {fd : FuncData} (F : Fun K "kinds_at" "Ranks.kinds_at" s_Ranks_kinds_at f fd) (T : Top K mg) (TR : Cl_Ranks K mg R) : FnOk P w K mg base CX0 5 f fd ["self", "rank"] (spRAt C R) := by
  have rB : CalM P w K mg base R "base_of" 4 ["self", "rank"] (spRBase C R) := TR.m_base_of.cal fun f fd F => ok_rbase F T TR
  refine F.ok sc_Ranks_kinds_at (fun vs H Q E h => ?_) (fun cdv A outer s H vs Q E hr h => ?_)
  · obtain ⟨x, kx, md, leaf, M, ns, L, t, r, rfl, _⟩ := h
    rfl
  · obtain ⟨x, kx, md, leaf, M, ns, L, t, r, rfl, hR, hT, h0, h1, q⟩ := h
    refine ⟨_, pss_one (ps_ret (pe_ix ix_list (pe_fld (pv 0) rfl) (pe_methC (pl := _) (pv 0) TR.cl rB hr (pa_cons (pv 1) pa_nil)) (fun _ _ => rfl))), ?_⟩
    obtain ⟨dx, bl, pl, sl, wl, es, ds, hx, hk, hb, hl, hS, _⟩ := id hR
    obtain ⟨b0, b1⟩ := base_lt hT h0
    refine ⟨_, rfl, x, R, dx, _, _, rfl, hx, TR.cl, TR.n_by_rank, rf_by _ _ _ _ _ _, _, rfl, x, dx, _, rfl, hx, rf_no _ _ _ _ _ _ (by decide) (by decide) (by decide) (by decide) (by decide) (by decide), _, rfl, x, kx, md, leaf, M, ns, L, t, r, rfl, hR, hT, h0, h1, ?_⟩
    have hj : (baseI L t r).toNat < es.length := by omega
    refine ⟨bl, _, baseI L t r, .ref es[(baseI L t r).toNat], rfl, rfl, .inl (.inl hb), ?_, ?_⟩
    · unfold atI ixN
      rw [if_pos b0, List.length_map, if_pos (by omega)]
      show (es.map V.ref)[(baseI L t r).toNat]? = _
      rw [List.getElem?_map, List.getElem?_eq_getElem hj]
      rfl
    · exact q _ (hS _ _ (List.getElem?_eq_getElem hj))
def sizeV (leaf : Str) (M : Mak) (r : Nat) (z : Str) : V := match lookR (rowsR leaf M r) z with
  | some n => .int (n : Nat)
  | none => .non
def spRSize (C R : Addr) : Sp := fun vs H Q _ => ∃ x kx md leaf M ns L t, ∃ (z : Str) (r : Nat), vs = [V.ref x, V.str z, V.int (r : Nat)] ∧ RanksAt C R H x kx md leaf M ns L t ∧ Fin6 leaf M ns ∧ z ∈ ns ∧ r ≤ 402 ∧ Q (sizeV leaf M r z) H
theorem ok_rsize {C R f : Addr} {fd : FuncData} (F : Fun K "size_of" "Ranks.size_of" s_Ranks_size_of f fd) (T : Top K mg) (TC : Cl_Kinds K mg C) (TR : Cl_Ranks K mg R) : FnOk P w K mg base CX0 5 f fd ["self", "name", "rank"] (spRSize C R) := by
  obtain ⟨tm, gm⟩ := T.g_MAX_RANK
  have cp : Cal P w K mg base 4 "_check_place" ["kinds", "name", "rank"] (spChkP C) := T.d_check_place.cal fun f fd F => ok_chkP F T TC
  refine F.ok sc_Ranks_size_of (fun vs H Q E h => ?_) (fun cdv A outer s H vs Q E hr h => ?_)
  · obtain ⟨x, kx, md, leaf, M, ns, L, t, z, r, rfl, _⟩ := h
    rfl
  · obtain ⟨x, kx, md, leaf, M, ns, L, t, z, r, rfl, hR, f6, hz, hr2, q⟩ := h
    have hu := hu_of hr
    refine ⟨_, pss_cons (ps_expr (pe_cal cp hr (by rfl) (pa_cons (pe_fld (pv 0) rfl) (pa_cons (pv 1) (pa_cons (pv 2) pa_nil)))))
      (pss_cons (ps_if (pt_cmpR op_gt (pv 2) (pe_glob (v := .int 402) (by rfl) gm ⟨_, rfl⟩) (nomark _)) (pss_one ps_never) pss_nil)
      (pss_one (ps_ret (pe_dget1 hu (pe_ix ix_list (pe_fld (pv 0) rfl) (pv 2) (fun _ _ => rfl)) (pv 1) (by constructor <;> rfl))))), ?_⟩
    obtain ⟨dx, bl, pl, sl, wl, es, ds, hx, hk, hb, hl, hS, hsl, hdl, hRow, _⟩ := id hR
    refine ⟨_, rfl, x, R, dx, _, _, rfl, hx, TR.cl, TR.n_kinds, rf_kinds _ _ _ _ _ _, _, rfl, _, rfl, kx, md, leaf, M, ns, z, (r : Nat), rfl, hk, f6, hz, by omega, by unfold TEN60; omega, ?_⟩
    refine ⟨_, rfl, _, _, rfl, rfl, ?_⟩
    refine ⟨_, rfl, ?_⟩
    refine ite2 (fun c0 => ?_) (fun c0 => ?_)
    · exfalso
      have := of_decide_eq_true c0
      omega
    have hj : r < ds.length := by omega
    have hrow := hRow r _ (List.getElem?_eq_getElem hj)
    refine ⟨_, rfl, x, R, dx, _, _, rfl, hx, TR.cl, TR.n_sizes, rf_sizes _ _ _ _ _ _, _, rfl, sl, _, _, .ref ds[r], rfl, rfl, .inl (.inl hsl), ?_, ds[r], rfl, .inl ⟨_, .inl hrow⟩, _, rfl, valV (rowK (rowsR leaf M r)) (Sum.inr z), .inl ⟨_, Sum.inr z, .inl hrow, rfl, rfl⟩, ?_⟩
    · unfold atI ixN
      rw [if_pos (by omega), List.length_map, if_pos (by omega)]
      show (ds.map V.ref)[((r : Nat) : Int).toNat]? = _
      rw [Int.toNat_natCast, List.getElem?_map, List.getElem?_eq_getElem hj]
      rfl
    · rw [rowK_look]
      unfold sizeV at q
      cases e : lookR (rowsR leaf M r) z with
      | none =>
        rw [e] at q
        exact q
      | some n =>
        rw [e] at q
        exact q
/-! ### equal ranks; their text -/
def spREq (K : PySem.W.Frag) (C R : Addr) : Sp := fun vs H Q _ => ∃ (x kx md : Addr) (leaf : Str) (M : Mak) (ns : List Str) (L t : Nat) (x' kx' md' : Addr) (leaf' : Str) (N : Mak) (ns' : List Str) (L' t' : Nat),
  vs = [V.ref x, V.ref x'] ∧ RanksAt C R H x kx md leaf M ns L t ∧ Fin6 leaf M ns ∧ RanksAt C R H x' kx' md' leaf' N ns' L' t' ∧ Fin6 leaf' N ns' ∧ Q (.bl (decide (leaf = leaf') && eqB M N)) H
theorem ok_req {C R f : Addr} {fd : FuncData} (F : Fun K "__eq__" "Ranks.__eq__" s_Ranks_eq f fd) (T : Top K mg) (TC : Cl_Kinds K mg C) (TR : Cl_Ranks K mg R) : FnOk P w K mg base CX0 2 f fd ["self", "other"] (spREq K C R) := by
  have kEq : CalM P w K mg base C "__eq__" 1 ["self", "other"] (spKEq K C) := TC.m_eq.cal fun f fd F => ok_keq F T TC
  refine F.ok sc_Ranks_eq (fun vs H Q E h => ?_) (fun cdv A outer s H vs Q E hr h => ?_)
  · obtain ⟨x, kx, md, leaf, M, ns, L, t, x', kx', md', leaf', N, ns', L', t', rfl, _⟩ := h
    rfl
  · obtain ⟨x, kx, md, leaf, M, ns, L, t, x', kx', md', leaf', N, ns', L', t', rfl, hR, f6, hR', f6', q⟩ := h
    refine ⟨_, pss_one (ps_ret (pe_and (pe_callB call_isi (by rfl) T.b_isinstance (by decide +kernel) (pa_cons (pv 1) (pa_cons (pe_glob (v := .ref R) (by rfl) TR.gC rfl) pa_nil)))
      (pe_one (pe_cmpR (op_eqM kEq hr) (pe_fld (pv 0) rfl) (pe_fld (pv 1) rfl) (by rfl))))), ?_⟩
    obtain ⟨dx, bl, pl, sl, wl, es, ds, hx, hk, _⟩ := hR
    obtain ⟨dx', bl', pl', sl', wl', es', ds', hx', hk', _⟩ := hR'
    obtain ⟨dk, _, _, hkx, _⟩ := id hk
    obtain ⟨dk', _, _, hkx', _⟩ := id hk'
    refine ⟨_, rfl, _, _, .ref R, .ref R, true, rfl, .own R, .base (.ins hx' TR.cl TR.ca TR.cg TR.ct TR.ob), TR.kit, true, rfl, ?_⟩
    rw [if_pos rfl]
    refine ⟨_, rfl, x, R, dx, _, _, rfl, hx, TR.cl, TR.n_kinds, rf_kinds _ _ _ _ _ _, _, rfl, x', R, dx', _, _, rfl, hx', TR.cl, TR.n_kinds, rf_kinds _ _ _ _ _ _, ?_⟩
    exact ⟨kx, dk, _, _, rfl, hkx, .ins hkx', kx, md, leaf, M, ns, .ref kx', rfl, hk, f6.v, .inl ⟨kx', md', leaf', N, ns', rfl, hk', f6'.v, _, rfl, q⟩⟩
def strR (t p : Nat) : Str := ((("ranks from " : Str) ++ (toString (t : Int) : Str)) ++ " on by ") ++ (toString (p : Int) : Str)
theorem int_short {n : Nat} (h : n ≤ 64) : ((toString (n : Int) : Str)).length ≤ 8 ∧ ((n : Int)).natAbs.log2 < 1920 := by
  have e : (List.range 65).all (fun n => decide (((toString (n : Int) : Str)).length ≤ 8) && decide (((n : Int)).natAbs.log2 < 1920)) = true := by decide +kernel
  have := List.all_eq_true.mp e n (List.mem_range.mpr (by omega))
  rw [Bool.and_eq_true] at this
  exact ⟨of_decide_eq_true this.1, of_decide_eq_true this.2⟩
def spRStr (C R : Addr) : Sp := fun vs H Q _ => ∃ x kx md leaf M ns L t, vs = [.ref x] ∧ RanksAt C R H x kx md leaf M ns L t ∧ Turn leaf M L t ∧ Q (.str (strR t (L - t))) H
theorem ok_rstr {C R f : Addr} {fd : FuncData} (F : Fun K "__str__" "Ranks.__str__" s_Ranks_str f fd) (T : Top K mg) (TR : Cl_Ranks K mg R) : FnOk P w K mg base CX0 3 f fd ["self"] (spRStr C R) := by
  have rPer : CalP P w K mg base R "period" 1 (spRPer C R) := TR.p_period.cal fun f fd F => ok_rper F T TR
  refine F.ok sc_Ranks_str (fun vs H Q E h => ?_) (fun cdv A outer s H vs Q E hr h => ?_)
  · obtain ⟨x, kx, md, leaf, M, ns, L, t, rfl, _⟩ := h
    rfl
  · obtain ⟨x, kx, md, leaf, M, ns, L, t, rfl, hR, hT, q⟩ := h
    refine ⟨_, pss_one (ps_ret (pe_joinedN (.cons pe_str (.cons (pe_fmt (pe_fld (pv 0) rfl)) (.cons pe_str (.cons (pe_fmt (pe_propC (pv 0) TR.cl rPer hr rfl)) .nil)))))), ?_⟩
    obtain ⟨dx, bl, pl, sl, wl, es, ds, hx, _⟩ := id hR
    have h1 := hT.lt
    have h2 := hT.few
    obtain ⟨a1, a2⟩ := int_short (n := t) (by omega)
    obtain ⟨b1, b2⟩ := int_short (n := L - t) (by omega)
    have big : 1000 ≤ sizeLine := by decide
    have k1 : ("ranks from " : Str).length = 11 := rfl
    have k2 : (" on by " : Str).length = 7 := rfl
    have ep : ((L : Int) - (t : Int)) = ((L - t : Nat) : Int) := by omega
    refine ⟨_, rfl, by rw [empty_app]; omega, ?_⟩
    refine ⟨_, rfl, x, R, dx, _, _, rfl, hx, TR.cl, TR.n_turn, rf_turn _ _ _ _ _ _, .inr ⟨(t : Nat), rfl, a2, ?_⟩⟩
    refine ⟨_, rfl, by rw [empty_app, len_app]; omega, _, rfl, by rw [empty_app, len_app, len_app]; omega, ?_⟩
    refine ⟨_, rfl, x, dx, _, rfl, hx, x, kx, md, leaf, M, ns, L, t, rfl, hR, .inr ⟨((L - t : Nat) : Int), by rw [ep], b2, ?_⟩⟩
    refine ⟨_, rfl, by rw [empty_app, len_app, len_app, len_app]; omega, ?_⟩
    rw [empty_app]
    exact q
end
end Kl

set_option maxRecDepth 100000
set_option maxHeartbeats 4000000
namespace Kl
open PySem PySem.Spec PyProof.Rows L2 Gx Mx
section
variable {P : Program} {w : World} {K : PySem.W.Frag} {mg : Str → Option Value} {base : Heap}
theorem put_none {κ : Type} [DecidableEq κ] {k : κ} {v : V} : ∀ {kvs : List (κ × V)}, valV kvs k = none → kvs.map (fun kv => if kv.1 = k then (kv.1, v) else kv) = kvs
  | [], _ => rfl
  | x :: kvs, h => by
    by_cases e : x.1 = k
    · rw [valV_pos e] at h
      cases h
    · rw [valV_neg e] at h
      rw [List.map_cons, if_neg e, put_none h]
theorem put_cons {κ : Type} [DecidableEq κ] {k : κ} {v : V} {x : κ × V} {kvs : List (κ × V)} (e : ¬ x.1 = k) : putK (x :: kvs) k v = x :: putK kvs k v := by
  unfold putK
  rw [List.any_cons, decide_eq_false e, Bool.false_or, List.map_cons, if_neg e]
  by_cases c : (kvs.any fun kv => decide (kv.1 = k)) = true
  · rw [if_pos c, if_pos c]
  · rw [if_neg c, if_neg c]
    rfl
theorem addR_put : ∀ (S : Row) (p : Str) (c : Nat), (keysR S).Nodup → rowK (addR S p c) = putK (rowK S) (Sum.inr p) (.int (((lookR S p).getD 0 + c : Nat) : Int))
  | [], p, c, _ => by
    show _ = [((Sum.inr p : Key), V.int ((0 + c : Nat) : Int))]
    rw [Nat.zero_add]
    rfl
  | q :: S, p, c, nd => by
    have nd' : (q.1 :: keysR S).Nodup := nd
    rw [List.nodup_cons] at nd'
    rw [lookR_cons]
    unfold addR
    by_cases e : q.1 = p
    · rw [if_pos e, if_pos e]
      have hn : valV (rowK S) (Sum.inr p) = none := by rw [rowK_look, lookR_no (by rw [← e]; exact nd'.1)]; rfl
      show (Sum.inr q.1, V.int ((q.2 + c : Nat) : Int)) :: rowK S = putK ((Sum.inr q.1, V.int (q.2 : Nat)) :: rowK S) (Sum.inr p) (.int ((q.2 + c : Nat) : Int))
      unfold putK
      rw [List.any_cons, decide_eq_true (show (Sum.inr q.1 : Key) = Sum.inr p by rw [e]), Bool.true_or, if_pos rfl, List.map_cons, put_none hn, if_pos (show (Sum.inr q.1 : Key) = Sum.inr p by rw [e])]
    · rw [if_neg e, if_neg e]
      show (Sum.inr q.1, V.int (q.2 : Nat)) :: rowK (addR S p c) = putK ((Sum.inr q.1, V.int (q.2 : Nat)) :: rowK S) (Sum.inr p) _
      rw [put_cons (fun h => e (Sum.inr.inj h)), addR_put S p c nd'.2]
theorem last_at {ds : List Addr} {n : Nat} {a : Addr} (l : ds.length = n + 1) (h : ds[n]? = some a) : atI (ds.map V.ref) (-1) = some (.ref a) := by
  unfold atI ixN
  rw [if_neg (by decide), List.length_map, l, if_pos (by omega)]
  show (ds.map V.ref)[(((n + 1 : Nat) : Int) + -1).toNat]? = _
  rw [show (((n + 1 : Nat) : Int) + -1).toNat = n by omega, List.getElem?_map, h]
  rfl
/-! ### rows opened: how they read -/
def OpAt (H : Hp) (M : Mak) (z : Str) (ds : List Addr) : Prop := ∀ i a, ds[i]? = some a → H a = some (.dK (rowK (opR M z i)))
theorem OpAt.same {H H' : Hp} {M : Mak} {z : Str} {ds : List Addr} (h : OpAt H M z ds) (s : Same H H') : OpAt H' M z ds := fun i a e => s _ _ (h i a e)
theorem row_nd {R : Row} (nd : (keysR R).Nodup) : ((rowK R).map (·.1)).Nodup := by
  rw [rowK_keys]
  exact List.Pairwise.map Sum.inr (fun a b h q => h (Sum.inr.inj q)) nd
theorem prt_sub {leaf : Str} {M N : Mak} (v : Vld leaf M) (hD : DedOf M N) {k p : Str} (h : p ∈ prt N k) : p = leaf ∨ p ∈ keysOf M := by
  unfold prt at h
  cases e : lookM N k with
  | none => rw [e] at h; cases h
  | some ps =>
    rw [e] at h
    obtain ⟨m, h1, _, _, _, h2⟩ := hD.mem (lookM_some e)
    exact (v.parts m h1).2.2.2 p ((h2 p).mp h)
theorem open_few {leaf : Str} {M N : Mak} (v : Vld leaf M) (hD : DedOf M N) {c : Nat} {R : Row} {ps : List Str} (hp : ∀ p ∈ ps, p = leaf ∨ p ∈ keysOf M) : (rowK (addP c (openF N [] R) ps)).length ≤ 6 := by
  rw [rowK_len]
  have h1 := v.few (keysR (addP c (openF N [] R) ps)) (addP_nd (openF_nd (S := []) (show (keysR []).Nodup from List.nodup_nil))) fun y hy => by
    rcases addP_keys.mp hy with hy | hy
    · rcases openF_keys.mp hy with hy | ⟨r, _, hy⟩
      · cases hy
      · exact prt_sub v hD hy
    · exact hp y hy
  unfold keysR at h1
  rw [List.length_map] at h1
  exact h1
/-! ### _ways_below -/
def spWB : Sp := fun vs H Q _ => ∃ (pl ab : Addr) (kvL : List (Key × V)) (leaf : Str) (M N : Mak) (R : Row), vs = [V.ref pl, V.ref ab] ∧ H pl = some (.dK kvL) ∧ PartsL H kvL N ∧ Vld leaf M ∧ DedOf M N ∧ H ab = some (.dK (rowK R)) ∧ pl ≠ ab ∧ (keysR R).Nodup ∧ canR N R ∧
  ∀ p H', Same H H' → H p = none → H' p = some (.dK (rowK (openR N R))) → Q (.ref p) H'
theorem ok_wb {f : Addr} {fd : FuncData} (F : Fun K "_ways_below" "_ways_below" s_ways_below f fd) (T : Top K mg) : FnOk P w K mg base CX0 1 f fd ["parts_of", "above"] spWB := by
  refine F.ok sc_ways_below (fun vs H Q E h => ?_) (fun cdv A outer s H vs Q E hr h => ?_)
  · obtain ⟨pl, ab, kvL, leaf, M, N, R, rfl, _⟩ := h
    rfl
  · obtain ⟨pl, ab, kvL, leaf, M, N, R, rfl, epl, hP, hV, hD, eab, npa, nd, hc, q⟩ := h
    have hu := hu_of hr
    refine ⟨_, pss_cut (ps_set (i := 2) sc_ways_below.nd rfl (.inl rfl) pe_dnewK)
      (pss_cut (ps_lock (ps_for PassesOwn.never rfl (pi_keys (pv 1)) (pg_name (i := 3) sc_ways_below.nd rfl (.inl rfl))
          (pss_one (ps_for PassesOwn.never rfl (pi_list (pe_dget hu (pv 0) (pv 3) (fun _ _ => rfl))) (pg_name (i := 4) sc_ways_below.nd rfl (.inl rfl))
            (pss_one (ps_asg (pe_op op_add (pe_dget2 hu (pv 2) (pv 4) pe_int (by constructor <;> rfl)) (pe_dget hu (pv 1) (pv 3) (fun _ _ => rfl))) (pg_sub (pv 2) (pv 4) (set_dict hu))))))))
      (pss_one (ps_ret (pv 2)))), ?_⟩
    have big : 100000 ≤ sizeLine := by decide
    refine ⟨fun σ' G => ∃ hh : Addr, σ' = [some (.ref pl), some (.ref ab), some (.ref hh), none, none] ∧ G hh = some (.dK []) ∧ H hh = none ∧ Same H G, ?_, ?_⟩
    · exact fun hh nhh => ⟨hh, rfl, upd_same, nhh, same_new (Same.refl H) nhh⟩
    rintro σ' G2 ⟨hh, rfl, ehh, nhh, s2⟩
    have eab2 := s2 _ _ eab
    have nhr : hh ≠ ab := fun z => by rw [z, eab] at nhh; cases nhh
    refine ⟨fun σ' G' => ∃ (y3 y4 : Option V), σ' = [some (.ref pl), some (.ref ab), some (.ref hh), y3, y4] ∧ G' hh = some (.dK (rowK (openR N R))) ∧ Same H G', ?_, ?_⟩
    · refine ⟨ab, _, eab2, trivial, fun od => ?_⟩
      have eHL : (upd G2 ab (.frz od (.dK (rowK R)))) hh = some (.dK []) := by
        rw [upd_ne nhr]
        exact ehh
      have eRL : (upd G2 ab (.frz od (.dK (rowK R)))) ab = some (.frz od (.dK (rowK R))) := upd_same
      have sHL : SameX ab H (upd G2 ab (.frz od (.dK (rowK R)))) := fun b o n e => by
        rw [upd_ne n]
        exact s2 _ _ e
      generalize upd G2 ab (.frz od (.dK (rowK R))) = GL at eHL eRL sHL
      have sH : ∀ {G' : Hp}, SameX hh GL G' → SameX ab H G' := fun sx b o n e => sx _ _ (ne_of_none e nhh) (sHL _ _ n e)
      refine ⟨_, rfl, ab, od, rfl, .inl ⟨rowK R, eRL, ?_⟩⟩
      refine for_it walk_keys (fun j σ' G' => ∃ (y3 y4 : Option V), σ' = [some (.ref pl), some (.ref ab), some (.ref hh), y3, y4] ∧ G' hh = some (.dK (rowK (openF N [] (R.take j)))) ∧ SameX hh GL G')
        ⟨_, _, rfl, eHL, SameX.refl hh GL⟩ (fun j σ' G' _ h => by obtain ⟨_, _, _, _, sx⟩ := h; exact sx _ _ nhr.symm eRL) (fun j v σ' Gx G' hj h hy => ?_) (fun σ' G' h => ?_)
      · obtain ⟨y3, y4, rfl, eH, sx⟩ := h
        obtain ⟨rfl, k, v, hkv, rfl⟩ := hy
        obtain ⟨x, hxj, ex⟩ : ∃ x, R[j]? = some x ∧ (Sum.inr x.1, V.int (x.2 : Nat)) = (k, v) := by
          unfold rowK at hkv
          rw [List.getElem?_map] at hkv
          exact Option.map_eq_some_iff.mp hkv
        cases ex
        obtain ⟨ps, hps⟩ := lookM_in (hc x (List.mem_of_getElem? hxj))
        obtain ⟨a, hva, ha⟩ := hP.key hps
        have sG := sH sx
        have epl' := sG _ _ npa epl
        have ha' : G' a = some (.lst (ps.map V.str)) := sG _ _ (fun c => by rw [c, eab] at ha; cases ha) ha
        have psub : ∀ p ∈ ps, p = leaf ∨ p ∈ keysOf M := fun p hp => prt_sub hV hD (show p ∈ prt N x.1 by rw [prt_of hps]; exact hp)
        refine ⟨_, rfl, _, rfl, pl, .ref a, rfl, .inl ⟨kvL, Sum.inr x.1, .inl epl', rfl, hva.symm⟩, a, rfl, ⟨_, .inl (.inl ha')⟩, ?_⟩
        refine for_it (walk_list (K := K) (a := a) (xs := ps.map V.str)) (fun k σ' G6 => ∃ y4 : Option V, σ' = [some (.ref pl), some (.ref ab), some (.ref hh), some (.str x.1), y4] ∧ G6 hh = some (.dK (rowK (addP x.2 (openF N [] (R.take j)) (ps.take k)))) ∧ SameX hh G' G6)
          ⟨_, rfl, eH, SameX.refl hh G'⟩ (fun k σ' G6 _ h => by obtain ⟨_, _, _, sx6⟩ := h; exact .inl (.inl (sx6 _ _ (fun c => by rw [c, eH] at ha'; cases ha') ha'))) (fun k v σ' Gx G6 hk6 h hy => ?_) (fun σ' G6 h => ?_)
        · obtain ⟨y4, rfl, eH6, sx6⟩ := h
          obtain ⟨rfl, hv⟩ := hy
          obtain ⟨p, hp, rfl⟩ := at_texts hv
          have eR6 := (sx.trans sx6) _ _ nhr.symm eRL
          have eo : (valV (rowK (addP x.2 (openF N [] (R.take j)) (ps.take k))) (Sum.inr p)).getD (.int 0) = .int (((lookR (addP x.2 (openF N [] (R.take j)) (ps.take k)) p).getD 0 : Nat) : Int) := by
            rw [rowK_look]
            cases lookR (addP x.2 (openF N [] (R.take j)) (ps.take k)) p <;> rfl
          have hvx : valV (rowK R) (Sum.inr x.1) = some (.int (x.2 : Nat)) := val_nodup (row_nd nd) (Sum.inr x.1, .int (x.2 : Nat)) (List.mem_of_getElem? hkv)
          have few := open_few hV hD (c := x.2) (R := R.take j) (ps := ps.take k) fun p hp => psub p (List.mem_of_mem_take hp)
          refine ⟨_, rfl, hh, rfl, .inl ⟨_, .inl eH6⟩, _, rfl, valV (rowK (addP x.2 (openF N [] (R.take j)) (ps.take k))) (Sum.inr p), .inl ⟨_, Sum.inr p, .inl eH6, rfl, rfl⟩, ?_⟩
          refine ⟨_, rfl, _, rfl, ab, .int (x.2 : Nat), rfl, .inl ⟨_, Sum.inr x.1, .inr ⟨od, eR6⟩, rfl, hvx.symm⟩, _, _, eo, rfl, ?_⟩
          refine ⟨_, rfl, _, rfl, hh, _, rfl, .inl ⟨_, Sum.inr p, eH6, rfl, by omega, rfl⟩, _, rfl, ?_, sx6.atd⟩
          rw [upd_same, take_snoc hp]
          unfold addP
          rw [List.foldl_append]
          show _ = some (HO.dK (rowK (addR _ p x.2)))
          have nd6 : (keysR (addP x.2 (openF N [] (R.take j)) (ps.take k))).Nodup := addP_nd (openF_nd (R := R.take j) (S := []) (show (keysR []).Nodup from List.nodup_nil))
          exact congrArg some (congrArg HO.dK ((congrArg (putK _ _) (congrArg V.int (Int.natCast_add _ _).symm)).trans (addR_put (addP x.2 (openF N [] (R.take j)) (ps.take k)) p x.2 nd6).symm))
        · obtain ⟨y4, rfl, eH6, sx6⟩ := h
          rw [List.length_map, List.take_length] at eH6
          refine ⟨_, _, rfl, ?_, sx.trans sx6⟩
          rw [eH6, take_snoc hxj]
          unfold openF
          rw [List.foldl_append]
          show _ = some (HO.dK (rowK (addP x.2 _ (prt N x.1))))
          rw [prt_of hps]
      · obtain ⟨y3, y4, rfl, eH, sx⟩ := h
        rw [rowK_len, List.take_length] at eH
        refine ⟨sx _ _ nhr.symm eRL, y3, y4, rfl, ?_, fun b o e => ?_⟩
        · rw [upd_ne nhr]
          exact eH
        · by_cases c : b = ab
          · rw [c] at e ⊢
            rw [upd_same, ← eab, e]
          · rw [upd_ne c]
            exact sH sx _ _ c e
    rintro σ' G3 ⟨y3, y4, rfl, eH3, s3⟩
    exact ⟨_, rfl, q hh G3 s3 nhh eH3⟩
end
end Kl

set_option maxRecDepth 100000
set_option maxHeartbeats 4000000
namespace Kl
open PySem PySem.Spec PyProof.Rows L2 Gx Mx
section
variable {P : Program} {w : World} {K : PySem.W.Frag} {mg : Str → Option Value} {base : Heap}
/-! ### _ways_onward -/
theorem last_ref {ds : List Addr} {n : Nat} {a : Addr} (l : ds.length = n + 1) (h : ds[n]? = some a) : atI (ds.map V.ref) (-1) = some (.ref a) := last_at l h
def spWO : Sp := fun vs H Q _ => ∃ (pl nm : Addr) (kvL : List (Key × V)) (leaf z : Str) (M N : Mak) (n : Nat), vs = [V.ref pl, V.ref nm, V.int (n : Nat)] ∧ n ≤ 402 ∧ H pl = some (.dK kvL) ∧ PartsL H kvL N ∧ Vld leaf M ∧ DedOf M N ∧ H nm = some (.tup [.str z]) ∧ (∀ i, i < n → canR N (opR N z i)) ∧
  ∀ p ds H', Same H H' → H' p = some (.lst (ds.reverse.map V.ref)) → ds.length = n + 1 → OpAt H' N z ds → Q (.ref p) H'
abbrev NWO : List Str := ["parts_of", "names", "rank", "downward", "_", "name"]
theorem ok_wo {f : Addr} {fd : FuncData} (F : Fun K "_ways_onward" "_ways_onward" s_ways_onward f fd) (T : Top K mg) : FnOk P w K mg base CX0 2 f fd ["parts_of", "names", "rank"] spWO := by
  have cb : Cal P w K mg base 1 "_ways_below" ["parts_of", "above"] spWB := T.d_ways_below.cal fun f fd F => ok_wb F T
  refine F.ok sc_ways_onward (fun vs H Q E h => ?_) (fun cdv A outer s H vs Q E hr h => ?_)
  · obtain ⟨pl, nm, kvL, leaf, z, M, N, n, rfl, _⟩ := h
    rfl
  · obtain ⟨pl, nm, kvL, leaf, z, M, N, n, rfl, hn, epl, hP, hV, hD, enm, hc, q⟩ := h
    have hu := hu_of hr
    refine ⟨_, pss_cut (ps_set (i := 3) sc_ways_onward.nd rfl (.inl rfl) (pe_lst (pa_cons (pe_dc (own := [("name", 5)]) (g := gName 5) (tt := tYes) rfl sc_ways_onward.nd (pi_tup (pv 1))
          (blkOk_by (N := NWO) (sc := defScope s_ways_onward) (by decide +kernel)) (fun _ _ _ _ _ => pg_name (i := 5) sc_ways_onward.nd rfl (.inl rfl)) (fun _ _ _ _ _ => pts_nil) (fun _ _ _ _ _ => pv 5) (fun _ _ _ _ _ => pe_int)) pa_nil)))
      (pss_cut (ps_for PassesOwn.never rfl (pi_range1 (by rfl) T.b_range (pa_cons (pv 2) pa_nil)) (pg_name (i := 4) sc_ways_onward.nd rfl (.inl rfl))
        (pss_one (ps_expr (pe_bm PySem.F.plainAttrs_list PySem.F.slot_list_append PySem.F.type_list_append mt_append (pv 3) (pa_cons (pe_cal cb hr (by rfl) (pa_cons (pv 0) (pa_cons (pe_ix ix_list (pv 3) (pe_un un_neg pe_int) (fun _ _ => rfl)) pa_nil))) pa_nil)))))
      (pss_one (ps_ret (pe_revL (pv 3))))), ?_⟩
    have big : 100000 ≤ sizeLine := by decide
    refine ⟨fun σ' G => ∃ (fl b0 : Addr), σ' = [some (.ref pl), some (.ref nm), some (.int (n : Nat)), some (.ref fl), none, none] ∧ G fl = some (.lst [.ref b0]) ∧ G b0 = some (.dK (rowK (opR N z 0))) ∧ Same H G ∧ H fl = none ∧ H b0 = none, ?_, ?_⟩
    · refine ⟨_, rfl, nm, rfl, ⟨_, .inl (.inl enm)⟩, fun D hD => ?_⟩
      refine walk_in (walk_tup (K := K) (a := nm) (xs := [V.str z])) (fun j G => G D = some (.dK (if j = 0 then [] else rowK (opR N z 0))) ∧ Same H G) ⟨upd_same, same_new (Same.refl _) hD⟩ (fun j G _ hP => .inl (.inl (hP.2 _ _ enm))) (fun j v Gx G hj hP hy => ?_) (fun G hP => ?_)
      · obtain ⟨eD, sm⟩ := hP
        obtain ⟨rfl, hv⟩ := hy
        have j0 : j = 0 := by
          have : j < 1 := hj
          omega
        subst j0
        cases hv
        refine ⟨rfl, _, rfl, _, Sum.inr z, rfl, eD, by show 0 < sizeLine; omega, ?_, fun b u e => by rw [upd_ne (ne_of_none e hD)]; exact sm b u e⟩
        rw [upd_same]
        rfl
      · obtain ⟨eD, sm⟩ := hP
        refine ⟨by show 1 ≤ sizeLine; omega, fun fl nfl => ⟨fl, D, rfl, upd_same, ?_, same_new sm nfl, sm.free nfl, hD⟩⟩
        rw [upd_ne (ne_of_none eD nfl)]
        exact eD
    rintro σ' G ⟨fl, b0, rfl, efl, eb0, s0, nfl, nb0⟩
    refine ⟨fun σ' G => ∃ (ds : List Addr) (y4 : Option V), σ' = [some (.ref pl), some (.ref nm), some (.int (n : Nat)), some (.ref fl), y4, none] ∧ G fl = some (.lst (ds.map V.ref)) ∧ ds.length = n + 1 ∧ OpAt G N z ds ∧ Same H G, ?_, ?_⟩
    · refine ⟨_, rfl, _, rfl, by omega, by omega, ?_⟩
      refine for_range (lo := 0) (fun i σ' G => ∃ (ds : List Addr) (y4 : Option V), σ' = [some (.ref pl), some (.ref nm), some (.int (n : Nat)), some (.ref fl), y4, none] ∧ G fl = some (.lst (ds.map V.ref)) ∧ ds.length = i + 1 ∧ OpAt G N z ds ∧ Same H G ∧ ∀ a ∈ ds, H a = none)
        ⟨[b0], none, rfl, efl, rfl, ?_, s0, fun a ha => by rw [List.mem_singleton.mp ha]; exact nb0⟩ (fun i σ' G hi hI => ?_) (fun σ' G hI => ?_)
      · intro i a ha
        have hi : i = 0 := by
          have := (List.getElem?_eq_some_iff.mp ha).1
          rw [List.length_singleton] at this
          omega
        subst hi
        cases ha
        exact eb0
      · obtain ⟨ds, y4, rfl, eF, hl, hOp, sm, hnew⟩ := hI
        have hin : i < n := by omega
        obtain ⟨ra, hra⟩ : ∃ a, ds[i]? = some a := ⟨_, List.getElem?_eq_getElem (by omega)⟩
        have era := hOp i ra hra
        have hat := last_at hl hra
        have nlp : pl ≠ ra := ne_of_none epl (hnew ra (List.mem_of_getElem? hra))
        refine ⟨_, rfl, ⟨.inl ⟨rfl, _, .inl (.inl eF)⟩, ?_⟩⟩
        refine ⟨_, rfl, _, rfl, _, rfl, fl, _, _, .ref ra, rfl, rfl, .inl (.inl eF), hat, ?_⟩
        refine ⟨pl, ra, kvL, leaf, M, N, opR N z i, rfl, sm _ _ epl, hP.imp fun _ _ e => sm _ _ e, hV, hD, era, nlp, opR_nd i, hc i hin, fun hh G2 s2 nhh ehh => ?_⟩
        have eF2 := s2 _ _ eF
        refine ⟨fl, _, _, rfl, rfl, eF2, by rw [List.length_map]; omega, ds ++ [hh], _, rfl, ?_, by rw [List.length_append, List.length_singleton, hl], fun j a ha => ?_, fun b o e => ?_, fun a ha => ?_⟩
        · rw [upd_same, List.map_append]
          rfl
        · rcases snoc_at ha with h | ⟨rfl, rfl⟩
          · have h1 := hOp j a h
            rw [upd_ne (fun z => by rw [z, eF] at h1; cases h1)]
            exact s2 _ _ h1
          · rw [upd_ne (fun z => by rw [z, eF2] at ehh; cases ehh), ehh, hl]
            rfl
        · rw [upd_ne (ne_of_none e nfl)]
          exact s2 _ _ (sm _ _ e)
        · rcases List.mem_append.mp ha with h | h
          · exact hnew a h
          · rw [List.mem_singleton.mp h]
            exact sm.free nhh
      · obtain ⟨ds, y4, h1, h2, h3, h4, h5, _⟩ := hI
        exact ⟨ds, y4, h1, h2, by omega, h4, h5⟩
    rintro σ' G2 ⟨ds, y4, rfl, eF, hl, hOp, sm⟩
    refine ⟨_, rfl, fl, _, rfl, .inl (.inl eF), fun p np => ?_⟩
    have s3 := same_new (o := .lst (ds.map V.ref).reverse) (Same.refl G2) np
    exact q p ds _ (fun b o e => s3 _ _ (sm _ _ e)) (by rw [upd_same, List.map_reverse]) hl (hOp.same s3)
end
end Kl

set_option maxRecDepth 100000
set_option maxHeartbeats 4000000
namespace Kl
open PySem PySem.Spec PyProof.Rows L2 Gx Mx
/-! ### the way with a number: the mathematics -/
/-- the first of some names behind whose sum a number does not come, and what is left of it -/
def walkN (g : Str → Nat) : List Str → Nat → Option (Str × Nat)
  | [], _ => none
  | u :: us, n => if n < g u then some (u, n) else walkN g us (n - g u)
/-- how many are left behind i of them -/
def leftN (g : Str → Nat) (us : List Str) (n i : Nat) : Nat := n - ((us.take i).map g).sum
theorem walkN_some {g : Str → Nat} : ∀ {us : List Str} {n : Nat}, n < (us.map g).sum → ∃ i u, us[i]? = some u ∧ ((us.take i).map g).sum ≤ n ∧ n - ((us.take i).map g).sum < g u ∧ walkN g us n = some (u, n - ((us.take i).map g).sum)
  | [], n, h => absurd h (Nat.not_lt_zero _)
  | u :: us, n, h => by
    unfold walkN
    by_cases c : n < g u
    · rw [if_pos c]
      exact ⟨0, u, rfl, Nat.zero_le _, c, rfl⟩
    · rw [if_neg c]
      rw [List.map_cons, List.sum_cons] at h
      obtain ⟨i, y, h1, h2, h3, h4⟩ := walkN_some (g := g) (us := us) (n := n - g u) (by omega)
      refine ⟨i + 1, y, h1, ?_, ?_, ?_⟩
      · rw [List.take_succ_cons, List.map_cons, List.sum_cons]
        omega
      · rw [List.take_succ_cons, List.map_cons, List.sum_cons, Nat.sub_add_eq]
        exact h3
      · rw [h4, List.take_succ_cons, List.map_cons, List.sum_cons, Nat.sub_add_eq]
/-- the users of a kind that are in a row -/
def usersIn (M : Mak) (y : Str) (R : Row) : List Str := (usersK M y).filter fun u => decide (u ∈ keysR R)
def wayF (M : Mak) : Str → List Row → Nat → List Str
  | y, [], _ => [y]
  | y, R :: Rs, n => match walkN (getR R) (usersIn M y R) n with
    | some (u, m) => y :: wayF M u Rs m
    | none => [y]
/-- rows of which each is the next one opened -/
def ChainR (N : Mak) : Row → List Row → Prop
  | _, [] => True
  | R0, R :: Rs => R0 = openR N R ∧ (keysR R).Nodup ∧ ChainR N R Rs
theorem sum_delta (y : Str) : ∀ {ps : List Str}, ps.Nodup → (ps.map fun p => if p = y then 1 else 0).sum = if y ∈ ps then 1 else 0
  | [], _ => rfl
  | p :: ps, h => by
    rw [List.nodup_cons] at h
    rw [List.map_cons, List.sum_cons, sum_delta y h.2]
    by_cases e : p = y
    · subst e
      rw [if_pos rfl, if_neg h.1, if_pos List.mem_cons_self]
    · rw [if_neg e, Nat.zero_add]
      by_cases c : y ∈ ps
      · rw [if_pos c, if_pos (List.mem_cons_of_mem _ c)]
      · rw [if_neg c, if_neg fun q => (List.mem_cons.mp q).elim (fun q => e q.symm) c]
theorem getR_cons (q : Str × Nat) (R : Row) (z : Str) : getR (q :: R) z = if q.1 = z then q.2 else getR R z := by
  unfold getR
  rw [lookR_cons]
  by_cases e : q.1 = z
  · rw [if_pos e, if_pos e]
    rfl
  · rw [if_neg e, if_neg e]
theorem getR_no {R : Row} {z : Str} (h : z ∉ keysR R) : getR R z = 0 := by
  unfold getR
  rw [lookR_no h]
  rfl
theorem tot_delta (y : Str) : ∀ {R : Row}, (keysR R).Nodup → tot R (fun p => if p = y then 1 else 0) = getR R y
  | [], _ => rfl
  | q :: R, h => by
    have h' : (q.1 :: keysR R).Nodup := h
    rw [List.nodup_cons] at h'
    have ih := tot_delta y h'.2
    show q.2 * (if q.1 = y then 1 else 0) + tot R (fun p => if p = y then 1 else 0) = _
    rw [ih, getR_cons]
    by_cases e : q.1 = y
    · rw [if_pos e, if_pos e, getR_no (by rw [← e]; exact h'.1)]
      omega
    · rw [if_neg e, if_neg e]
      omega
/-- a sum over the entries of a row whose keys fit -/
theorem tot_pick (p : Str → Bool) : ∀ {R : Row}, (keysR R).Nodup → tot R (fun k => if p k = true then 1 else 0) = (((keysR R).filter p).map (getR R)).sum
  | [], _ => rfl
  | q :: R, h => by
    have h' : (q.1 :: keysR R).Nodup := h
    rw [List.nodup_cons] at h'
    have ih := tot_pick p h'.2
    show q.2 * (if p q.1 = true then 1 else 0) + tot R (fun k => if p k = true then 1 else 0) = (((q.1 :: keysR R).filter p).map (getR (q :: R))).sum
    have e : ((keysR R).filter p).map (getR (q :: R)) = ((keysR R).filter p).map (getR R) := List.map_congr_left fun z hz => by
      rw [getR_cons, if_neg fun e => h'.1 (by rw [e]; exact (List.mem_filter.mp hz).1)]
    rw [ih, List.filter_cons]
    by_cases c : p q.1 = true
    · rw [if_pos c, if_pos c, List.map_cons, List.sum_cons, e, getR_cons, if_pos rfl]
      omega
    · rw [if_neg c, if_neg c, e]
      omega
theorem users_mem {M : Mak} (nd : (keysOf M).Nodup) {y u : Str} : u ∈ usersK M y ↔ ∃ ps, lookM M u = some ps ∧ y ∈ ps := by
  unfold usersK
  rw [List.mem_map]
  constructor
  · rintro ⟨m, hm, rfl⟩
    obtain ⟨h1, h2⟩ := List.mem_filter.mp hm
    exact ⟨m.2, lookM_mem nd h1, of_decide_eq_true h2⟩
  · rintro ⟨ps, h1, h2⟩
    exact ⟨(u, ps), List.mem_filter.mpr ⟨lookM_some h1, decide_eq_true h2⟩, rfl⟩
theorem users_nd {M : Mak} (nd : (keysOf M).Nodup) (y : Str) : (usersK M y).Nodup := by
  unfold usersK
  exact nd.sublist (List.Sublist.map _ List.filter_sublist)
/-- the ways on from a kind are those from its users -/
theorem open_users {leaf : Str} {M N : Mak} (v : Vld leaf M) (hD : DedOf M N) {R : Row} (nd : (keysR R).Nodup) (y : Str) : getR (openR N R) y = ((usersIn M y R).map (getR R)).sum := by
  have ndo : (keysR (openR N R)).Nodup := openF_nd (S := []) (show (keysR []).Nodup from List.nodup_nil)
  rw [← tot_delta y ndo]
  unfold openR
  rw [openF_tot]
  show 0 + _ = _
  rw [Nat.zero_add]
  have e1 : tot R (fun k => ((prt N k).map fun p => if p = y then 1 else 0).sum) = tot R (fun k => if decide (y ∈ prt N k) = true then 1 else 0) := tot_congr fun q hq => by
    have hnd : (prt N q.1).Nodup := by
      unfold prt
      cases e : lookM N q.1 with
      | none => exact List.nodup_nil
      | some ps =>
        obtain ⟨_, _, _, _, h, _⟩ := hD.mem (lookM_some e)
        exact h
    rw [sum_delta y hnd]
    by_cases c : y ∈ prt N q.1
    · rw [if_pos c, if_pos (decide_eq_true c)]
    · rw [if_neg c, if_neg (by rw [decide_eq_false c]; exact Bool.false_ne_true)]
  rw [e1, tot_pick _ nd]
  have perm : ((keysR R).filter fun k => decide (y ∈ prt N k)).Perm (usersIn M y R) := by
    refine (List.perm_ext_iff_of_nodup (nd.sublist List.filter_sublist) ((users_nd v.nd y).sublist List.filter_sublist)).mpr fun u => ?_
    rw [List.mem_filter, List.mem_filter, decide_eq_true_iff, decide_eq_true_iff, users_mem v.nd, and_comm]
    refine and_congr_left fun _ => ?_
    constructor
    · intro h
      unfold prt at h
      cases e : lookM N u with
      | none => rw [e] at h; cases h
      | some qs =>
        rw [e] at h
        have h2 : u ∈ keysOf M := by
          rw [← hD.keys]
          exact List.mem_map.mpr ⟨_, lookM_some e, rfl⟩
        obtain ⟨ps, hps⟩ := lookM_in h2
        obtain ⟨qs', h3, _, _, h4⟩ := hD.look hps
        rw [e] at h3
        cases h3
        exact ⟨ps, hps, (h4 y).mp h⟩
    · rintro ⟨ps, hps, h⟩
      obtain ⟨qs, h3, _, _, h4⟩ := hD.look hps
      rw [prt_of h3]
      exact (h4 y).mpr h
  exact (perm.map _).sum_nat
/-! ### it is a way -/
/-- each is a part of the next one -/
def Links (M : Mak) : List Str → Prop
  | y :: u :: l => (∃ ps, lookM M u = some ps ∧ y ∈ ps) ∧ Links M (u :: l)
  | _ => True
theorem wayF_ok {leaf : Str} {M N : Mak} (v : Vld leaf M) (hD : DedOf M N) : ∀ (Rs : List Row) (R0 : Row) (y : Str) (n : Nat), ChainR N R0 Rs → n < getR R0 y →
    Links M (wayF M y Rs n) ∧ (wayF M y Rs n).length = Rs.length + 1 ∧ (wayF M y Rs n).head? = some y ∧ (∀ R, Rs.getLast? = some R → ∃ u, (wayF M y Rs n).getLast? = some u ∧ u ∈ keysR R)
  | [], R0, y, n, _, _ => ⟨trivial, rfl, rfl, fun R h => nomatch h⟩
  | R :: Rs, R0, y, n, hc, hn => by
    obtain ⟨h1, h2, h3⟩ := hc
    rw [h1, open_users v hD h2] at hn
    obtain ⟨i, u, k1, k2, k3, k4⟩ := walkN_some hn
    have hu := List.mem_of_getElem? k1
    unfold usersIn at hu
    obtain ⟨m1, m2⟩ := List.mem_filter.mp hu
    have ih := wayF_ok v hD Rs R u _ h3 k3
    obtain ⟨i1, i2, i3, i4⟩ := ih
    have e : wayF M y (R :: Rs) n = y :: wayF M u Rs (n - (((usersIn M y R).take i).map (getR R)).sum) := by
      show (match walkN (getR R) (usersIn M y R) n with | some (u, m) => y :: wayF M u Rs m | none => [y]) = _
      rw [k4]
    rw [e]
    generalize hl : wayF M u Rs (n - (((usersIn M y R).take i).map (getR R)).sum) = l at i1 i2 i3 i4
    refine ⟨?_, by rw [List.length_cons, i2, List.length_cons], rfl, fun R' hR' => ?_⟩
    · cases l with
      | nil => cases i3
      | cons a l =>
        cases i3
        exact ⟨(users_mem v.nd).mp m1, i1⟩
    · cases Rs with
      | nil =>
        cases hR'
        have e2 : l = [u] := hl.symm
        rw [e2]
        exact ⟨u, rfl, of_decide_eq_true m2⟩
      | cons R2 Rs =>
        rw [List.getLast?_cons_cons] at hR'
        obtain ⟨x, h5, h6⟩ := i4 R' hR'
        refine ⟨x, ?_, h6⟩
        cases l with
        | nil => cases i3
        | cons a l => rw [List.getLast?_cons_cons]; exact h5
end Kl

set_option maxRecDepth 100000
set_option maxHeartbeats 4000000
namespace Kl
open PySem PySem.Spec PyProof.Rows L2 Gx Mx
theorem sum_take (g : Str → Nat) : ∀ (us : List Str) (k : Nat) (u : Str), us[k]? = some u → ((us.take (k + 1)).map g).sum = ((us.take k).map g).sum + g u
  | us, k, u, h => by
    rw [take_snoc h, List.map_append, List.sum_append]
    show _ + (g u + 0) = _
    omega
theorem sum_take_le (g : Str → Nat) (us : List Str) {k i : Nat} (h : k ≤ i) : ((us.take k).map g).sum ≤ ((us.take i).map g).sum := by
  have e : us.take k = (us.take i).take k := by rw [List.take_take, Nat.min_eq_left h]
  rw [e]
  have h2 := List.take_append_drop k (us.take i)
  calc (((us.take i).take k).map g).sum ≤ (((us.take i).take k).map g).sum + (((us.take i).drop k).map g).sum := Nat.le_add_right _ _
    _ = ((us.take i).map g).sum := by rw [← List.sum_append, ← List.map_append, h2]
section
variable {P : Program} {w : World} {K : PySem.W.Frag} {mg : Str → Option Value} {base : Heap}
/-! ### _way_numbered -/
def RowsL (H : Hp) (Rs : List Row) (ds : List Addr) : Prop := ∀ (i : Nat) (a : Addr) (R : Row), ds[i]? = some a → Rs[i]? = some R → H a = some (.dK (rowK R))
def spWN (C : Addr) : Sp := fun vs H Q _ => ∃ (kx on md b : Addr) (leaf : Str) (M N : Mak) (ns : List Str) (R0 : Row) (Rs : List Row) (ds : List Addr) (n : Nat), vs = [V.ref kx, V.ref on, V.int (n : Nat)] ∧ KindsAt C H kx md leaf M ns ∧ Fin6 leaf M ns ∧ DedOf M N ∧
  H on = some (.lst ((b :: ds).map V.ref)) ∧ ds.length = Rs.length ∧ Rs.length ≤ 402 ∧ RowsL H Rs ds ∧ ChainR N R0 Rs ∧ n < getR R0 leaf ∧
  ∀ p H', Same H H' → H' p = some (.tup ((wayF M leaf Rs n).map V.str)) → Q (.ref p) H'
abbrev NWN : List Str := ["kinds", "onward", "number", "way", "counts", "users", "at", "user"]
theorem ok_wn {C f : Addr} {fd : FuncData} (F : Fun K "_way_numbered" "_way_numbered" s_way_numbered f fd) (T : Top K mg) (TC : Cl_Kinds K mg C) : FnOk P w K mg base CX0 3 f fd ["kinds", "onward", "number"] (spWN C) := by
  have kLeaf : CalP P w K mg base C "leaf" 1 (spKLeaf C) := TC.p_leaf.cal fun f fd F => ok_kleaf F TC
  have kUse : CalM P w K mg base C "users" 2 ["self", "name"] (spKUse C) := (TC.m_users.cal fun f fd F => ok_kuse F T TC).mono (by decide)
  refine F.ok sc_way_numbered (fun vs H Q E h => ?_) (fun cdv A outer s H vs Q E hr h => ?_)
  · obtain ⟨kx, on, md, b, leaf, M, N, ns, R0, Rs, ds, n, rfl, _⟩ := h
    rfl
  · obtain ⟨kx, on, md, b, leaf, M, N, ns, R0, Rs, ds, n, rfl, hK, f6, hD, eon, hl, hl4, hR, hC, hn, q⟩ := h
    have hu := hu_of hr
    refine ⟨_, pss_cut (ps_set (i := 3) sc_way_numbered.nd rfl (.inl rfl) (pe_lst (pa_cons (pe_propC (pv 0) TC.cl kLeaf hr rfl) pa_nil)))
      (pss_cut (ps_for PassesOwn.never rfl (pi_list (pe_slice sl_list (pv 1) (po_some pe_int) po_none)) (pg_name (i := 4) sc_way_numbered.nd rfl (.inr rfl))
        (pss_cut (ps_setLc (i := 5) (own := [("user", 7)]) (g := gName 7) (by rfl) sc_way_numbered.nd rfl rfl (sw_true rfl rfl rfl (by decide +kernel)) (pi_tup (pe_methC (pl := _) (pv 0) TC.cl kUse hr (pa_cons (pe_ix ix_list (pv 3) (pe_un un_neg pe_int) (fun _ _ => rfl)) pa_nil)))
            (blkOk_by (N := NWN) (sc := defScope s_way_numbered) (by decide +kernel)) (fun _ _ _ _ _ => pg_name (i := 7) sc_way_numbered.nd rfl (.inl rfl)) (fun _ _ _ _ _ => pts_one (pt_cmp (pc_din hu (pv 7) (pv 4)))) (fun _ _ _ _ _ => pv 7))
        (pss_cut (ps_set (i := 6) sc_way_numbered.nd rfl (.inl rfl) pe_int)
        (pss_cut (ps_while PassesOwn.never (pt_cmpR op_ge (pv 2) (pe_dget hu (pv 4) (pe_ix ix_list (pv 5) (pv 6) (fun _ _ => rfl)) (fun _ _ => rfl)) (nomark _))
            (pss_cut (ps_aug (i := 2) sc_way_numbered.nd rfl (.inl rfl) (pe_dget hu (pv 4) (pe_ix ix_list (pv 5) (pv 6) (fun _ _ => rfl)) (fun _ _ => rfl)) ip_sub)
            (pss_one (ps_aug (i := 6) sc_way_numbered.nd rfl (.inl rfl) pe_int ip_add))))
        (pss_one (ps_expr (pe_bm PySem.F.plainAttrs_list PySem.F.slot_list_append PySem.F.type_list_append mt_append (pv 3) (pa_cons (pe_ix ix_list (pv 5) (pv 6) (fun _ _ => rfl)) pa_nil))))))))
      (pss_one (ps_ret (pe_callTy call_tuple_of (by rfl) T.b_tuple (by decide +kernel) (pa_cons (pv 3) pa_nil))))), ?_⟩
    have big : 100000 ≤ sizeLine := by decide
    obtain ⟨dk, _, _, hk, _⟩ := id hK
    -- the leaf
    refine ⟨fun σ' G => ∃ wl : Addr, σ' = [some (.ref kx), some (.ref on), some (.int (n : Nat)), some (.ref wl), none, none, none, none] ∧ G wl = some (.lst [.str leaf]) ∧ H wl = none ∧ Same H G, ?_, ?_⟩
    · refine ⟨_, rfl, kx, dk, _, rfl, hk, kx, md, leaf, M, ns, rfl, hK, by show 1 ≤ sizeLine; omega, fun wl nwl => ⟨wl, rfl, upd_same, nwl, same_new (Same.refl H) nwl⟩⟩
    rintro σ' G ⟨wl, rfl, ewl, nwl, s0⟩
    have eonG := s0 _ _ eon
    refine ⟨fun σ' G' => ∃ (m : Nat) (y4 y5 y6 : Option V), σ' = [some (.ref kx), some (.ref on), some (.int (m : Nat)), some (.ref wl), y4, y5, y6, none] ∧ G' wl = some (.lst ((wayF M leaf Rs n).map V.str)) ∧ Same H G', ?_, ?_⟩
    · refine ⟨_, rfl, 1, rfl, on, _, rfl, .inl (.inl eonG), fun p np => ?_⟩
      have ec : cutV ((b :: ds).map V.ref) (some 1) none = ds.map V.ref := by
        unfold cutV
        rw [show (1 : Int) = ((1 : Nat) : Int) from rfl, HT.sIx_nat, HT.sIx_none]
        simp only [List.map_cons, List.length_cons, List.length_map, List.drop_succ_cons, List.drop_zero]
        rw [show min 1 (ds.length + 1) = 1 by omega, List.drop_succ_cons, List.drop_zero, List.take_of_length_le (by rw [List.length_map]; omega)]
      rw [ec]
      have s1 := same_new (o := .lst (ds.map V.ref)) s0 np
      have ep : (upd G p (.lst (ds.map V.ref))) p = some (.lst (ds.map V.ref)) := upd_same
      have ewl1 : (upd G p (.lst (ds.map V.ref))) wl = some (.lst [.str leaf]) := by rw [upd_ne (ne_of_none ewl np)]; exact ewl
      generalize upd G p (.lst (ds.map V.ref)) = G1 at s1 ep ewl1
      have npw : p ≠ wl := fun z => by rw [z, ewl] at np; cases np
      refine ⟨p, rfl, ⟨_, .inl (.inl ep)⟩, ?_⟩
      refine for_it (walk_list (K := K) (a := p) (xs := ds.map V.ref)) (fun j σ' G' => ∃ (m : Nat) (y4 y5 y6 : Option V) (ys : List Str) (y : Str) (R' : Row), σ' = [some (.ref kx), some (.ref on), some (.int (m : Nat)), some (.ref wl), y4, y5, y6, none] ∧ G' wl = some (.lst ((ys ++ [y]).map V.str)) ∧ ys.length = j ∧ ys ++ wayF M y (Rs.drop j) m = wayF M leaf Rs n ∧ ChainR N R' (Rs.drop j) ∧ m < getR R' y ∧ y ∈ ns ∧ SameX wl G1 G')
        ⟨n, none, none, none, [], leaf, R0, rfl, ewl1, rfl, rfl, hC, hn, (f6.n.mem leaf).mpr (.inl rfl), SameX.refl wl G1⟩ (fun j σ' G' _ h => by obtain ⟨_, _, _, _, _, _, _, _, _, _, _, _, _, _, sx⟩ := h; exact .inl (.inl (sx _ _ npw ep))) (fun j v σ' Gx G' hj h hy => ?_) (fun σ' G' h => ?_)
      · obtain ⟨m, y4, y5, y6, ys, y, R', rfl, eW, hys, hw, hCh, hm, hyn, sx⟩ := h
        obtain ⟨rfl, hv⟩ := hy
        have hv2 : (ds.map V.ref)[j]? = some v := hv
        rw [List.getElem?_map] at hv2
        obtain ⟨ra, hra, rfl⟩ := Option.map_eq_some_iff.mp hv2
        rw [List.length_map] at hj
        obtain ⟨R, hRj⟩ : ∃ R, Rs[j]? = some R := ⟨_, List.getElem?_eq_getElem (by omega)⟩
        have hdrop : Rs.drop j = R :: Rs.drop (j + 1) := by
          obtain ⟨h1, h2⟩ := List.getElem?_eq_some_iff.mp hRj
          rw [← h2]
          exact List.drop_eq_getElem_cons h1
        rw [hdrop] at hCh hw
        obtain ⟨c1, c2, c3⟩ := hCh
        rw [c1, open_users f6.v hD c2] at hm
        obtain ⟨i, u, k1, k2, k3, k4⟩ := walkN_some hm
        have sHG : Same H G' := fun b o e => sx _ _ (ne_of_none e nwl) (s1 _ _ e)
        have era := sHG _ _ (hR j ra R hra hRj)
        have hKG := hK.same sHG
        have hkG := sHG _ _ hk
        have luse : (usersK M y).length ≤ 6 := by
          unfold usersK
          rw [List.length_map]
          exact Nat.le_trans (List.length_filter_le _ _) f6.v.len
        -- the users that are there
        refine ⟨fun σ' G5 => ∃ ul : Addr, σ' = [some (.ref kx), some (.ref on), some (.int (m : Nat)), some (.ref wl), some (.ref ra), some (.ref ul), y6, none] ∧ G5 ul = some (.lst ((usersIn M y R).map V.str)) ∧ Same G' G5, ?_, ?_⟩
        · have hat : atI ((ys ++ [y]).map V.str) (-1) = some (.str y) := by
            unfold atI ixN
            rw [if_neg (by decide), List.length_map, List.length_append, List.length_singleton, if_pos (by omega)]
            show ((ys ++ [y]).map V.str)[(((ys.length + 1 : Nat) : Int) + -1).toNat]? = _
            rw [show (((ys.length + 1 : Nat) : Int) + -1).toNat = ys.length by omega, List.getElem?_map, List.getElem?_append_right (Nat.le_refl _), Nat.sub_self]
            rfl
          refine ⟨_, rfl, kx, dk, _, rfl, hkG, kf_no _ _ _ (by decide) (by decide) (by decide), _, rfl, _, rfl, wl, _, _, _, rfl, rfl, .inl (.inl eW), hat, kx, md, leaf, M, ns, y, rfl, hKG, f6.v, hyn, fun t G6 s6 et => ?_⟩
          refine ⟨t, rfl, ⟨_, .inl (.inl et)⟩, fun D hD' => ?_⟩
          refine lc_it (g := gName 7) (vs := [7]) (walk_tup (K := K) (a := t) (xs := (usersK M y).map V.str)) (fun k G7 => G7 D = some (.lst ((((usersK M y).take k).filter fun u => decide (u ∈ keysR R)).map V.str)) ∧ Same G6 G7)
            ⟨upd_same, same_new (Same.refl G6) hD'⟩ (fun k G7 _ h => .inl (.inl (h.2 _ _ et))) (fun k v Gx G7 hk7 h hy => ?_) (fun G7 h => ?_)
          · obtain ⟨eD, sm7⟩ := h
            obtain ⟨rfl, hv7⟩ := hy
            obtain ⟨x, hx, rfl⟩ := at_texts hv7
            refine ⟨rfl, _, rfl, _, rfl, ra, _, rfl, .inl ⟨_, Sum.inr x, .inl (sm7 _ _ (s6 _ _ era)), rfl, rfl⟩, ?_⟩
            rw [rowK_some, take_snoc hx, List.filter_append]
            refine ⟨_, rfl, ?_⟩
            by_cases c : x ∈ keysR R
            · have e0 : [x].filter (fun u => decide (u ∈ keysR R)) = [x] := by simp [c]
              rw [decide_eq_true c, e0]
              show (if true = true then _ else _)
              rw [if_pos rfl]
              refine ⟨_, rfl, _, eD, ?_, ?_, fun b o e => by rw [upd_ne (ne_of_none e hD')]; exact sm7 b o e⟩
              · rw [List.length_map]
                have h1 := List.length_filter_le (fun u => decide (u ∈ keysR R)) ((usersK M y).take k)
                rw [List.length_take] at h1
                omega
              · rw [upd_same, List.map_append]
                rfl
            · have e0 : [x].filter (fun u => decide (u ∈ keysR R)) = [] := by simp [c]
              rw [decide_eq_false c, e0, List.append_nil]
              show (if false = true then _ else _)
              rw [if_neg (by decide)]
              exact ⟨eD, sm7⟩
          · obtain ⟨eD, sm7⟩ := h
            rw [List.length_map, List.take_length] at eD
            exact ⟨D, rfl, eD, fun b o e => sm7 _ _ (s6 _ _ e)⟩
        rintro σ' G5 ⟨ul, rfl, eul, s5⟩
        -- from the first on
        refine ⟨fun σ' G6 => σ' = [some (.ref kx), some (.ref on), some (.int (m : Nat)), some (.ref wl), some (.ref ra), some (.ref ul), some (.int ((0 : Nat) : Int)), none] ∧ G6 = G5, ⟨rfl, rfl⟩, ?_⟩
        rintro σ' G6 ⟨rfl, rfl⟩
        have era6 := s5 _ _ era
        have eW6 := s5 _ _ eW
        have atU : ∀ k : Nat, ∀ x, (usersIn M y R)[k]? = some x → atI ((usersIn M y R).map V.str) ((k : Nat) : Int) = some (.str x) := fun k x hx => by
          unfold atI ixN
          have hk := (List.getElem?_eq_some_iff.mp hx).1
          rw [if_pos (by omega), List.length_map, if_pos (by omega)]
          show ((usersIn M y R).map V.str)[((k : Nat) : Int).toNat]? = _
          rw [Int.toNat_natCast, List.getElem?_map, hx]
          rfl
        have inR : ∀ x, x ∈ usersIn M y R → valV (rowK R) (Sum.inr x) = some (.int (getR R x : Nat)) := fun x hx => rowK_get (of_decide_eq_true (List.mem_filter.mp hx).2)
        have iL := (List.getElem?_eq_some_iff.mp k1).1
        refine ⟨fun σ' G6' => σ' = [some (.ref kx), some (.ref on), some (.int ((m - (((usersIn M y R).take i).map (getR R)).sum : Nat) : Int)), some (.ref wl), some (.ref ra), some (.ref ul), some (.int (i : Nat)), none] ∧ G6' = G6, ?_, ?_⟩
        · refine ⟨fun c σ' G6' => ∃ k : Nat, k + c = i ∧ σ' = [some (.ref kx), some (.ref on), some (.int ((m - (((usersIn M y R).take k).map (getR R)).sum : Nat) : Int)), some (.ref wl), some (.ref ra), some (.ref ul), some (.int (k : Nat)), none] ∧ G6' = G6, ⟨i, 0, by omega, rfl, rfl⟩, fun c σ' G7 hW => ?_⟩
          obtain ⟨k, hk, rfl, rfl⟩ := hW
          obtain ⟨x, hx⟩ : ∃ x, (usersIn M y R)[k]? = some x := ⟨_, List.getElem?_eq_getElem (by omega)⟩
          have hxm := List.mem_of_getElem? hx
          have hst := sum_take (getR R) _ _ _ hx
          refine ⟨_, rfl, _, rfl, _, rfl, _, rfl, ul, _, _, _, rfl, rfl, .inl (.inl eul), atU k x hx, ra, _, rfl, .inl ⟨_, Sum.inr x, .inl era6, rfl, (inR x hxm).symm⟩, _, _, rfl, rfl, _, rfl, ?_⟩
          refine ite2 (fun c0 => ?_) (fun c0 => ?_)
          · have c1 := of_decide_eq_true c0
            have ki : k < i := by
              refine Nat.lt_of_le_of_ne (by omega) fun e => ?_
              subst e
              rw [k1] at hx
              cases hx
              omega
            have hle := sum_take_le (getR R) (usersIn M y R) (k := k + 1) (i := i) (by omega)
            refine ⟨fun σ' G9 => ∃ c', c' < c ∧ ∃ k : Nat, k + c' = i ∧ σ' = [some (.ref kx), some (.ref on), some (.int ((m - (((usersIn M y R).take k).map (getR R)).sum : Nat) : Int)), some (.ref wl), some (.ref ra), some (.ref ul), some (.int (k : Nat)), none] ∧ G9 = G7, fun σ' G9 h => h, ?_⟩
            refine ⟨fun σ' G8 => σ' = [some (.ref kx), some (.ref on), some (.int ((m - (((usersIn M y R).take (k + 1)).map (getR R)).sum : Nat) : Int)), some (.ref wl), some (.ref ra), some (.ref ul), some (.int (k : Nat)), none] ∧ G8 = G7, ?_, ?_⟩
            · refine ⟨_, rfl, _, rfl, _, rfl, _, rfl, ul, _, _, _, rfl, rfl, .inl (.inl eul), atU k x hx, ra, _, rfl, .inl ⟨_, Sum.inr x, .inl era6, rfl, (inR x hxm).symm⟩, _, _, rfl, rfl, ?_⟩
              refine ⟨?_, rfl⟩
              rw [hst]
              have e9 : ((m - (((usersIn M y R).take k).map (getR R)).sum : Nat) : Int) - ((getR R x : Nat) : Int) = ((m - ((((usersIn M y R).take k).map (getR R)).sum + getR R x) : Nat) : Int) := by omega
              show [some (V.ref kx), some (V.ref on), some (V.int (((m - (((usersIn M y R).take k).map (getR R)).sum : Nat) : Int) - ((getR R x : Nat) : Int))), _, _, _, _, _] = _
              rw [e9]
            rintro σ' G8 ⟨rfl, rfl⟩
            refine ⟨_, rfl, _, _, rfl, rfl, c - 1, by omega, k + 1, by omega, rfl, rfl⟩
          · have c1 : ¬ _ := fun z => c0 (decide_eq_true z)
            have ki : k = i := by
              refine Nat.le_antisymm (by omega) (Nat.le_of_not_lt fun e => c1 ?_)
              have hle := sum_take_le (getR R) (usersIn M y R) (k := k + 1) (i := i) (by omega)
              omega
            subst ki
            exact ⟨rfl, rfl⟩
        rintro σ' G7 ⟨rfl, rfl⟩
        have hun : u ∈ ns := by
          obtain ⟨ps, hps, _⟩ := (users_mem f6.v.nd).mp (List.mem_filter.mp (List.mem_of_getElem? k1)).1
          exact (f6.n.mem u).mpr (.inr (List.mem_map.mpr ⟨_, lookM_some hps, rfl⟩))
        refine ⟨_, rfl, ⟨.inl ⟨rfl, _, .inl (.inl eW6)⟩, ?_⟩⟩
        refine ⟨_, rfl, _, rfl, ul, _, _, _, rfl, rfl, .inl (.inl eul), atU i u k1, ?_⟩
        refine ⟨wl, _, _, rfl, rfl, eW6, by rw [List.length_map, List.length_append, List.length_singleton]; omega, m - (((usersIn M y R).take i).map (getR R)).sum, _, _, _, ys ++ [y], u, R, rfl, ?_, by rw [List.length_append, List.length_singleton, hys], ?_, c3, k3, hun, (sx.trans (SameX.of s5)).atd⟩
        · rw [upd_same, List.map_append (l₁ := ys ++ [y])]
          rfl
        · rw [← hw, List.append_assoc]
          congr 1
          show y :: wayF M u (Rs.drop (j + 1)) _ = (match walkN (getR R) (usersIn M y R) m with | some (u, m) => y :: wayF M u (Rs.drop (j + 1)) m | none => [y])
          rw [k4]
      · obtain ⟨m, y4, y5, y6, ys, y, R', rfl, eW, hys, hw, hCh, hm, hyn, sx⟩ := h
        rw [List.length_map, hl, List.drop_length] at hw
        refine ⟨m, y4, y5, y6, rfl, ?_, fun b o e => sx _ _ (ne_of_none e nwl) (s1 _ _ e)⟩
        rw [eW, ← hw]
        rfl
    rintro σ' G' ⟨m, y4, y5, y6, rfl, eW, sm⟩
    refine ⟨_, rfl, wl, _, rfl, .inl ⟨.inl (.inl eW), fun p np => ?_⟩⟩
    exact q p _ (same_new sm np) upd_same
end
end Kl

set_option maxRecDepth 100000
set_option maxHeartbeats 4000000
namespace Kl
open PySem PySem.Spec PyProof.Rows L2 Gx Mx
theorem DedOf.unique {M N N' : Mak} (h : DedOf M N) (h' : DedOf M N') : N = N' := by
  unfold DedOf at h h'
  induction h generalizing N' with
  | nil => cases h'; rfl
  | @cons m n M N h _ ih =>
    cases h' with
    | @cons _ n' _ N'' g t =>
      rw [ih t]
      congr 1
      obtain ⟨a1, a2, a3, a4⟩ := h
      obtain ⟨b1, b2, b3, b4⟩ := g
      have e2 : n.2 = n'.2 := sorted_same a2 b2 a3 b3 fun z => by rw [a4, b4]
      exact Prod.ext (a1.trans b1.symm) e2
/-- the rows above rank 0 of the ways to a kind at a rank -/
def rowsW (N : Mak) (z : Str) : Nat → List Row
  | 0 => []
  | r + 1 => opR N z r :: rowsW N z r
theorem rowsW_len (N : Mak) (z : Str) : ∀ r, (rowsW N z r).length = r
  | 0 => rfl
  | r + 1 => by
    show (rowsW N z r).length + 1 = _
    rw [rowsW_len N z r]
theorem rowsW_at (N : Mak) (z : Str) : ∀ (r i : Nat), i < r → (rowsW N z r)[i]? = some (opR N z (r - 1 - i))
  | 0, i, h => absurd h (Nat.not_lt_zero _)
  | r + 1, 0, _ => rfl
  | r + 1, i + 1, h => by
    show (rowsW N z r)[i]? = _
    rw [rowsW_at N z r i (by omega), show r - 1 - i = r + 1 - 1 - (i + 1) by omega]
theorem rowsW_chain (N : Mak) (z : Str) : ∀ r, ChainR N (opR N z r) (rowsW N z r)
  | 0 => trivial
  | r + 1 => ⟨rfl, opR_nd r, rowsW_chain N z r⟩
theorem siz_in {leaf : Str} {M : Mak} {r n : Nat} {z : Str} (h : n < siz leaf M r z) : z ∈ setR leaf M r := by
  by_cases c : z ∈ setR leaf M r
  · exact c
  · unfold siz getR at h
    rw [lookR_no (show z ∉ keysR (rowsR leaf M r) from c)] at h
    exact absurd h (Nat.not_lt_zero _)
section
variable {P : Program} {w : World} {K : PySem.W.Frag} {mg : Str → Option Value} {base : Heap}
theorem rf_ways (kx bl : Addr) (t : Nat) (pl sl wl : Addr) : List.lookup ("_ways" : Str) (rf kx bl t pl sl wl) = some (.ref wl) := by
  have h1 : (("_ways" : Str) == "_kinds") = false := by decide +kernel
  have h2 : (("_ways" : Str) == "_by_rank") = false := by decide +kernel
  have h3 : (("_ways" : Str) == "_turn") = false := by decide +kernel
  have h4 : (("_ways" : Str) == "_parts_of") = false := by decide +kernel
  have h5 : (("_ways" : Str) == "_sizes") = false := by decide +kernel
  simp [List.lookup, h1, h2, h3, h4, h5]
theorem rf_parts (kx bl : Addr) (t : Nat) (pl sl wl : Addr) : List.lookup ("_parts_of" : Str) (rf kx bl t pl sl wl) = some (.ref pl) := by
  have h1 : (("_parts_of" : Str) == "_kinds") = false := by decide +kernel
  have h2 : (("_parts_of" : Str) == "_by_rank") = false := by decide +kernel
  have h3 : (("_parts_of" : Str) == "_turn") = false := by decide +kernel
  simp [List.lookup, h1, h2, h3]
/-! ### ways_to, some_way -/
def spRWays (C R : Addr) : Sp := fun vs H Q _ => ∃ x kx md leaf M ns L t, ∃ (N : Mak) (z : Str) (r : Nat), vs = [V.ref x, V.str z, V.int (r : Nat)] ∧ RanksAt C R H x kx md leaf M ns L t ∧ Fin6 leaf M ns ∧ DedOf M N ∧ z ∈ ns ∧ r ≤ 402 ∧ Q (.int (siz leaf N r z : Nat)) H
theorem ok_rways {C R f : Addr} {fd : FuncData} (F : Fun K "ways_to" "Ranks.ways_to" s_Ranks_ways_to f fd) (T : Top K mg) (TC : Cl_Kinds K mg C) (TR : Cl_Ranks K mg R) : FnOk P w K mg base CX0 5 f fd ["self", "name", "rank"] (spRWays C R) := by
  obtain ⟨tm, gm⟩ := T.g_MAX_RANK
  have cp : Cal P w K mg base 4 "_check_place" ["kinds", "name", "rank"] (spChkP C) := T.d_check_place.cal fun f fd F => ok_chkP F T TC
  refine F.ok sc_Ranks_ways_to (fun vs H Q E h => ?_) (fun cdv A outer s H vs Q E hr h => ?_)
  · obtain ⟨x, kx, md, leaf, M, ns, L, t, N, z, r, rfl, _⟩ := h
    rfl
  · obtain ⟨x, kx, md, leaf, M, ns, L, t, N, z, r, rfl, hR, f6, hD, hz, hr2, q⟩ := h
    have hu := hu_of hr
    refine ⟨_, pss_cons (ps_expr (pe_cal cp hr (by rfl) (pa_cons (pe_fld (pv 0) rfl) (pa_cons (pv 1) (pa_cons (pv 2) pa_nil)))))
      (pss_cons (ps_if (pt_cmpR op_gt (pv 2) (pe_glob (v := .int 402) (by rfl) gm ⟨_, rfl⟩) (nomark _)) (pss_one ps_never) pss_nil)
      (pss_one (ps_ret (pe_dget2 hu (pe_ix ix_list (pe_fld (pv 0) rfl) (pv 2) (fun _ _ => rfl)) (pv 1) pe_int (by constructor <;> rfl))))), ?_⟩
    obtain ⟨dx, bl, pl, sl, wl, es, ds, hx, hk, hb, hl, hS, hsl, hdl, hRow, kvL, N', ws, hpl, hPL, hD', hwl, hws, hRW⟩ := id hR
    rw [hD'.unique hD] at hRW
    refine ⟨_, rfl, x, R, dx, _, _, rfl, hx, TR.cl, TR.n_kinds, rf_kinds _ _ _ _ _ _, _, rfl, _, rfl, kx, md, leaf, M, ns, z, (r : Nat), rfl, hk, f6, hz, by omega, by unfold TEN60; omega, ?_⟩
    refine ⟨_, rfl, _, _, rfl, rfl, ?_⟩
    refine ⟨_, rfl, ?_⟩
    refine ite2 (fun c0 => ?_) (fun c0 => ?_)
    · exfalso
      have := of_decide_eq_true c0
      omega
    have hj : r < ws.length := by omega
    have hrow := hRW r _ (List.getElem?_eq_getElem hj)
    refine ⟨_, rfl, x, R, dx, _, _, rfl, hx, TR.cl, TR.n_ways, rf_ways _ _ _ _ _ _, _, rfl, wl, _, _, .ref ws[r], rfl, rfl, .inl (.inl hwl), ?_, ws[r], rfl, .inl ⟨_, .inl hrow⟩, _, rfl, valV (rowK (rowsR leaf N r)) (Sum.inr z), .inl ⟨_, Sum.inr z, .inl hrow, rfl, rfl⟩, ?_⟩
    · unfold atI ixN
      rw [if_pos (by omega), List.length_map, if_pos (by omega)]
      show (ws.map V.ref)[((r : Nat) : Int).toNat]? = _
      rw [Int.toNat_natCast, List.getElem?_map, List.getElem?_eq_getElem hj]
      rfl
    · rw [rowK_look]
      unfold siz getR at q
      cases e : lookR (rowsR leaf N r) z with
      | none =>
        rw [e] at q
        exact q
      | some n =>
        rw [e] at q
        exact q
def spRSome (C R : Addr) : Sp := fun vs H Q _ => ∃ x kx md leaf M ns L t, ∃ (N : Mak) (z : Str) (r n : Nat), vs = [V.ref x, V.str z, V.int (r : Nat), V.int (n : Nat)] ∧ RanksAt C R H x kx md leaf M ns L t ∧ Fin6 leaf M ns ∧ DedOf M N ∧ z ∈ ns ∧ r ≤ 402 ∧ n < siz leaf N r z ∧ ((n : Nat) : Int) < TEN60 ∧
  ∀ p H', Same H H' → H' p = some (.tup ((wayF M leaf (rowsW N z r) n).map V.str)) → Q (.ref p) H'
theorem ok_rsome {C R f : Addr} {fd : FuncData} (F : Fun K "some_way" "Ranks.some_way" s_Ranks_some_way f fd) (T : Top K mg) (TC : Cl_Kinds K mg C) (TR : Cl_Ranks K mg R) : FnOk P w K mg base CX0 6 f fd ["self", "name", "rank", "number"] (spRSome C R) := by
  have cp : Cal P w K mg base 5 "_check_place" ["kinds", "name", "rank"] (spChkP C) := (T.d_check_place.cal fun f fd F => ok_chkP F T TC).mono (by decide)
  have cc : Cal P w K mg base 5 "is_count" ["value"] (spCnt K) := (T.d_is_count.cal fun f fd F => ok_cnt F T).mono (by decide)
  have cw : Cal P w K mg base 5 "_ways_onward" ["parts_of", "names", "rank"] spWO := (T.d_ways_onward.cal fun f fd F => ok_wo F T).mono (by decide)
  have cn : Cal P w K mg base 5 "_way_numbered" ["kinds", "onward", "number"] (spWN C) := (T.d_way_numbered.cal fun f fd F => ok_wn F T TC).mono (by decide)
  have rWays : CalM P w K mg base R "ways_to" 5 ["self", "name", "rank"] (spRWays C R) := TR.m_ways_to.cal fun f fd F => ok_rways F T TC TR
  refine F.ok sc_Ranks_some_way (fun vs H Q E h => ?_) (fun cdv A outer s H vs Q E hr h => ?_)
  · obtain ⟨x, kx, md, leaf, M, ns, L, t, N, z, r, n, rfl, _⟩ := h
    rfl
  · obtain ⟨x, kx, md, leaf, M, ns, L, t, N, z, r, n, rfl, hR, f6, hD, hz, hr2, hn, hn60, q⟩ := h
    refine ⟨_, pss_cons (ps_expr (pe_cal cp hr (by rfl) (pa_cons (pe_fld (pv 0) rfl) (pa_cons (pv 1) (pa_cons (pv 2) pa_nil)))))
      (pss_cons (ps_if (pt_not (pt_val (pe_cal cc hr (by rfl) (pa_cons (pv 3) pa_nil)))) (pss_one ps_never) pss_nil)
      (pss_cons (ps_if (pt_cmpR op_ge (pv 3) (pe_methC (pl := _) (pv 0) TR.cl rWays hr (pa_cons (pv 1) (pa_cons (pv 2) pa_nil))) (nomark _)) (pss_one ps_never) pss_nil)
      (pss_one (ps_ret (pe_cal cn hr (by rfl) (pa_cons (pe_fld (pv 0) rfl) (pa_cons (pe_cal cw hr (by rfl) (pa_cons (pe_fld (pv 0) rfl) (pa_cons (pe_tup (pa_cons (pv 1) pa_nil)) (pa_cons (pv 2) pa_nil)))) (pa_cons (pv 3) pa_nil)))))))), ?_⟩
    obtain ⟨dx, bl, pl, sl, wl, es, ds0, hx, hk, hb, hl, hS, hsl, hdl, hRow, kvL, N', ws, hpl, hPL, hD', hwl, hws, hRW⟩ := id hR
    have eN := hD'.unique hD
    subst eN
    have nem := hD'.nem f6.v
    have hzr := siz_in hn
    obtain ⟨hc, _, _⟩ := opn_mem (leaf := leaf) nem.nd (z := z) (n := r) (m := 0) hzr
    refine ⟨_, rfl, x, R, dx, _, _, rfl, hx, TR.cl, TR.n_kinds, rf_kinds _ _ _ _ _ _, _, rfl, _, rfl, kx, md, leaf, M, ns, z, (r : Nat), rfl, hk, f6, hz, by omega, by unfold TEN60; omega, ?_⟩
    refine ⟨_, rfl, .int (n : Nat), rfl, .inl ⟨(n : Nat), rfl⟩, _, rfl, ?_⟩
    rw [cnt_ok (by omega) hn60]
    show (if (!true) = true then _ else _)
    rw [if_neg (by decide)]
    refine ⟨_, rfl, _, rfl, x, dx, _, rfl, hx, rf_no _ _ _ _ _ _ (by decide) (by decide) (by decide) (by decide) (by decide) (by decide), _, rfl, _, rfl, x, kx, md, leaf, M, ns, L, t, N', z, r, rfl, hR, f6, hD', hz, hr2, _, _, rfl, rfl, _, rfl, ?_⟩
    refine ite2 (fun c0 => ?_) (fun c0 => ?_)
    · exfalso
      have := of_decide_eq_true c0
      omega
    refine ⟨_, rfl, x, R, dx, _, _, rfl, hx, TR.cl, TR.n_kinds, rf_kinds _ _ _ _ _ _, _, rfl, x, R, dx, _, _, rfl, hx, TR.cl, TR.n_parts_of, rf_parts _ _ _ _ _ _, _, rfl, by show 1 ≤ sizeLine; decide, fun nm nnm => ?_⟩
    have s1 := same_new (o := .tup [.str z]) (Same.refl H) nnm
    refine ⟨_, rfl, pl, nm, kvL, leaf, z, M, N', r, rfl, hr2, s1 _ _ hpl, hPL.imp fun _ _ e => s1 _ _ e, f6.v, hD', upd_same, hc, fun p ds H2 s2 ep hld hOp => ?_⟩
    have s12 : Same H H2 := fun b o e => s2 _ _ (s1 _ _ e)
    obtain ⟨b, ds', eds⟩ : ∃ b ds', ds.reverse = b :: ds' := by
      cases e : ds.reverse with
      | nil =>
        have := congrArg List.length e
        rw [List.length_reverse, hld] at this
        cases this
      | cons b ds' => exact ⟨b, ds', rfl⟩
    have l' : ds'.length = r := by
      have := congrArg List.length eds
      rw [List.length_reverse, hld, List.length_cons] at this
      omega
    rw [eds] at ep
    refine ⟨_, rfl, kx, p, md, b, leaf, M, N', ns, opR N' z r, rowsW N' z r, ds', n, rfl, hk.same s12, f6, hD', ep, by rw [rowsW_len, l'], by rw [rowsW_len]; exact hr2, fun i a R' ha hR' => ?_, rowsW_chain N' z r, ?_, fun p' H3 s3 ep' => q p' H3 (fun b o e => s3 _ _ (s12 _ _ e)) ep'⟩
    · have hi : i < r := by
        have := (List.getElem?_eq_some_iff.mp ha).1
        omega
      rw [rowsW_at N' z r i hi] at hR'
      cases hR'
      have e2 : ds.reverse[i + 1]? = some a := by rw [eds]; exact ha
      rw [List.getElem?_reverse (by omega), hld] at e2
      have := hOp _ a e2
      rwa [show r + 1 - 1 - (i + 1) = r - 1 - i by omega] at this
    · rw [leaves_n nem hzr, getR_cons, if_pos rfl]
      exact hn
end
end Kl

set_option maxRecDepth 100000
set_option maxHeartbeats 4000000
namespace Kl
open PySem PySem.Spec PyProof.Rows L2 Gx Mx
/-! ### tuples of texts: their order, < and sorted -/
def ltT : List Str → List Str → Bool
  | [], [] => false
  | [], _ :: _ => true
  | _ :: _, [] => false
  | x :: xs, y :: ys => if x = y then ltT xs ys else ltCps x.cps.toList y.cps.toList
theorem alike_texts : ∀ xs ys : List Str, PySem.W.alikeAll (tD xs) (tD ys) = true
  | [], _ => by simp [tD, PySem.W.alikeAll]
  | _ :: _, [] => by simp [tD, PySem.W.alikeAll]
  | x :: xs, y :: ys => by
    have ih := alike_texts xs ys
    unfold tD at ih ⊢
    rw [List.map_cons, List.map_cons, PySem.W.alikeAll, ih]
    simp [PySem.W.alike]
theorem lt_texts : ∀ xs ys : List Str, PySem.W.dataLt (.tuple (tD xs)) (.tuple (tD ys)) = ltT xs ys
  | [], [] => by
    rw [PySem.W.dataLt_tuple]
    exact lex_irrefl _
  | [], y :: ys => by
    rw [PySem.W.dataLt_tuple]
    unfold tD
    rw [List.map_nil, List.map_cons, PySem.W.keyToksAll, PySem.W.keyToksAll, PyProof.Rows.lex_diff (by decide)]
    rfl
  | x :: xs, [] => by
    rw [PySem.W.dataLt_tuple]
    unfold tD
    rw [List.map_nil, List.map_cons, PySem.W.keyToksAll, PySem.W.keyToksAll, PyProof.Rows.lex_diff (by decide)]
    rfl
  | x :: xs, y :: ys => by
    have ih := lt_texts xs ys
    rw [PySem.W.dataLt_tuple] at ih ⊢
    have al : PySem.W.alike (.str x) (.str y) = true := rfl
    unfold ltT
    by_cases e : x = y
    · subst e
      rw [if_pos rfl, ← ih]
      exact PySem.W.dataLt_all_yes al (by simp [PyData.eqv])
    · rw [if_neg e]
      have h := PySem.W.dataLt_all_no (xs := tD xs) (ys := tD ys) al (show PyData.eqv (.str x) (.str y) = false by simp [PyData.eqv, e])
      exact h.trans (by rw [PySem.W.dataLt_str, ltCps_eq])
theorem ltT_irrefl : ∀ xs : List Str, ltT xs xs = false
  | [] => rfl
  | x :: xs => by
    unfold ltT
    rw [if_pos rfl, ltT_irrefl xs]
theorem cps_total {x y : Str} (n : x ≠ y) (h : ltCps x.cps.toList y.cps.toList = false) : ltCps y.cps.toList x.cps.toList = true := by
  cases e : ltCps y.cps.toList x.cps.toList with
  | true => rfl
  | false => exact absurd (leS_anti ((leS_iff x y).mpr e) ((leS_iff y x).mpr h)) n
theorem cps_trans {x y z : Str} (h1 : ltCps x.cps.toList y.cps.toList = true) (h2 : ltCps y.cps.toList z.cps.toList = true) : ltCps x.cps.toList z.cps.toList = true := by
  rw [ltCps_eq, decide_eq_true_iff] at h1 h2 ⊢
  exact List.lt_trans h1 h2
theorem cps_irrefl (x : Str) : ltCps x.cps.toList x.cps.toList = false := (leS_iff x x).mp (leS_refl x)
theorem ltT_total : ∀ xs ys : List Str, ltT xs ys = true ∨ xs = ys ∨ ltT ys xs = true
  | [], [] => .inr (.inl rfl)
  | [], _ :: _ => .inl rfl
  | _ :: _, [] => .inr (.inr rfl)
  | x :: xs, y :: ys => by
    unfold ltT
    by_cases e : x = y
    · subst e
      rw [if_pos rfl, if_pos rfl]
      rcases ltT_total xs ys with h | h | h
      · exact .inl h
      · exact .inr (.inl (by rw [h]))
      · exact .inr (.inr h)
    · rw [if_neg e, if_neg fun q => e q.symm]
      cases c : ltCps x.cps.toList y.cps.toList with
      | true => exact .inl rfl
      | false => exact .inr (.inr (cps_total e c))
theorem ltT_trans : ∀ xs ys zs : List Str, ltT xs ys = true → ltT ys zs = true → ltT xs zs = true
  | [], [], _, h, _ => nomatch h
  | [], _ :: _, [], _, h => nomatch h
  | [], _ :: _, _ :: _, _, _ => rfl
  | _ :: _, [], _, h, _ => nomatch h
  | _ :: _, _ :: _, [], _, h => nomatch h
  | x :: xs, y :: ys, z :: zs, h1, h2 => by
    unfold ltT at h1 h2 ⊢
    by_cases e : x = y
    · subst e
      rw [if_pos rfl] at h1
      by_cases e2 : x = z
      · subst e2
        rw [if_pos rfl] at h2 ⊢
        exact ltT_trans xs ys zs h1 h2
      · rw [if_neg e2] at h2 ⊢
        exact h2
    · rw [if_neg e] at h1
      by_cases e2 : y = z
      · subst e2
        rw [if_neg e]
        exact h1
      · rw [if_neg e2] at h2
        have h3 := cps_trans h1 h2
        by_cases e3 : x = z
        · subst e3
          rw [cps_irrefl] at h3
          cases h3
        · rw [if_neg e3]
          exact h3
theorem ltT_asym {xs ys : List Str} (h : ltT xs ys = true) : ltT ys xs = false := by
  cases e : ltT ys xs with
  | false => rfl
  | true =>
    have := ltT_trans _ _ _ h e
    rw [ltT_irrefl] at this
    cases this
theorem leT_trans {xs ys zs : List Str} (h1 : ltT ys xs = false) (h2 : ltT zs ys = false) : ltT zs xs = false := by
  cases e : ltT zs xs with
  | false => rfl
  | true =>
    rcases ltT_total ys xs with h | h | h
    · rw [h] at h1; cases h1
    · rw [← h, h2] at e
      cases e
    · rw [ltT_trans _ _ _ e h] at h2
      cases h2
section
variable {X : Cx}
def rLtTT (K : PySem.W.Frag) : R2 := fun x y H Q => ∃ a b xs ys, x = .ref a ∧ y = .ref b ∧ SqT K H a (xs.map V.str) ∧ SqT K H b (ys.map V.str) ∧ Q (.bl (ltT xs ys)) H
theorem op_ltTT (hu : X.A.units + 64 < cLine) : OpR X (compareOp .Lt) (rLtTT X.K) := by
  intro pins s σ H x y v u Q I rx ry h
  obtain ⟨a, b, xs, ys, rfl, rfl, ha, hb, q⟩ := h
  obtain ⟨as, r1⟩ := Dp.reads I (.tuple (tD xs)) _ _ (.tup ha (dp_texts xs)) rx
  obtain ⟨bs, r2⟩ := Dp.reads I (.tuple (tD ys)) _ _ (.tup hb (dp_texts ys)) ry
  have h1 := PySem.W.rcLt_alike (.tuple (tD xs)) (.tuple (tD ys)) X.A s v u as bs r1 r2 (by simp only [PySem.W.alike]; exact alike_texts xs ys) nofun (by
    have := depth_texts xs
    simp only [PyData.depth]
    omega)
  rw [lt_texts] at h1
  exact h1 _ _ _ _ ⟨.bl (ltT xs ys), H, I, rfl, q⟩
def rSortTT (K : PySem.W.Frag) : List V → Hp → VK → Prop := fun vs H Q => ∃ (a : Addr) (L : List (Addr × List Str)), vs = [V.ref a] ∧ SqL K H a (L.map fun p => V.ref p.1) ∧ L.length ≤ 100000 ∧ (∀ p ∈ L, SqT K H p.1 (p.2.map V.str) ∧ p.2 ≠ []) ∧
  ∀ (L' : List (Addr × List Str)) (p : Addr), L'.Perm L → L'.Pairwise (fun a b => ltT b.2 a.2 = false) → H p = none → Q (.ref p) (upd H p (.lst (L'.map fun p => V.ref p.1)))
theorem each_of {K : PySem.W.Frag} : ∀ {L : List (Addr × List Str)} {us : List Value}, Vals (L.map fun p => V.ref p.1) us → PySem.W.EachIs (fun v b => v = Value.ref b.1) us L
  | [], _, .nil => .nil
  | p :: L, _, .cons h t => .cons h (each_of (K := K) t)
theorem vals_of : ∀ {L : List (Addr × List Str)} {us : List Value}, PySem.W.EachIs (fun v b => v = Value.ref b.1) us L → Vals (L.map fun p => V.ref p.1) us
  | [], _, .nil => .nil
  | p :: L, _, .cons h t => .cons h (vals_of t)
theorem cr_sortedTT (hu : X.A.units + 64 < cLine) : CallR X (.builtin "sorted") (rSortTT X.K) := by
  intro pins s σ H vs us Q I r h
  obtain ⟨a, L, rfl, hs, hL, hp, q⟩ := h
  obtain ⟨its, rv, hl, _⟩ := I.list hs
  rw [Vals.ref1 r]
  have big : 100000 ≤ sizeLine := by decide
  have e := each_of (K := X.K) rv
  refine PySem.W.sorted_data (R := fun v b => v = Value.ref b.1) (bs := L) (enc := fun b => .tuple (tD b.2)) hl.isList e ?_ ?_ ?_ (Nat.le_trans hL big) (fun b hb => ?_) fun out h1 h2 => ?_
  · have er : ∀ {vs : List Value} {bs : List (Addr × List Str)}, PySem.W.EachIs (fun v b => v = Value.ref b.1) vs bs → (∀ p ∈ bs, SqT X.K H p.1 (p.2.map V.str)) → PySem.W.EachIs (fun v b => ∃ as, Reads s.heap v (.tuple (tD b.2)) as) vs bs := by
      intro vs bs e
      induction e with
      | nil => exact fun _ => .nil
      | @cons v b vs bs h _ ih =>
        intro hq
        refine .cons ?_ (ih fun p hp => hq p (List.mem_cons_of_mem _ hp))
        exact Dp.reads I (.tuple (tD b.2)) (.ref b.1) v (.tup (hq b List.mem_cons_self) (dp_texts b.2)) h
    exact er e fun p h => (hp p h).1
  · exact PySem.W.AllAlike.of fun b b' => by
      simp only [PySem.W.alike]
      exact alike_texts b.2 b'.2
  · refine .inl fun d hd => ?_
    obtain ⟨b, hb, rfl⟩ := List.mem_map.mp hd
    cases e2 : b.2 with
    | nil => exact absurd e2 (hp b hb).2
    | cons x r => exact ⟨.str x, tD r, by unfold tD; rfl⟩
  · have := depth_texts b.2
    simp only [PyData.depth]
    omega
  · have hperm : (L.mergeSort (PySem.W.dataLe false fun b => .tuple (tD b.2))).Perm L := List.mergeSort_perm _ _
    have ele : ∀ a b : Addr × List Str, PySem.W.dataLe false (fun b : Addr × List Str => PyData.tuple (tD b.2)) a b = !ltT b.2 a.2 := fun a b => by
      rw [PySem.W.dataLe_eq]
      show (!PySem.W.dataLt (.tuple (tD b.2)) (.tuple (tD a.2))) = _
      rw [lt_texts]
    have hsrt := List.pairwise_mergeSort (le := PySem.W.dataLe false fun b : Addr × List Str => PyData.tuple (tD b.2)) (fun a b c h1 h2 => by
      rw [ele, Bool.not_eq_true'] at h1 h2 ⊢
      exact leT_trans h1 h2) (fun a b => by
      rw [ele, ele]
      cases e : ltT b.2 a.2 with
      | false => rfl
      | true => rw [ltT_asym e]; rfl) L
    generalize L.mergeSort (PySem.W.dataLe false fun b => .tuple (tD b.2)) = L' at h2 hperm hsrt
    obtain ⟨ep, he'⟩ := PyProof.Rows.sortedAll_at s.heap its out.toArray
    have hlen : (L'.map fun p => V.ref p.1).length ≤ sizeLine := by rw [List.length_map, hperm.length_eq]; omega
    exact ⟨.ref _, upd H (s.heap.objs.size + 1) (.lst (L'.map fun p => V.ref p.1)), I.laid (t' := s.toks) (fun _ _ => PyProof.Rows.sortedAll_old) (Nat.le_succ _) ⟨hlen, out, ep, vals_of h2, by simpa using he'⟩, rfl, q L' _ hperm (hsrt.imp fun {a b} h => by rw [ele] at h; simpa using h) (I.hok.fresh (Nat.le_succ _))⟩
end
end Kl

set_option maxRecDepth 100000
set_option maxHeartbeats 4000000
namespace Kl
open PySem PySem.Spec PyProof.Rows L2 Gx Mx
/-! ### ways are numbered in their order: the mathematics -/
abbrev lt1 (x y : Str) : Bool := ltCps x.cps.toList y.cps.toList
theorem sum_zero {p : Str → Bool} {g : Str → Nat} : ∀ {l : List Str}, (∀ x ∈ l, p x = false → g x = 0) → (l.map g).sum = ((l.filter p).map g).sum
  | [], _ => rfl
  | x :: l, h => by
    have ih := sum_zero (p := p) (g := g) (l := l) fun y hy => h y (List.mem_cons_of_mem _ hy)
    rw [List.map_cons, List.sum_cons, ih, List.filter_cons]
    by_cases c : p x = true
    · rw [if_pos c, List.map_cons, List.sum_cons]
    · rw [if_neg c, h x List.mem_cons_self (by simpa using c), Nat.zero_add]
theorem strict_of {l : List Str} (s : sortedS l = true) (nd : l.Nodup) : l.Pairwise fun a b => lt1 a b = true := by
  have h1 := (sortedS_iff l).mp s
  have h2 : l.Pairwise (· ≠ ·) := nd
  refine (h1.and h2).imp fun {a b} h => ?_
  exact cps_total (fun e => h.2 e.symm) ((leS_iff a b).mp h.1)
theorem take_less : ∀ {l : List Str} {i : Nat} {u : Str}, l.Pairwise (fun a b => lt1 a b = true) → l[i]? = some u → l.take i = l.filter fun x => lt1 x u
  | [], i, u, _, h => by cases h
  | x :: l, 0, u, hp, h => by
    cases h
    rw [List.take_zero]
    refine (List.filter_eq_nil_iff.mpr fun y hy => ?_).symm
    rcases List.mem_cons.mp hy with rfl | hy
    · rw [show lt1 y y = false from cps_irrefl y]
      exact Bool.false_ne_true
    · have h1 := (List.pairwise_cons.mp hp).1 y hy
      intro h2
      have h3 := cps_trans h1 h2
      rw [cps_irrefl] at h3
      cases h3
  | x :: l, i + 1, u, hp, h => by
    obtain ⟨h1, h2⟩ := List.pairwise_cons.mp hp
    have hu : u ∈ l := List.mem_of_getElem? (show l[i]? = some u from h)
    rw [List.take_succ_cons, take_less h2 (show l[i]? = some u from h), List.filter_cons, if_pos (h1 u hu)]
/-- how many ways lie ahead of a way -/
def numW (M : Mak) : List Str → List Row → Nat
  | y :: u :: l, R :: Rs => (((usersK M y).filter fun x => lt1 x u).map (getR R)).sum + numW M (u :: l) Rs
  | _, _ => 0
theorem users_srt {M : Mak} (s : sortedS (keysOf M) = true) (y : Str) : sortedS (usersK M y) = true := by
  unfold usersK
  exact sortedS_sub s (List.Sublist.map _ List.filter_sublist)
theorem wayF_head (M : Mak) (y : Str) (Rs : List Row) (n : Nat) : ∃ l, wayF M y Rs n = y :: l := by
  cases Rs with
  | nil => exact ⟨[], rfl⟩
  | cons R Rs =>
    unfold wayF
    cases walkN (getR R) (usersIn M y R) n with
    | none => exact ⟨[], rfl⟩
    | some p => exact ⟨_, rfl⟩
theorem wayF_step {M : Mak} {y u : Str} {R : Row} {Rs : List Row} {n m : Nat} (h : walkN (getR R) (usersIn M y R) n = some (u, m)) : wayF M y (R :: Rs) n = y :: wayF M u Rs m := by
  show (match walkN (getR R) (usersIn M y R) n with | some (u, m) => y :: wayF M u Rs m | none => [y]) = _
  rw [h]
/-- each row but the last one is the next one opened, and the last one has each kind once -/
def LastOne (R0 : Row) (Rs : List Row) : Prop := ∀ R y, (R0 :: Rs).getLast? = some R → getR R y ≤ 1
theorem LastOne.tail {R0 R : Row} {Rs : List Row} (h : LastOne R0 (R :: Rs)) : LastOne R Rs := fun R' y e => h R' y (by rw [List.getLast?_cons_cons]; exact e)
theorem num_way {leaf : Str} {M N : Mak} (v : Vld leaf M) (s : sortedS (keysOf M) = true) (hD : DedOf M N) : ∀ (Rs : List Row) (R0 : Row) (y : Str) (n : Nat), ChainR N R0 Rs → LastOne R0 Rs → n < getR R0 y → numW M (wayF M y Rs n) Rs = n
  | [], R0, y, n, _, hl, hn => by
    have := hl R0 y rfl
    show 0 = n
    omega
  | R :: Rs, R0, y, n, hc, hl, hn => by
    obtain ⟨h1, h2, h3⟩ := hc
    rw [h1, open_users v hD h2] at hn
    obtain ⟨i, u, k1, k2, k3, k4⟩ := walkN_some hn
    have ih := num_way v s hD Rs R u _ h3 hl.tail k3
    rw [wayF_step k4]
    obtain ⟨l, hw⟩ := wayF_head M u Rs (n - (((usersIn M y R).take i).map (getR R)).sum)
    rw [hw] at ih ⊢
    show (((usersK M y).filter fun x => lt1 x u).map (getR R)).sum + numW M (u :: l) Rs = n
    rw [ih]
    have e : (((usersK M y).filter fun x => lt1 x u).map (getR R)).sum = (((usersIn M y R).take i).map (getR R)).sum := by
      have hst : (usersIn M y R).Pairwise fun a b => lt1 a b = true := by
        unfold usersIn
        exact (strict_of (users_srt s y) (users_nd v.nd y)).sublist List.filter_sublist
      rw [take_less hst k1]
      unfold usersIn
      rw [List.filter_filter, sum_zero (p := fun x => decide (x ∈ keysR R)) (l := (usersK M y).filter fun x => lt1 x u) fun x _ hx => getR_no (of_decide_eq_false hx), List.filter_filter]
      congr 2
      refine List.filter_congr fun x _ => ?_
      rw [Bool.and_comm]
    omega
theorem way_less {leaf : Str} {M N : Mak} (v : Vld leaf M) (s : sortedS (keysOf M) = true) (hD : DedOf M N) : ∀ (Rs : List Row) (R0 : Row) (y : Str) (n n' : Nat), ChainR N R0 Rs → LastOne R0 Rs → n < n' → n' < getR R0 y → ltT (wayF M y Rs n) (wayF M y Rs n') = true
  | [], R0, y, n, n', _, hl, hn, hn' => by
    have := hl R0 y rfl
    omega
  | R :: Rs, R0, y, n, n', hc, hl, hn, hn' => by
    obtain ⟨h1, h2, h3⟩ := hc
    rw [h1, open_users v hD h2] at hn'
    obtain ⟨i, u, k1, k2, k3, k4⟩ := walkN_some (g := getR R) (us := usersIn M y R) (n := n) (by omega)
    obtain ⟨i', u', j1, j2, j3, j4⟩ := walkN_some hn'
    have hst : (usersIn M y R).Pairwise fun a b => lt1 a b = true := by
      unfold usersIn
      exact (strict_of (users_srt s y) (users_nd v.nd y)).sublist List.filter_sublist
    have mono : ∀ a b : Nat, a ≤ b → (((usersIn M y R).take a).map (getR R)).sum ≤ (((usersIn M y R).take b).map (getR R)).sum := fun a b h => by
      exact sum_take_le (getR R) _ h
    have st := sum_take (getR R) _ _ _ k1
    have st' := sum_take (getR R) _ _ _ j1
    rw [wayF_step k4, wayF_step j4]
    show (if y = y then ltT (wayF M u Rs _) (wayF M u' Rs _) else _) = true
    rw [if_pos rfl]
    rcases Nat.lt_trichotomy i i' with c | c | c
    · have hlt : lt1 u u' = true := by
        obtain ⟨a1, a2⟩ := List.getElem?_eq_some_iff.mp k1
        obtain ⟨b1, b2⟩ := List.getElem?_eq_some_iff.mp j1
        have := List.pairwise_iff_getElem.mp hst i i' a1 b1 c
        rwa [a2, b2] at this
      have ne : u ≠ u' := fun e => by
        rw [e, show lt1 u' u' = false from cps_irrefl u'] at hlt
        cases hlt
      obtain ⟨l, hw⟩ := wayF_head M u Rs (n - (((usersIn M y R).take i).map (getR R)).sum)
      obtain ⟨l', hw'⟩ := wayF_head M u' Rs (n' - (((usersIn M y R).take i').map (getR R)).sum)
      rw [hw, hw']
      show (if u = u' then _ else lt1 u u') = true
      rw [if_neg ne]
      exact hlt
    · subst c
      rw [k1] at j1
      cases j1
      exact way_less v s hD Rs R u _ _ h3 hl.tail (by omega) j3
    · have := mono (i' + 1) i (by omega)
      omega
theorem rowsW_last (N : Mak) (z : Str) : ∀ r, LastOne (opR N z r) (rowsW N z r)
  | 0 => fun R y h => by
    cases h
    show getR [(z, 1)] y ≤ 1
    rw [getR_cons]
    by_cases e : z = y
    · rw [if_pos e]
      exact Nat.le_refl 1
    · rw [if_neg e]
      exact Nat.zero_le 1
  | r + 1 => fun R y h => rowsW_last N z r R y (by rw [← h]; exact (List.getLast?_cons_cons).symm)
/-! ### all ways, by force -/
def rawW (leaf : Str) (M N : Mak) : Nat → Str → List (List Str)
  | 0, z => if z = leaf then [[z]] else []
  | r + 1, z => if z ∈ setR leaf M (r + 1) then (prt N z).flatMap fun p => (rawW leaf M N r p).map fun w => w ++ [z] else []
theorem rawW_len {leaf : Str} {M N : Mak} (v : Vld leaf M) (hD : DedOf M N) : ∀ r z, (rawW leaf M N r z).length = siz leaf N r z
  | 0, z => by
    unfold rawW
    by_cases e : z = leaf
    · subst e
      rw [if_pos rfl, siz_zero]
      rfl
    · rw [if_neg e]
      unfold siz
      rw [getR_no]
      · rfl
      · exact fun h => e (List.mem_singleton.mp h)
  | r + 1, z => by
    unfold rawW
    have nem := hD.nem v
    by_cases c : z ∈ setR leaf M (r + 1)
    · rw [if_pos c, List.length_flatMap]
      have c' : z ∈ setR leaf N (r + 1) := by rw [hD.sets]; exact c
      obtain ⟨ps, h1, h2⟩ := (mem_succ nem.nd).mp c'
      rw [siz_succ nem.nd h1 h2, prt_of h1]
      congr 1
      refine List.map_congr_left fun p _ => ?_
      rw [List.length_map, rawW_len v hD r p]
    · rw [if_neg c]
      unfold siz
      rw [getR_no]
      · rfl
      · show z ∉ setR leaf N (r + 1)
        rw [hD.sets]
        exact c
theorem links_at {M : Mak} : ∀ {ys : List Str}, Links M ys → ∀ (j : Nat) (y u : Str), ys[j]? = some y → ys[j + 1]? = some u → ∃ ps, lookM M u = some ps ∧ y ∈ ps
  | [], _, j, y, u, h, _ => by cases h
  | [x], _, j, y, u, _, h => by cases h
  | a :: b :: l, hL, 0, y, u, h1, h2 => by
    cases h1
    cases h2
    exact hL.1
  | a :: b :: l, hL, j + 1, y, u, h1, h2 => links_at (ys := b :: l) hL.2 j y u h1 h2
/-- a way to a kind at a rank -/
structure IsW (leaf : Str) (M : Mak) (r : Nat) (z : Str) (ys : List Str) : Prop where
  len : ys.length = r + 1
  hd : ys[0]? = some leaf
  last : ys[r]? = some z
  link : ∀ (j : Nat) (y u : Str), ys[j]? = some y → ys[j + 1]? = some u → ∃ ps, lookM M u = some ps ∧ y ∈ ps
theorem IsW.there {leaf : Str} {M : Mak} (v : Vld leaf M) {r : Nat} {z : Str} {ys : List Str} (h : IsW leaf M r z ys) (hz : z ∈ setR leaf M r) : ∀ k j y, j + k = r → ys[j]? = some y → y ∈ setR leaf M j
  | 0, j, y, e, hy => by
    have e' : j = r := by omega
    subst e'
    rw [h.last] at hy
    cases hy
    exact hz
  | k + 1, j, y, e, hy => by
    obtain ⟨u, hu⟩ : ∃ u, ys[j + 1]? = some u := ⟨_, List.getElem?_eq_getElem (by rw [h.len]; omega)⟩
    have ih := h.there v hz k (j + 1) u (by omega) hu
    obtain ⟨ps, h1, h2⟩ := h.link j y u hy hu
    obtain ⟨ps', h3, h4⟩ := (mem_succ v.nd).mp ih
    rw [h1] at h3
    cases h3
    exact h4 y h2
theorem IsW.raw {leaf : Str} {M N : Mak} (v : Vld leaf M) (hD : DedOf M N) : ∀ {r : Nat} {z : Str} {ys : List Str}, IsW leaf M r z ys → z ∈ setR leaf M r → ys ∈ rawW leaf M N r z
  | 0, z, ys, h, hz => by
    have e : z = leaf := mem_zero.mp hz
    subst e
    unfold rawW
    rw [if_pos rfl]
    have hl := h.len
    have hh := h.hd
    cases ys with
    | nil => cases hh
    | cons y l =>
      cases l with
      | nil =>
        cases hh
        exact List.mem_singleton.mpr rfl
      | cons _ _ => cases hl
  | r + 1, z, ys, h, hz => by
    unfold rawW
    rw [if_pos hz, List.mem_flatMap]
    obtain ⟨p, hp⟩ : ∃ p, ys[r]? = some p := ⟨_, List.getElem?_eq_getElem (by rw [h.len]; omega)⟩
    obtain ⟨ps, h1, h2⟩ := h.link r p z hp h.last
    obtain ⟨qs, h3, _, _, h4⟩ := hD.look h1
    have e : ys = ys.take (r + 1) ++ [z] := by
      have h5 := List.take_append_drop (r + 1) ys
      have h6 : ys.drop (r + 1) = [z] := by
        obtain ⟨a, b⟩ := List.getElem?_eq_some_iff.mp h.last
        rw [List.drop_eq_getElem_cons a, b, List.drop_eq_nil_of_le (by rw [h.len]; omega)]
      rw [h6] at h5
      exact h5.symm
    have tk : ∀ j, j < r + 1 → (ys.take (r + 1))[j]? = ys[j]? := fun j hj => by rw [List.getElem?_take, if_pos hj]
    have hW : IsW leaf M r p (ys.take (r + 1)) := by
      refine ⟨by rw [List.length_take, h.len]; omega, by rw [tk 0 (by omega)]; exact h.hd, by rw [tk r (by omega)]; exact hp, fun j y u hy hu => ?_⟩
      have hj : j + 1 < r + 1 := by
        have := (List.getElem?_eq_some_iff.mp hu).1
        rw [List.length_take] at this
        omega
      rw [tk _ (by omega)] at hy
      rw [tk _ hj] at hu
      exact h.link j y u hy hu
    have hpr : p ∈ setR leaf M r := h.there v hz 1 r p rfl hp
    refine ⟨p, by rw [prt_of h3]; exact (h4 p).mpr h2, List.mem_map.mpr ⟨_, IsW.raw v hD hW hpr, e.symm⟩⟩
theorem wayF_isW {leaf : Str} {M N : Mak} (v : Vld leaf M) (hD : DedOf M N) {r n : Nat} {z : Str} (hn : n < siz leaf N r z) : IsW leaf M r z (wayF M leaf (rowsW N z r) n) := by
  have nem := hD.nem v
  have hz := siz_in hn
  have h0 : n < getR (opR N z r) leaf := by
    rw [leaves_n nem hz, getR_cons, if_pos rfl]
    exact hn
  obtain ⟨h1, h2, h3, h4⟩ := wayF_ok v hD (rowsW N z r) (opR N z r) leaf n (rowsW_chain N z r) h0
  rw [rowsW_len] at h2
  refine ⟨h2, ?_, ?_, links_at h1⟩
  · rw [← List.head?_eq_getElem?]
    exact h3
  · cases r with
    | zero =>
      have e : z = leaf := mem_zero.mp hz
      rw [← List.head?_eq_getElem?, e] at *
      exact h3
    | succ r =>
      have hlast : ∀ r, (rowsW N z (r + 1)).getLast? = some [(z, 1)] := fun r => by
        induction r with
        | zero => rfl
        | succ r ih =>
          show (opR N z (r + 1) :: opR N z r :: rowsW N z r).getLast? = _
          rw [List.getLast?_cons_cons]
          exact ih
      obtain ⟨u, h5, h6⟩ := h4 _ (hlast r)
      have e : u = z := List.mem_singleton.mp h6
      subst e
      rw [List.getLast?_eq_getElem?, h2] at h5
      exact h5
theorem perm_sub : ∀ {L W : List (List Str)}, L.Nodup → (∀ w ∈ L, w ∈ W) → W.length ≤ L.length → W.Perm L
  | [], W, _, _, h => by
    have : W = [] := List.eq_nil_of_length_eq_zero (Nat.le_zero.mp h)
    rw [this]
  | x :: L, W, nd, hs, h => by
    rw [List.nodup_cons] at nd
    have hx : x ∈ W := hs x List.mem_cons_self
    have hp := List.perm_cons_erase hx
    refine hp.trans (List.Perm.cons x (perm_sub nd.2 (fun w hw => ?_) ?_))
    · exact (List.mem_erase_of_ne (fun e => nd.1 (by rw [← e]; exact hw))).mpr (hs w (List.mem_cons_of_mem _ hw))
    · rw [List.length_erase_of_mem hx]
      rw [List.length_cons] at h
      omega
/-- the ways in their order are those with the numbers from 0 on -/
theorem ways_are {leaf : Str} {M N : Mak} (v : Vld leaf M) (s : sortedS (keysOf M) = true) (hD : DedOf M N) {r : Nat} {z : Str} {W : List (List Str)} (hp : W.Perm (rawW leaf M N r z)) (hs : W.Pairwise fun a b => ltT b a = false) :
    W = (List.range (siz leaf N r z)).map fun n => wayF M leaf (rowsW N z r) n := by
  have nem := hD.nem v
  have hlt : ∀ n n', n < n' → n' < siz leaf N r z → ltT (wayF M leaf (rowsW N z r) n) (wayF M leaf (rowsW N z r) n') = true := fun n n' h h' => by
    refine way_less v s hD (rowsW N z r) (opR N z r) leaf n n' (rowsW_chain N z r) (rowsW_last N z r) h ?_
    rw [leaves_n nem (siz_in h'), getR_cons, if_pos rfl]
    exact h'
  have hpw : ((List.range (siz leaf N r z)).map fun n => wayF M leaf (rowsW N z r) n).Pairwise fun a b => ltT a b = true := by
    rw [List.pairwise_map]
    refine List.Pairwise.imp_of_mem ?_ (List.pairwise_lt_range (n := siz leaf N r z))
    intro a b _ hb h
    exact hlt a b h (List.mem_range.mp hb)
  have nd : ((List.range (siz leaf N r z)).map fun n => wayF M leaf (rowsW N z r) n).Nodup := hpw.imp fun {a b} h e => by
    rw [e, ltT_irrefl] at h
    cases h
  have hperm : (rawW leaf M N r z).Perm ((List.range (siz leaf N r z)).map fun n => wayF M leaf (rowsW N z r) n) := by
    refine perm_sub nd (fun w hw => ?_) (by rw [rawW_len v hD, List.length_map, List.length_range]; exact Nat.le_refl _)
    obtain ⟨n, hn, rfl⟩ := List.mem_map.mp hw
    have hn' := List.mem_range.mp hn
    refine (wayF_isW v hD hn').raw v hD ?_
    rw [← hD.sets]
    exact siz_in hn'
  refine List.Perm.eq_of_pairwise (le := fun a b => ltT b a = false) (fun a b _ _ h1 h2 => ?_) hs (hpw.imp fun {a b} h => ltT_asym h) (hp.trans hperm)
  rcases ltT_total a b with h | h | h
  · rw [h] at h2; cases h2
  · exact h
  · rw [h] at h1; cases h1
/-! ### sizes are small -/
theorem siz_le {leaf : Str} {N : Mak} (l3 : ∀ m ∈ N, m.2.length ≤ 3) : ∀ r, ∀ q ∈ rowsR leaf N r, q.2 ≤ 3 ^ r
  | 0, q, h => by
    rw [List.mem_singleton.mp h]
    exact Nat.le_refl 1
  | r + 1, q, h => by
    obtain ⟨m, hm, rfl⟩ := List.mem_map.mp (show q ∈ aboveR N (rowsR leaf N r) from h)
    have ih := siz_le (leaf := leaf) l3 r
    have h1 := sum_le (l := m.2.map (getR (rowsR leaf N r))) (b := 3 ^ r) (k := 3) (fun x hx => by
      obtain ⟨z, _, rfl⟩ := List.mem_map.mp hx
      exact getR_le ih z) (by rw [List.length_map]; exact l3 m (List.mem_filter.mp hm).1)
    show (m.2.map (getR (rowsR leaf N r))).sum ≤ 3 ^ (r + 1)
    rw [Nat.pow_succ]
    omega
theorem DedOf.l3 {leaf : Str} {M N : Mak} (v : Vld leaf M) (hD : DedOf M N) : ∀ n ∈ N, n.2.length ≤ 3 := fun n hn => by
  obtain ⟨m, h1, _, _, h3, h4⟩ := hD.mem hn
  exact Nat.le_trans (nodup_len h3 fun z hz => (h4 z).mp hz) (v.parts m h1).2.2.1
theorem siz_bound {leaf : Str} {M N : Mak} (v : Vld leaf M) (hD : DedOf M N) (r : Nat) (z : Str) : siz leaf N r z ≤ 3 ^ r := getR_le (siz_le (hD.l3 v) r) z
end Kl

set_option maxRecDepth 100000
set_option maxHeartbeats 4000000
namespace Kl
open PySem PySem.Spec PyProof.Rows L2 Gx Mx
section
variable {P : Program} {w : World} {K : PySem.W.Frag} {mg : Str → Option Value} {base : Heap}
theorem merge_new : ∀ (more kvs : List (Key × V)), (more.map (·.1)).Nodup → (∀ k ∈ more.map (·.1), valV kvs k = none) → mergeK kvs more = kvs ++ more
  | [], kvs, _, _ => by unfold mergeK; rw [List.foldl_nil, List.append_nil]
  | p :: r, kvs, nd, hn => by
    rw [List.map_cons, List.nodup_cons] at nd
    have e : mergeK kvs (p :: r) = mergeK (putK kvs p.1 p.2) r := rfl
    have e0 : valV kvs p.1 = none := hn _ (by rw [List.map_cons]; exact List.mem_cons_self)
    rw [e, putK_new _ e0, merge_new r _ nd.2 fun k hk => ?_, List.append_assoc]
    · rfl
    · have hk0 := hn k (by rw [List.map_cons]; exact List.mem_cons_of_mem _ hk)
      rw [valV_snoc _ _ _ _ e0, if_neg (fun (q : k = p.1) => nd.1 (by rw [← q]; exact hk)), hk0]
theorem merge_nil {more : List (Key × V)} (nd : (more.map (·.1)).Nodup) : mergeK [] more = more := merge_new more [] nd fun _ _ => rfl
/-! ### the law's own kinds: [leaf, makings] -/
structure Own (H : Hp) (ow mk : Addr) (leaf : Str) (kvs : List (Key × V)) (M : Mak) : Prop where
  e : H ow = some (.lst [.str leaf, .ref mk])
  emk : H mk = some (.dK kvs)
  at' : MakAt H kvs M
  v : Vld leaf M
theorem Own.same {H H' : Hp} {ow mk : Addr} {leaf : Str} {kvs : List (Key × V)} {M : Mak} (h : Own H ow mk leaf kvs M) (s : Same H H') : Own H' ow mk leaf kvs M := ⟨s _ _ h.e, s _ _ h.emk, h.at'.same fun _ _ q => q.mono s, h.v⟩
theorem two0 {a b : V} : atI [a, b] 0 = some a := rfl
theorem two1 {a b : V} : atI [a, b] 1 = some b := rfl
def spOfK (C : Addr) : Sp := fun vs H Q _ => ∃ (ow mk : Addr) (leaf : Str) (kvs : List (Key × V)) (M : Mak), vs = [V.ref ow] ∧ Own H ow mk leaf kvs M ∧
  ∀ (x md : Addr) (M' : Mak) (ns : List Str) (H' : Hp), KindsAt C H' x md leaf M' ns → OrdOf M M' → IsNames leaf (keysOf M) ns → Same H H' → Q (.ref x) H'
theorem ok_ofK {C f : Addr} {fd : FuncData} (F : Fun K "_law_kinds_of" "_law_kinds_of" s_law_kinds_of f fd) (T : Top K mg) (TC : Cl_Kinds K mg C) : FnOk P w K mg base CX0 8 f fd ["_law_own"] (spOfK C) := by
  have kI : CalI P w K mg base C 6 ["self", "leaf", "makings"] (spInit C) := by
    obtain ⟨f, fd, m, F, b⟩ := TC.made
    exact ⟨f, fd, m, ok_init F T TC, b⟩
  refine F.ok sc_law_kinds_of (fun vs H Q E h => ?_) (fun cdv A outer s H vs Q E hr h => ?_)
  · obtain ⟨ow, mk, leaf, kvs, M, rfl, _⟩ := h
    rfl
  · obtain ⟨ow, mk, leaf, kvs, M, rfl, hO, q⟩ := h
    refine ⟨_, pss_one (ps_ret (pe_makeC kI hr (by rfl) TC.gC (pa_cons (pe_ix ix_list (pv 0) pe_int (fun _ _ => rfl)) (pa_cons (pe_ix ix_list (pv 0) pe_int (fun _ _ => rfl)) pa_nil)))), ?_⟩
    refine ⟨_, rfl, ow, _, _, _, rfl, rfl, .inl (.inl hO.e), two0, _, rfl, ow, _, _, _, rfl, rfl, .inl (.inl hO.e), two1, fun x dx nx ndx nxx => ⟨x, dx, leaf, mk, kvs, M, rfl, upd_same, ?_, ?_, hO.v, fun G2 md M' ns hK hOr hN nmd keep => ⟨rfl, ?_⟩⟩⟩
    · rw [upd_ne (ne_of_none hO.emk nx), upd_ne (ne_of_none hO.emk ndx)]
      exact hO.emk
    · exact hO.at'.same fun a xs h => h.at fun o e => by rw [upd_ne (ne_of_none e nx), upd_ne (ne_of_none e ndx)]; exact e
    · obtain ⟨s1, _⟩ := made nx ndx nmd keep
      exact q x md M' ns G2 hK hOr hN s1
def bookK (leaf : Str) (mk : Addr) : List (Key × V) := [(Sum.inr "leaf", .str leaf), (Sum.inr "makings", .ref mk)]
def spAsB : Sp := fun vs H Q _ => ∃ (ow mk : Addr) (leaf : Str), vs = [V.ref ow] ∧ H ow = some (.lst [.str leaf, .ref mk]) ∧ ∀ p H', Same H H' → H p = none → H' p = some (.dK (bookK leaf mk)) → Q (.ref p) H'
theorem ok_asB {f : Addr} {fd : FuncData} (F : Fun K "_law_as_book" "_law_as_book" s_law_as_book f fd) (T : Top K mg) : FnOk P w K mg base CX0 1 f fd ["_law_own"] spAsB := by
  refine F.ok sc_law_as_book (fun vs H Q E h => ?_) (fun cdv A outer s H vs Q E hr h => ?_)
  · obtain ⟨ow, mk, leaf, rfl, _⟩ := h
    rfl
  · obtain ⟨ow, mk, leaf, rfl, hO, q⟩ := h
    refine ⟨_, pss_one (ps_ret (pe_disp (pps_cons pe_str (pe_ix ix_list (pv 0) pe_int (fun _ _ => rfl)) (pps_cons pe_str (pe_ix ix_list (pv 0) pe_int (fun _ _ => rfl)) pps_nil)) rfl rfl (by decide) (by decide))), ?_⟩
    refine fun p np => ?_
    have hO1 : (upd H p (.dK [])) ow = some (.lst [.str leaf, .ref mk]) := by
      rw [upd_ne (ne_of_none hO np)]
      exact hO
    refine ⟨_, rfl, ow, _, _, _, rfl, rfl, .inl (.inl hO1), two0, _, rfl, ow, _, _, _, rfl, rfl, .inl (.inl hO1), two1, upd_same, bookK leaf mk, rfl, by show 2 ≤ 15; omega, ?_⟩
    rw [merge_nil (by show (([Sum.inr "leaf", Sum.inr "makings"] : List Key)).Nodup; decide +kernel)]
    exact q p _ (fun b o e => by rw [upd_ne (ne_of_none e np), upd_ne (ne_of_none e np)]; exact e) np upd_same
def spAllN : Sp := fun vs H Q _ => ∃ (ow mk : Addr) (leaf : Str) (kvs : List (Key × V)) (M : Mak), vs = [V.ref ow] ∧ Own H ow mk leaf kvs M ∧
  ∀ (p : Addr) (ns : List Str) (H' : Hp), IsNames leaf (keysOf M) ns → Same H H' → H' p = some (.lst (ns.map V.str)) → Q (.ref p) H'
theorem ok_allN {f : Addr} {fd : FuncData} (F : Fun K "_law_all_names" "_law_all_names" s_law_all_names f fd) (T : Top K mg) : FnOk P w K mg base CX0 1 f fd ["_law_own"] spAllN := by
  refine F.ok sc_law_all_names (fun vs H Q E h => ?_) (fun cdv A outer s H vs Q E hr h => ?_)
  · obtain ⟨ow, mk, leaf, kvs, M, rfl, _⟩ := h
    rfl
  · obtain ⟨ow, mk, leaf, kvs, M, rfl, hO, q⟩ := h
    refine ⟨_, pss_one (ps_ret (pe_callB (cr_sortedX rfl) (by rfl) T.b_sorted (by decide +kernel) (pa_cons (pe_callTy (cr_setX rfl) (by rfl) T.b_set (by decide +kernel) (pa_cons (pe_op op_cat (pe_lst (pa_cons (pe_ix ix_list (pv 0) pe_int (fun _ _ => rfl)) pa_nil))
        (pe_callTy (call_listD rfl) (by rfl) T.b_list (by decide +kernel) (pa_cons (pe_ix ix_list (pv 0) pe_int (fun _ _ => rfl)) pa_nil))) pa_nil)) pa_nil))), ?_⟩
    have lM := hO.v.len
    have lk : (keysOf M).length ≤ 6 := by
      unfold keysOf
      rw [List.length_map]
      exact lM
    refine ⟨_, rfl, ow, _, _, _, rfl, rfl, .inl (.inl hO.e), two0, by show 1 ≤ sizeLine; decide, fun l1 n1 => ?_⟩
    have s1 := same_new (o := .lst [V.str leaf]) (Same.refl H) n1
    refine ⟨_, rfl, ow, _, _, _, rfl, rfl, .inl (.inl (s1 _ _ hO.e)), two1, mk, kvs, rfl, .inl (s1 _ _ hO.emk), fun l2 n2 => ?_⟩
    have ek : (kvs.map fun kv => kV kv.1) = (keysOf M).map V.str := by
      have := hO.at'.keys
      rw [show (kvs.map fun kv => kV kv.1) = (kvs.map (·.1)).map kV by rw [List.map_map]; rfl, this, List.map_map]
      rfl
    rw [ek]
    have s2 := same_new (o := .lst ((keysOf M).map V.str)) s1 n2
    have e1 : (upd (upd H l1 (.lst [V.str leaf])) l2 (.lst ((keysOf M).map V.str))) l1 = some (.lst [V.str leaf]) := by
      rw [upd_ne (ne_of_none upd_same n2)]
      exact upd_same
    refine ⟨l1, l2, _, _, rfl, rfl, e1, upd_same, ?_, fun l3 n3 => ?_⟩
    · have : 1000 ≤ sizeLine := by decide
      rw [List.length_map]
      show 1 + _ ≤ sizeLine
      omega
    refine ⟨l3, leaf :: keysOf M, rfl, .inl (.inl upd_same), by rw [List.length_cons]; omega, fun st nst => ?_⟩
    have s3 := same_new (o := .lst ([V.str leaf] ++ (keysOf M).map V.str)) s2 n3
    have s4 := same_new (o := SetO' P w st (leaf :: keysOf M)) s3 nst
    refine ⟨st, leaf :: keysOf M, rfl, upd_same, by rw [List.length_cons]; omega, fun ys p hs hn hm np => ?_⟩
    exact q p ys _ ⟨hs, hn, fun z => by rw [hm, List.mem_cons]⟩ (same_new s4 np) upd_same
end
end Kl

set_option maxRecDepth 100000
set_option maxHeartbeats 4000000
namespace Kl
open PySem PySem.Spec PyProof.Rows L2 Gx Mx
theorem ix_listK {X : Cx} {K : PySem.W.Frag} (hk : X.K = K) : IxR X (rIxL K) := by
  subst hk
  exact ix_list
section
variable {P : Program} {w : World} {K : PySem.W.Frag} {mg : Str → Option Value} {base : Heap}
/-! ### the law's own sizes -/
def spSizes : Sp := fun vs H Q _ => ∃ (pl mk : Addr) (leaf : Str) (kvs : List (Key × V)) (M M1 : Mak) (n : Nat), vs = [V.ref pl, V.int (n : Nat)] ∧ n ≤ 402 ∧ H pl = some (.dK (bookK leaf mk)) ∧ H mk = some (.dK kvs) ∧ MakAt H kvs M ∧ Vld leaf M ∧ OrdOf M M1 ∧
  ∀ (p : Addr) (ds : List Addr) (H' : Hp), Same H H' → H p = none → H' p = some (.lst (ds.map V.ref)) → ds.length = n + 1 → RowsAt H' leaf M1 ds → Q (.ref p) H'
abbrev NLS : List Str := ["_law_plain", "_law_bound", "_law_found", "_law_rank", "_law_here", "_law_name", "_law_parts", "_law_part"]
theorem book_leaf (leaf : Str) (mk : Addr) : valV (bookK leaf mk) (Sum.inr "leaf") = some (.str leaf) := valV_pos rfl
theorem book_mak (leaf : Str) (mk : Addr) : valV (bookK leaf mk) (Sum.inr "makings") = some (.ref mk) := by
  unfold bookK
  rw [valV_neg (by show ¬ (Sum.inr ("leaf" : Str) : Key) = Sum.inr ("makings" : Str); decide +kernel), valV_pos rfl]
theorem ok_sizes {f : Addr} {fd : FuncData} (F : Fun K "_law_sizes" "_law_sizes" s_law_sizes f fd) (T : Top K mg) : FnOk P w K mg base CX0 1 f fd ["_law_plain", "_law_bound"] spSizes := by
  refine F.ok sc_law_sizes (fun vs H Q E h => ?_) (fun cdv A outer s H vs Q E hr h => ?_)
  · obtain ⟨pl, mk, leaf, kvs, M, M1, n, rfl, _⟩ := h
    rfl
  · obtain ⟨pl, mk, leaf, kvs, M, M1, n, rfl, hn, hpl, hmk, hM, hV, hO, q⟩ := h
    have hu := hu_of hr
    refine ⟨_, pss_cut (ps_set (i := 2) sc_law_sizes.nd rfl (.inr rfl) (pe_lst (pa_cons (pe_disp (pps_cons (pe_dget hu (pv 0) pe_str (fun _ _ => rfl)) pe_int pps_nil) rfl rfl (by decide) (by decide)) pa_nil)))
      (pss_cut (ps_for PassesOwn.never rfl (pi_range1 (by rfl) T.b_range (pa_cons (pv 1) pa_nil)) (pg_name (i := 3) sc_law_sizes.nd rfl (.inr rfl))
        (pss_cut (ps_set (i := 4) sc_law_sizes.nd rfl (.inl rfl) pe_dnewK)
        (pss_cut (ps_for PassesOwn.never rfl (pi_list (pe_callB (call_sortedD rfl) (by rfl) T.b_sorted (by decide +kernel) (pa_cons (pe_dget hu (pv 0) pe_str (fun _ _ => rfl)) pa_nil))) (pg_name (i := 5) sc_law_sizes.nd rfl (.inl rfl))
          (pss_cut (ps_set (i := 6) sc_law_sizes.nd rfl (.inl rfl) (pe_dget hu (pe_dget hu (pv 0) pe_str (fun _ _ => rfl)) (pv 5) (fun _ _ => rfl)))
          (pss_one (ps_if (pt_cmpR (op_eqD hr.units) (pe_lc (own := [("_law_part", 7)]) (g := gName 7) rfl sc_law_sizes.nd (pi_tup (pv 6))
                (blkOk_by (N := NLS) (sc := defScope s_law_sizes) (by decide +kernel)) (fun _ _ _ _ _ => pg_name (i := 7) sc_law_sizes.nd rfl (.inl rfl))
                (fun _ _ _ _ _ => pts_one (pt_cmp (pc_dnotin hu (pv 7) (pe_ix (ix_listK (K := K) (by exact rfl)) (pv 2) (pv 3) (fun _ _ => rfl)))))
                (fun _ _ _ _ _ => pv 7)) (pe_lst pa_nil) (by rfl))
            (pss_one (ps_asg (pe_callB (cr_sum rfl) (by rfl) T.b_sum (by decide +kernel) (pa_cons (pe_lc (own := [("_law_part", 7)]) (g := gName 7) (tt := tYes) rfl sc_law_sizes.nd (pi_tup (pv 6))
                (blkOk_by (N := NLS) (sc := defScope s_law_sizes) (by decide +kernel)) (fun _ _ _ _ _ => pg_name (i := 7) sc_law_sizes.nd rfl (.inl rfl)) (fun _ _ _ _ _ => pts_nil)
                (fun _ _ _ _ _ => pe_dget hu (pe_ix (ix_listK (K := K) (by exact rfl)) (pv 2) (pv 3) (fun _ _ => rfl)) (pv 7) (fun _ _ => rfl))) pa_nil)) (pg_sub (pv 4) (pv 5) (set_dict hu)))) pss_nil))))
        (pss_one (ps_expr (pe_bm PySem.F.plainAttrs_list PySem.F.slot_list_append PySem.F.type_list_append mt_append (pv 2) (pa_cons (pv 4) pa_nil)))))))
      (pss_one (ps_ret (pv 2)))), ?_⟩
    have big : 100000 ≤ sizeLine := by decide
    have lM := hV.len
    have v1 : Vld leaf M1 := hO.vld hV
    have lM1 := v1.len
    refine ⟨fun σ' G => ∃ (fl b0 : Addr), σ' = [some (.ref pl), some (.int (n : Nat)), some (.ref fl), none, none, none, none, none] ∧ G fl = some (.lst [.ref b0]) ∧ G b0 = some (.dK (rowK (rowsR leaf M1 0))) ∧ Same H G ∧ H fl = none ∧ H b0 = none, ?_, ?_⟩
    · refine fun b0 nb0 => ?_
      have hpl1 : (upd H b0 (.dK [])) pl = some (.dK (bookK leaf mk)) := by rw [upd_ne (ne_of_none hpl nb0)]; exact hpl
      refine ⟨_, rfl, pl, .str leaf, rfl, .inl ⟨_, Sum.inr "leaf", .inl hpl1, rfl, (book_leaf leaf mk).symm⟩, upd_same, [(Sum.inr leaf, V.int 1)], rfl, by show 1 ≤ 15; omega, by show 1 ≤ sizeLine; omega, fun fl nfl => ?_⟩
      have e1 : mergeK [] [((Sum.inr leaf : Key), V.int 1)] = rowK (rowsR leaf M1 0) := rfl
      rw [e1] at nfl ⊢
      have s1 : Same H (upd (upd H b0 (.dK [])) b0 (.dK (rowK (rowsR leaf M1 0)))) := fun b o e => by
        rw [upd_ne (ne_of_none e nb0), upd_ne (ne_of_none e nb0)]
        exact e
      have s2 := same_new (o := .lst [V.ref b0]) s1 nfl
      refine ⟨fl, b0, rfl, upd_same, ?_, s2, s1.free nfl, nb0⟩
      rw [upd_ne (ne_of_none upd_same nfl)]
      exact upd_same
    rintro σ' G ⟨fl, b0, rfl, efl, eb0, s0, nfl, nb0⟩
    refine ⟨fun σ' G => ∃ (ds : List Addr) (y3 y4 y5 y6 : Option V), σ' = [some (.ref pl), some (.int (n : Nat)), some (.ref fl), y3, y4, y5, y6, none] ∧ G fl = some (.lst (ds.map V.ref)) ∧ ds.length = n + 1 ∧ RowsAt G leaf M1 ds ∧ Same H G, ?_, ?_⟩
    · refine ⟨_, rfl, _, rfl, by omega, by omega, ?_⟩
      refine for_range (lo := 0) (fun i σ' G => ∃ (ds : List Addr) (y3 y4 y5 y6 : Option V), σ' = [some (.ref pl), some (.int (n : Nat)), some (.ref fl), y3, y4, y5, y6, none] ∧ G fl = some (.lst (ds.map V.ref)) ∧ ds.length = i + 1 ∧ RowsAt G leaf M1 ds ∧ Same H G)
        ⟨[b0], none, none, none, none, rfl, efl, rfl, ?_, s0⟩ (fun i σ' G hi hP => ?_) (fun σ' G hP => by obtain ⟨ds, y3, y4, y5, y6, h1, h2, h3, h4, h5⟩ := hP; exact ⟨ds, y3, y4, y5, y6, h1, h2, by omega, h4, h5⟩)
      · intro i a ha
        have hi : i = 0 := by
          have := (List.getElem?_eq_some_iff.mp ha).1
          rw [List.length_singleton] at this
          omega
        subst hi
        cases ha
        exact eb0
      obtain ⟨ds, y3, y4, y5, y6, rfl, eF, hl, hR, sm⟩ := hP
      -- an empty dict
      refine ⟨fun σ' G' => ∃ hh : Addr, σ' = [some (.ref pl), some (.int (n : Nat)), some (.ref fl), some (.int (0 + (i : Nat))), some (.ref hh), y5, y6, none] ∧ G' hh = some (.dK []) ∧ G hh = none ∧ Same G G', ?_, ?_⟩
      · exact fun hh nhh => ⟨hh, rfl, upd_same, nhh, same_new (Same.refl G) nhh⟩
      rintro σ' G2 ⟨hh, rfl, ehh, nhh, s2⟩
      have hrow : ∃ a, ds[i]? = some a ∧ G a = some (.dK (rowK (rowsR leaf M1 i))) := ⟨_, List.getElem?_eq_getElem (by omega), hR i _ (List.getElem?_eq_getElem (by omega))⟩
      obtain ⟨ra, hra, era⟩ := hrow
      generalize hRR : rowsR leaf M1 i = R at era
      have efG := eF
      have fl_free : H fl = none := nfl
      have nhf : hh ≠ fl := fun z => by rw [z, eF] at nhh; cases nhh
      have nhr : hh ≠ ra := fun z => by rw [z, era] at nhh; cases nhh
      -- the names, one by one
      refine ⟨fun σ' G' => ∃ (y5 y6 : Option V), σ' = [some (.ref pl), some (.int (n : Nat)), some (.ref fl), some (.int (0 + (i : Nat))), some (.ref hh), y5, y6, none] ∧ G' hh = some (.dK (rowK (aboveR M1 R))) ∧ SameX hh G2 G', ?_, ?_⟩
      · have hpl2 := s2 _ _ (sm _ _ hpl)
        have hmk2 := s2 _ _ (sm _ _ hmk)
        have hM2 : MakAt G2 kvs M := hM.same fun _ _ h => (h.mono sm).mono s2
        refine ⟨_, rfl, pl, .ref mk, rfl, .inl ⟨_, Sum.inr "makings", .inl hpl2, rfl, (book_mak leaf mk).symm⟩, mk, kvs, keysOf M, rfl, .inl hmk2, hM2.keys, by unfold keysOf; rw [List.length_map]; omega, fun ys sp hperm hsrt nsp => ?_⟩
        have eys : ys = keysOf M1 := sorted_same hsrt hO.srt (hperm.nodup_iff.mpr hV.nd) hO.nd fun z => by rw [hperm.mem_iff, hO.keys]
        subst eys
        have s3 := same_new (o := .lst ((keysOf M1).map V.str)) (Same.refl G2) nsp
        have nsh : sp ≠ hh := fun z => by rw [z, ehh] at nsp; cases nsp
        have esp : (upd G2 sp (.lst ((keysOf M1).map V.str))) sp = some (.lst ((keysOf M1).map V.str)) := upd_same
        generalize upd G2 sp (.lst ((keysOf M1).map V.str)) = G3 at s3 esp
        refine ⟨sp, rfl, ⟨_, .inl (.inl esp)⟩, ?_⟩
        refine for_it (walk_list (K := K) (a := sp) (xs := (keysOf M1).map V.str)) (fun j σ' G' => ∃ (y5 y6 : Option V), σ' = [some (.ref pl), some (.int (n : Nat)), some (.ref fl), some (.int (0 + (i : Nat))), some (.ref hh), y5, y6, none] ∧ G' hh = some (.dK (rowK (aboveR (M1.take j) R))) ∧ SameX hh G3 G')
          ⟨_, _, rfl, s3 _ _ ehh, SameX.refl hh G3⟩ (fun j σ' G' _ h => by obtain ⟨_, _, _, _, sx⟩ := h; exact .inl (.inl (sx _ _ nsh esp))) (fun j v σ' Gx G' hj h hy => ?_) (fun σ' G' h => ?_)
        · obtain ⟨y5, y6, rfl, eH, sx⟩ := h
          obtain ⟨rfl, hv⟩ := hy
          obtain ⟨z, hz, rfl⟩ := at_texts hv
          obtain ⟨m, hmj, rfl⟩ : ∃ m, M1[j]? = some m ∧ m.1 = z := by
            unfold keysOf at hz
            rw [List.getElem?_map] at hz
            exact Option.map_eq_some_iff.mp hz
          have hmM := List.mem_of_getElem? hmj
          obtain ⟨p1, p2, p3, p4⟩ := v1.parts m hmM
          have hlk : lookM M m.1 = some m.2 := by rw [← hO.look, lookM_mem hO.nd hmM]
          have hkM : m.1 ∈ keysOf M := (hO.keys _).mp (List.mem_map.mpr ⟨m, hmM, rfl⟩)
          have sG : ∀ b o, G b = some o → G' b = some o := fun b o e => sx _ _ (ne_of_none e nhh) (s3 _ _ (s2 _ _ e))
          have hpl' := sG _ _ (sm _ _ hpl)
          have hmk' := sG _ _ (sm _ _ hmk)
          have hM' : MakAt G' kvs M := hM.same fun a xs h => h.at fun o e => sG _ _ (sm _ _ e)
          obtain ⟨ps, a, e1, e2, e3⟩ := hM'.key hkM
          rw [hlk] at e1
          cases e1
          have eF' := sG _ _ eF
          have era' := sG _ _ era
          have hat : atI (ds.map V.ref) ((0 : Int) + (i : Nat)) = some (.ref ra) := by
            unfold atI ixN
            rw [if_pos (by omega), List.length_map, if_pos (by omega)]
            show (ds.map V.ref)[((0 : Int) + (i : Nat)).toNat]? = _
            rw [Int.zero_add, Int.toNat_natCast, List.getElem?_map, hra]
            rfl
          refine ⟨fun σ' G4 => σ' = [some (.ref pl), some (.int (n : Nat)), some (.ref fl), some (.int (0 + (i : Nat))), some (.ref hh), some (.str m.1), some (.ref a), none] ∧ G4 = G', ?_, ?_⟩
          · exact ⟨_, rfl, pl, .ref mk, rfl, .inl ⟨_, Sum.inr "makings", .inl hpl', rfl, (book_mak leaf mk).symm⟩, _, rfl, mk, _, rfl, .inl ⟨kvs, Sum.inr m.1, .inl hmk', rfl, e2.symm⟩, rfl, rfl⟩
          rintro σ' G4 ⟨rfl, rfl⟩
          -- the parts that are not there
          refine ⟨_, rfl, a, rfl, ⟨_, e3.sq⟩, fun D hD => ?_⟩
          refine lc_it (g := gName 7) (vs := [7]) (walk_tup (K := K) (a := a) (xs := m.2.map V.str)) (fun k G5 => G5 D = some (.lst (((m.2.take k).filter fun p => !decide (p ∈ keysR R)).map V.str)) ∧ Same G4 G5) ⟨upd_same, same_new (Same.refl G4) hD⟩ (fun k G5 _ h => (e3.mono h.2).sq) (fun k v Gx G5 hk h hy => ?_) (fun G5 h => ?_)
          · obtain ⟨eD, sm5⟩ := h
            obtain ⟨rfl, hv2⟩ := hy
            obtain ⟨z, hz, rfl⟩ := at_texts hv2
            refine ⟨rfl, _, rfl, _, rfl, _, rfl, fl, _, _, _, rfl, rfl, .inl (.inl (sm5 _ _ eF')), hat, ra, _, rfl, .inl ⟨_, Sum.inr z, .inl (sm5 _ _ era'), rfl, rfl⟩, ?_⟩
            rw [rowK_some, take_snoc hz, List.filter_append]
            by_cases c : z ∈ keysR R
            · rw [decide_eq_true c]
              have e0 : [z].filter (fun p => !decide (p ∈ keysR R)) = [] := by simp [c]
              rw [e0, List.append_nil]
              refine ⟨_, rfl, ?_⟩
              show (if (!true) = true then _ else _)
              rw [if_neg (by decide)]
              exact ⟨eD, sm5⟩
            · rw [decide_eq_false c]
              have e0 : [z].filter (fun p => !decide (p ∈ keysR R)) = [z] := by simp [c]
              rw [e0]
              refine ⟨_, rfl, ?_⟩
              show (if (!false) = true then _ else _)
              rw [if_pos (by decide)]
              refine ⟨_, rfl, _, eD, ?_, ?_, fun b u e => by rw [upd_ne (ne_of_none e hD)]; exact sm5 b u e⟩
              · rw [List.length_map]
                have := List.length_filter_le (fun p => !decide (p ∈ keysR R)) (m.2.take k)
                rw [List.length_take] at this
                exact Nat.lt_of_le_of_lt (show _ ≤ 3 by omega) (by decide)
              · rw [upd_same, List.map_append]
                rfl
          obtain ⟨eD, sm5⟩ := h
          rw [List.length_map, List.take_length] at eD
          refine ⟨by show 0 ≤ sizeLine; omega, fun l0 nl0 => ?_⟩
          have s6 := same_new (o := .lst []) sm5 nl0
          have eD6 : (upd G5 l0 (.lst [])) D = some (.lst ((m.2.filter fun p => !decide (p ∈ keysR R)).map V.str)) := by
            rw [upd_ne (ne_of_none eD nl0)]
            exact eD
          have okP : SeqAt.shaped (.list (tD (m.2.filter fun p => !decide (p ∈ keysR R)))) = true := shaped_texts fun z hz => pool_ok (v1.part hmM (List.mem_filter.mp hz).1)
          refine ⟨.list (tD (m.2.filter fun p => !decide (p ∈ keysR R))), .list (tD []), .lst (.inl (.inl eD6)) (dp_texts _), .lst (.inl (.inl upd_same)) (dp_texts []), okP, shaped_texts (fun z hz => nomatch hz), ?_⟩
          rw [PyData.eqv, eqv_texts]
          have ef : decide ((m.2.filter fun p => !decide (p ∈ keysR R)) = []) = fitsR (keysR R) m.2 := by
            rw [Bool.eq_iff_iff, decide_eq_true_iff, List.filter_eq_nil_iff]
            unfold fitsR
            rw [List.all_eq_true]
            constructor
            · intro h z hz
              have := h z hz
              simpa using this
            · intro h z hz
              have := h z hz
              simpa using this
          rw [ef]
          have et : aboveR (M1.take (j + 1)) R = aboveR (M1.take j) R ++ (if fitsR (keysR R) m.2 = true then [(m.1, (m.2.map (getR R)).sum)] else []) := by
            unfold aboveR
            rw [take_snoc hmj, List.filter_append, List.map_append]
            by_cases c : fitsR (keysR R) m.2 = true
            · simp [c]
            · simp [c]
          have eH6 := s6 _ _ eH
          generalize upd G5 l0 (.lst []) = G6 at s6 eH6
          refine ⟨_, rfl, ?_⟩
          refine ite2 (fun c => ?_) (fun c => ?_)
          · rw [if_pos c] at et
            have e36 := e3.mono s6
            refine ⟨_, rfl, a, rfl, ⟨_, e36.sq⟩, fun D4 hD4 => ?_⟩
            refine lc_it (g := gName 7) (tt := tYes) (vs := [7]) (walk_tup (K := K) (a := a) (xs := m.2.map V.str)) (fun k G7 => G7 D4 = some (.lst (((m.2.take k).map fun p => ((getR R p : Nat) : Int)).map V.int)) ∧ Same G6 G7) ⟨upd_same, same_new (Same.refl G6) hD4⟩ (fun k G7 _ h => (e36.mono h.2).sq) (fun k v Gx G7 hk h hy => ?_) (fun G7 h => ?_)
            · obtain ⟨eD4, sm7⟩ := h
              obtain ⟨rfl, hv2⟩ := hy
              obtain ⟨z, hz, rfl⟩ := at_texts hv2
              have hzR : z ∈ keysR R := of_decide_eq_true (List.all_eq_true.mp c z (List.mem_of_getElem? hz))
              refine ⟨rfl, _, rfl, _, rfl, fl, _, _, _, rfl, rfl, .inl (.inl (sm7 _ _ (s6 _ _ eF'))), hat, _, rfl, ra, _, rfl, .inl ⟨_, Sum.inr z, .inl (sm7 _ _ (s6 _ _ era')), rfl, (rowK_get hzR).symm⟩, _, eD4, ?_, ?_, fun b u e => by rw [upd_ne (ne_of_none e hD4)]; exact sm7 b u e⟩
              · rw [List.length_map, List.length_map, List.length_take]
                exact Nat.lt_of_le_of_lt (show _ ≤ 3 by omega) (by decide)
              · rw [upd_same, take_snoc hz, List.map_append, List.map_append]
                rfl
            · obtain ⟨eD4, sm7⟩ := h
              rw [List.length_map, List.take_length] at eD4
              refine ⟨D4, _, rfl, .inl (.inl eD4), ?_⟩
              rw [cast_sum]
              have hnew : m.1 ∉ keysR (aboveR (M1.take j) R) := by
                rw [keys_above]
                intro hin
                have h1 := (above_sub (M1.take j) (keysR R)).subset hin
                unfold keysOf at h1
                rw [List.map_take] at h1
                exact take_not hO.nd (show (M1.map (·.1))[j]? = some m.1 by rw [List.getElem?_map, hmj]; rfl) h1
              have hlen : (aboveR (M1.take j) R).length ≤ 6 := by
                unfold aboveR
                rw [List.length_map]
                have := List.length_filter_le (fun m => fitsR (keysR R) m.2) (M1.take j)
                rw [List.length_take] at this
                omega
              refine ⟨_, rfl, _, rfl, hh, _, rfl, .inl ⟨_, Sum.inr m.1, sm7 _ _ eH6, rfl, by rw [rowK_len]; omega, rfl⟩, _, _, rfl, ?_, fun b o n e => by rw [upd_ne n]; exact sm7 _ _ (s6 _ _ (sx b o n e))⟩
              rw [upd_same, putK_new _ (by rw [rowK_look, lookR_no hnew]; rfl), et]
              unfold rowK
              rw [List.map_append]
              rfl
          · rw [if_neg c, List.append_nil] at et
            rw [et]
            exact ⟨_, _, rfl, eH6, fun b o n e => s6 _ _ (sx b o n e)⟩
        · obtain ⟨y5, y6, rfl, eH, sx⟩ := h
          rw [List.length_map, show (keysOf M1).length = M1.length by unfold keysOf; rw [List.length_map], List.take_length] at eH
          exact ⟨_, _, rfl, eH, fun b o n e => sx _ _ n (s3 _ _ e)⟩
      rintro σ' G3 ⟨y5, y6, rfl, eH3, sx3⟩
      have eF3 := sx3 _ _ nhf.symm (s2 _ _ eF)
      refine ⟨_, rfl, ⟨.inl ⟨rfl, _, .inl (.inl eF3)⟩, ?_⟩⟩
      refine ⟨_, rfl, ?_⟩
      have sG3 : ∀ b o, G b = some o → G3 b = some o := fun b o e => sx3 _ _ (ne_of_none e nhh) (s2 _ _ e)
      refine ⟨fl, _, _, rfl, rfl, eF3, by rw [List.length_map]; exact Nat.lt_of_le_of_lt (show _ ≤ 403 by omega) (by decide), ds ++ [hh], _, _, _, _, rfl, ?_, by rw [List.length_append, List.length_singleton, hl], ?_, fun b o e => ?_⟩
      · rw [upd_same, List.map_append]
        rfl
      · refine RowsAt.snoc (H := G3) (fun k a e => sG3 _ _ (hR k a e)) (fun a kv e => ?_) ?_
        · rw [upd_ne (fun z => by rw [z, eF3] at e; cases e)]
          exact e
        · rw [upd_ne nhf, hl, eH3, ← hRR]
          rfl
      · rw [upd_ne (ne_of_none e nfl)]
        exact sG3 _ _ (sm _ _ e)
    rintro σ' G2 ⟨ds, y3, y4, y5, y6, rfl, eF, hl, hR, sm⟩
    exact ⟨_, rfl, q fl ds G2 sm nfl eF hl hR⟩
end
end Kl

set_option maxRecDepth 100000
set_option maxHeartbeats 4000000
namespace Kl
open PySem PySem.Spec PyProof.Rows L2 Gx Mx RZ
theorem ix_tupK {X : Cx} {K : PySem.W.Frag} (hk : X.K = K) : IxR X (rIxT K) := by
  subst hk
  exact ix_tup
theorem at_way {ys : List Str} {j : Nat} {y : Str} (h : ys[j]? = some y) : atI (ys.map V.str) ((j : Nat) : Int) = some (.str y) := by
  have hm := (List.getElem?_eq_some_iff.mp h).1
  unfold atI ixN
  rw [if_pos (by omega), List.length_map, if_pos (by omega)]
  show (ys.map V.str)[((j : Nat) : Int).toNat]? = _
  rw [Int.toNat_natCast, List.getElem?_map, h]
  rfl
theorem at_refs {ys : List Addr} {j : Nat} {y : Addr} (h : ys[j]? = some y) : atI (ys.map V.ref) ((j : Nat) : Int) = some (.ref y) := by
  have hm := (List.getElem?_eq_some_iff.mp h).1
  unfold atI ixN
  rw [if_pos (by omega), List.length_map, if_pos (by omega)]
  show (ys.map V.ref)[((j : Nat) : Int).toNat]? = _
  rw [Int.toNat_natCast, List.getElem?_map, h]
  rfl
theorem walk_zipT {K : PySem.W.Frag} {a b : Addr} {xs ys : List V} {n : Nat} (hn : n = min xs.length ys.length) : Walk (ItzT K a b) n (fun H => SqT K H a xs ∧ SqT K H b ys) (YPair (fun i => xs[i]?) (fun i => ys[i]?)) := by
  subst hn
  refine ⟨fun i _ hi q => ?_, fun _ q => ⟨xs, ys, q.1, q.2, by omega⟩, fun i H v H' _ q y => ?_⟩
  · have h1 : i < xs.length := by omega
    have h2 : i < ys.length := by omega
    exact ⟨xs, ys, xs[i], ys[i], q.1, q.2, by simp [h1], by simp [h2]⟩
  · obtain ⟨T, x, z, h1, h2, h3, h4, h5⟩ := y
    exact ⟨T, x, z, h1, h2, h3, h4 xs q.1, h5 ys q.2⟩
theorem set_shift {leaf : Str} {M : Mak} {i j : Nat} (h : setR leaf M i = setR leaf M j) : ∀ s, setR leaf M (i + s) = setR leaf M (j + s)
  | 0 => h
  | s + 1 => by
    rw [← Nat.add_assoc, ← Nat.add_assoc, set_succ, set_succ, set_shift h s]
/-- the kinds at a rank are those at its base -/
theorem set_base {leaf : Str} {M : Mak} {L t : Nat} (h : Turn leaf M L t) (r : Nat) : setR leaf M (if r < L then r else t + (r - t) % (L - t)) = setR leaf M r := by
  have hlt := h.lt
  have one : ∀ c s, setR leaf M (t + s + (L - t) * c) = setR leaf M (t + s) := fun c => by
    induction c with
    | zero => exact fun s => by rw [Nat.mul_zero, Nat.add_zero]
    | succ c ih =>
      intro s
      have h1 := ih (s + (L - t))
      have h2 := set_shift h.eq s
      rw [show t + s + (L - t) * (c + 1) = t + (s + (L - t)) + (L - t) * c by rw [Nat.mul_add, Nat.mul_one]; omega, h1, show t + (s + (L - t)) = L + s by omega]
      exact h2.symm
  by_cases c : r < L
  · rw [if_pos c]
  · rw [if_neg c]
    have h1 := one ((r - t) / (L - t)) ((r - t) % (L - t))
    have h2 := Nat.mod_add_div (r - t) (L - t)
    rw [← h1]
    congr 1
    omega
theorem base_nat {L t r : Nat} (h : t < L) : (baseI L t (r : Int)).toNat = if r < L then r else t + (r - t) % (L - t) := by
  unfold baseI
  by_cases c : r < L
  · rw [if_pos c, if_pos (by omega)]
    exact Int.toNat_natCast r
  · rw [if_neg c, if_neg (by omega)]
    have e : ((r : Int) - t) % ((L : Int) - t) = (((r - t) % (L - t) : Nat) : Int) := by
      rw [Int.natCast_emod]
      congr 1 <;> omega
    rw [e]
    omega
/-! ### is_way, of a way -/
/-! ### values that may be ways -/
/-- no tuple -/
def NoTup (K : PySem.W.Frag) (H : Hp) (v : V) : Prop := ∃ t, TyX K H v t ∧ PySem.W.kitOne K t (.type "tuple") = some false
/-- data of a way -/
def Fits (leaf : Str) (M : Mak) (ds : List PyData) : Prop := ∃ (ys : List Str) (r : Nat) (z : Str), ds = tD ys ∧ IsW leaf M r z ys ∧ z ∈ setR leaf M r
/-- small items -/
def Itm (ds : List PyData) : Prop := ∀ d ∈ ds, d.canLay0 = true ∧ d.depth ≤ 4
theorem sqL_same {K : PySem.W.Frag} {H H' : Hp} (s : Same H H') {a : Addr} {xs : List V} (h : SqL K H a xs) : SqL K H' a xs := by
  rcases h with (h | ⟨o, h⟩) | h
  · exact .inl (.inl (s _ _ h))
  · exact .inl (.inr ⟨o, s _ _ h⟩)
  · exact .inr h
theorem sqT_same {K : PySem.W.Frag} {H H' : Hp} (s : Same H H') {a : Addr} {xs : List V} (h : SqT K H a xs) : SqT K H' a xs := by
  rcases h with (h | ⟨o, h⟩) | h
  · exact .inl (.inl (s _ _ h))
  · exact .inl (.inr ⟨o, s _ _ h⟩)
  · exact .inr h
mutual
theorem dp_same {K : PySem.W.Frag} {H H' : Hp} (s : Same H H') : ∀ (d : PyData) (v : V), Dp K H v d → Dp K H' v d
  | .none, _, h => by cases h; exact .non
  | .bool _, _, h => by cases h; exact .bl _
  | .int _, _, h => by cases h; exact .int _
  | .str _, _, h => by cases h; exact .str _
  | .list ds, _, h => by
    cases h with
    | lst e r => exact .lst (sqL_same s e) (dpAll_same s ds _ r)
  | .tuple ds, _, h => by
    cases h with
    | tup e r => exact .tup (sqT_same s e) (dpAll_same s ds _ r)
  | .dict _, _, h => by cases h
theorem dpAll_same {K : PySem.W.Frag} {H H' : Hp} (s : Same H H') : ∀ (ds : List PyData) (vs : List V), DpAll K H vs ds → DpAll K H' vs ds
  | [], _, h => by cases h; exact .nil
  | d :: ds, _, h => by
    cases h with
    | cons a r => exact .cons (dp_same s d _ a) (dpAll_same s ds _ r)
end
theorem itm_all : ∀ {ds : List PyData}, Itm ds → PyData.canLayAll0 ds = true ∧ PyData.depthAll ds ≤ 4
  | [], _ => ⟨rfl, Nat.zero_le _⟩
  | d :: ds, h => by
    obtain ⟨h1, h2⟩ := h d List.mem_cons_self
    obtain ⟨i1, i2⟩ := itm_all (ds := ds) fun x hx => h x (List.mem_cons_of_mem _ hx)
    exact ⟨by rw [PyData.canLayAll0, h1, i1]; rfl, by rw [PyData.depthAll]; exact Nat.max_le.mpr ⟨h2, i2⟩⟩
theorem itm_shaped {ds : List PyData} (h : Itm ds) : SeqAt.shaped (.tuple ds) = true := by
  obtain ⟨h1, h2⟩ := itm_all h
  unfold SeqAt.shaped
  rw [Bool.and_eq_true]
  exact ⟨h1, decide_eq_true (by rw [PyData.depth]; omega)⟩
theorem Itm.take {ds : List PyData} (h : Itm ds) (n : Nat) : Itm (ds.take n) := fun d hd => h d (List.mem_of_mem_take hd)
theorem dp_all_len {K : PySem.W.Frag} {H : Hp} : ∀ {vs : List V} {ds : List PyData}, DpAll K H vs ds → vs.length = ds.length
  | _, _, .nil => rfl
  | _, _, .cons _ h => by rw [List.length_cons, List.length_cons, dp_all_len h]
theorem dp_at {K : PySem.W.Frag} {H : Hp} : ∀ {vs : List V} {ds : List PyData}, DpAll K H vs ds → ∀ {j : Nat} {v : V}, vs[j]? = some v → ∃ d, ds[j]? = some d ∧ Dp K H v d
  | _, _, .nil, j, v, e => by cases j <;> cases e
  | _, _, .cons h _, 0, v, e => by
    cases e
    exact ⟨_, rfl, h⟩
  | _, _, .cons _ h, j + 1, v, e => dp_at h (j := j) e
theorem dp_take {K : PySem.W.Frag} {H : Hp} : ∀ {vs : List V} {ds : List PyData} (n : Nat), DpAll K H vs ds → DpAll K H (vs.take n) (ds.take n)
  | _, _, 0, _ => by rw [List.take_zero, List.take_zero]; exact .nil
  | _, _, n + 1, .nil => .nil
  | _, _, n + 1, .cons h t => .cons h (dp_take n t)
theorem dp_drop {K : PySem.W.Frag} {H : Hp} : ∀ {vs : List V} {ds : List PyData} (n : Nat), DpAll K H vs ds → DpAll K H (vs.drop n) (ds.drop n)
  | _, _, 0, h => h
  | _, _, n + 1, .nil => .nil
  | _, _, n + 1, .cons h t => dp_drop n t
theorem dp_app {K : PySem.W.Frag} {H : Hp} {ws : List V} {es : List PyData} (h2 : DpAll K H ws es) : ∀ {vs : List V} {ds : List PyData}, DpAll K H vs ds → DpAll K H (vs ++ ws) (ds ++ es)
  | _, _, .nil => h2
  | _, _, .cons h t => .cons h (dp_app h2 t)
theorem dp_txt {K : PySem.W.Frag} {H : Hp} {v : V} {z : Str} (h : Dp K H v (.str z)) : v = .str z := by
  cases h
  rfl
theorem dp_txts {K : PySem.W.Frag} {H : Hp} : ∀ {ys : List Str} {vs : List V}, DpAll K H vs (tD ys) → vs = ys.map V.str
  | [], _, h => by
    cases h
    rfl
  | y :: ys, _, h => by
    cases h with
    | cons h t => rw [dp_txt h, dp_txts t, List.map_cons]
theorem eqv_str {z : Str} {d : PyData} : PyData.eqv (.str z) d = true ↔ d = .str z := by
  cases d with
  | str y =>
    simp [PyData.eqv]
    exact eq_comm
  | _ => simp [PyData.eqv]
theorem eqv_str' {z : Str} {d : PyData} : PyData.eqv d (.str z) = true ↔ d = .str z := by
  cases d <;> simp [PyData.eqv]
theorem in_names {ns : List Str} {d : PyData} : ((tD ns).any fun z => PyData.eqv z d) = true ↔ ∃ y ∈ ns, d = .str y := by
  rw [List.any_eq_true]
  constructor
  · rintro ⟨e, he, h⟩
    obtain ⟨y, hy, rfl⟩ := List.mem_map.mp he
    exact ⟨y, hy, eqv_str.mp h⟩
  · rintro ⟨y, hy, rfl⟩
    exact ⟨.str y, List.mem_map.mpr ⟨y, hy, rfl⟩, eqv_str.mpr rfl⟩
theorem all_names {ns : List Str} : ∀ {ds : List PyData}, (∀ d ∈ ds, ∃ y ∈ ns, d = PyData.str y) → ∃ ys : List Str, ds = tD ys ∧ ∀ y ∈ ys, y ∈ ns
  | [], _ => ⟨[], rfl, nofun⟩
  | d :: ds, h => by
    obtain ⟨y, hy, rfl⟩ := h d List.mem_cons_self
    obtain ⟨ys, rfl, h2⟩ := all_names (ds := ds) fun x hx => h x (List.mem_cons_of_mem _ hx)
    exact ⟨y :: ys, rfl, fun x hx => by
      rcases List.mem_cons.mp hx with rfl | q
      · exact hy
      · exact h2 x q⟩
theorem tD_inj : ∀ {xs ys : List Str}, tD xs = tD ys → xs = ys
  | [], [], _ => rfl
  | [], _ :: _, h => nomatch h
  | _ :: _, [], h => nomatch h
  | x :: xs, y :: ys, h => by
    have h1 := (List.cons.inj h).1
    have h2 := (List.cons.inj h).2
    rw [PyData.str.inj h1, tD_inj h2]
theorem first_eq {ds : List PyData} {leaf : Str} : PyData.eqv (.tuple (ds.take 1)) (.tuple (tD [leaf])) = true ↔ ds[0]? = some (.str leaf) := by
  rw [PyData.eqv]
  cases ds with
  | nil =>
    constructor
    · intro h
      simp [tD, PyData.eqvAll] at h
    · intro h
      cases h
  | cons d ds =>
    show PyData.eqvAll [d] [.str leaf] = true ↔ some d = some (.str leaf)
    rw [PyData.eqvAll, PyData.eqvAll, Bool.and_true, eqv_str', Option.some.injEq]
theorem fits_first {leaf : Str} {M : Mak} {ds : List PyData} (h : Fits leaf M ds) : ds[0]? = some (.str leaf) := by
  obtain ⟨ys, r, z, rfl, hW, _⟩ := h
  unfold tD
  rw [List.getElem?_map, hW.hd]
  rfl
/-- t[lo:hi] of a tuple, whichever object it is -/
def rSlC (K : PySem.W.Frag) : V → Option Int → Option Int → Hp → VK → Prop := fun x lo hi H Q => ∃ a xs, x = .ref a ∧ H a = some (.tup xs) ∧ ∀ p G, Same H G → G p = some (.tup (cutV xs lo hi)) → Q (.ref p) G
theorem cut_whole {xs : List V} {lo hi : Option Int} (h : HT.sIx xs.length 0 lo = 0 ∧ HT.sIx xs.length xs.length hi = xs.length) : cutV xs lo hi = xs := by
  unfold cutV
  rw [h.1, h.2, List.drop_zero, Nat.sub_zero, List.take_length]
theorem sl_tupC {X : Cx} : SlR X (rSlC X.K) := by
  intro pins s σ H x v vl vu lo hi sl Q I rx hs pl pu h
  obtain ⟨a, xs, rfl, ea, q⟩ := h
  exact sl_tupA pins s σ H _ v vl vu lo hi sl Q I rx hs pl pu ⟨a, xs, rfl, .inl (.inl ea), fun hw => q a H (Same.refl H) (by rw [cut_whole hw]; exact ea), fun _ p np => q p _ (same_new (Same.refl H) np) upd_same⟩
theorem cut_to {xs : List V} (n : Nat) : cutV xs none (some ((n : Nat) : Int)) = xs.take n := by
  unfold cutV
  rw [HT.sIx_nat, HT.sIx_none, List.drop_zero, Nat.sub_zero]
  by_cases h : n ≤ xs.length
  · rw [Nat.min_eq_left h]
  · rw [Nat.min_eq_right (by omega), List.take_length, List.take_of_length_le (by omega)]
theorem cut_from {xs : List V} (n : Nat) : cutV xs (some ((n : Nat) : Int)) none = xs.drop n := by
  unfold cutV
  rw [HT.sIx_nat, HT.sIx_none]
  by_cases h : n ≤ xs.length
  · rw [Nat.min_eq_left h, List.take_of_length_le (by rw [List.length_drop]; exact Nat.le_refl _)]
  · rw [Nat.min_eq_right (by omega), List.drop_length, List.drop_eq_nil_of_le (as := xs) (by omega), List.take_nil]
/-- is each a part of the next? -/
def lkB (M : Mak) (ys : List Str) (j : Nat) : Bool := match ys[j]?, ys[j + 1]? with
  | some y, some u => decide (y ∈ (lookM M u).getD [])
  | _, _ => true
theorem fits_txt {leaf : Str} {M : Mak} {ys : List Str} {r : Nat} {z : Str} (hl : ys.length = r + 1) (h0 : ys[0]? = some leaf) (hz : ys[r]? = some z) : Fits leaf M (tD ys) ↔ (List.range r).all (lkB M ys) = true ∧ z ∈ setR leaf M r := by
  constructor
  · rintro ⟨ys', r', z', e, hW, hS⟩
    have e1 := tD_inj e
    subst e1
    have er : r' = r := by
      have := hW.len
      omega
    subst er
    have hl2 := hW.last
    rw [hz] at hl2
    cases hl2
    refine ⟨List.all_eq_true.mpr fun j hj => ?_, hS⟩
    have hj' := List.mem_range.mp hj
    obtain ⟨y, hy⟩ : ∃ y, ys[j]? = some y := ⟨_, List.getElem?_eq_getElem (by omega)⟩
    obtain ⟨u, hu⟩ : ∃ u, ys[j + 1]? = some u := ⟨_, List.getElem?_eq_getElem (by omega)⟩
    obtain ⟨ps, h1, h2⟩ := hW.link j y u hy hu
    unfold lkB
    rw [hy, hu]
    show decide (y ∈ (lookM M u).getD []) = true
    rw [h1]
    exact decide_eq_true h2
  · rintro ⟨h1, h2⟩
    refine ⟨ys, r, z, rfl, ⟨hl, h0, hz, fun j y u hy hu => ?_⟩, h2⟩
    have hj : j < r := by
      have := (List.getElem?_eq_some_iff.mp hu).1
      omega
    have h3 := List.all_eq_true.mp h1 j (List.mem_range.mpr hj)
    unfold lkB at h3
    rw [hy, hu] at h3
    have h4 : y ∈ (lookM M u).getD [] := of_decide_eq_true h3
    cases e : lookM M u with
    | none =>
      rw [e] at h4
      cases h4
    | some ps =>
      rw [e] at h4
      exact ⟨ps, rfl, h4⟩
section
variable {P : Program} {w : World} {K : PySem.W.Frag} {mg : Str → Option Value} {base : Heap}
/-! ### is_way, of anything -/
def spIs (K : PySem.W.Frag) (C R : Addr) : Sp := fun vs H Q _ => ∃ x kx md leaf M ns L t, ∃ v : V, vs = [V.ref x, v] ∧ RanksAt C R H x kx md leaf M ns L t ∧ Fin6 leaf M ns ∧ Turn leaf M L t ∧
  ((NoTup K H v ∧ Q (.bl false) H) ∨ ∃ (wy : Addr) (us : List V) (ds : List PyData), v = .ref wy ∧ H wy = some (.tup us) ∧ DpAll K H us ds ∧ Itm ds ∧ us.length ≤ 403 ∧ ∀ b H', (b = true ↔ Fits leaf M ds) → Same H H' → Q (.bl b) H')
abbrev NIW : List Str := ["self", "value", "name", "low", "high"]
theorem ok_is {C R f : Addr} {fd : FuncData} (F : Fun K "is_way" "Ranks.is_way" s_Ranks_is_way f fd) (T : Top K mg) (TC : Cl_Kinds K mg C) (TR : Cl_Ranks K mg R) : FnOk P w K mg base CX0 6 f fd ["self", "value"] (spIs K C R) := by
  have kLeaf : CalP P w K mg base C "leaf" 4 (spKLeaf C) := (TC.p_leaf.cal fun f fd F => ok_kleaf F TC).mono (by decide)
  have kHas : CalM P w K mg base C "__contains__" 5 ["self", "value"] (spKHas K C) := (TC.m_contains.cal fun f fd F => ok_khas F T TC).mono (by decide)
  have kGet : CalM P w K mg base C "__getitem__" 4 ["self", "name"] (spKGet C) := (TC.m_getitem.cal fun f fd F => ok_kget F T TC).mono (by decide)
  have rAt : CalM P w K mg base R "kinds_at" 5 ["self", "rank"] (spRAt C R) := TR.m_kinds_at.cal fun f fd F => ok_rat F T TR
  refine F.ok sc_Ranks_is_way (fun vs H Q E h => ?_) (fun cdv A outer s H vs Q E hr h => ?_)
  · obtain ⟨x, kx, md, leaf, M, ns, L, t, v, rfl, _⟩ := h
    rfl
  · obtain ⟨x, kx, md, leaf, M, ns, L, t, val, rfl, hR, f6, hT, hv⟩ := h
    have hu := hu_of hr
    refine ⟨_, pss_cut (ps_if (PW.pt (pw_or (pt_not (pt_val (pe_callB call_isi (by rfl) T.b_isinstance (by decide +kernel) (pa_cons (pv 1) (pa_cons (pe_bltn (v := .ty "tuple") (by rfl) T.b_tuple (by decide +kernel) rfl) pa_nil)))))
          (pw_or1 (pt_cmpR (op_neD hr.units) (pe_slice sl_tupC (pv 1) po_none (po_some pe_int)) (pe_tup (pa_cons (pe_propC (pe_fld (pv 0) rfl) TC.cl kLeaf hr rfl) pa_nil)) (by rfl))))) (pss_one (ps_ret pe_bl)) pss_nil)
      (pss_cut (ps_if (pt_not (pt_val (pe_callB (cr_all rfl) (by rfl) T.b_all (by decide +kernel) (pa_cons (pe_lc (own := [("name", 2)]) (g := gName 2) (tt := tYes) rfl sc_Ranks_is_way.nd (pi_tup (pv 1))
          (blkOk_by (N := NIW) (sc := defScope s_Ranks_is_way) (by decide +kernel)) (fun _ _ _ _ _ => pg_name (i := 2) sc_Ranks_is_way.nd rfl (.inl rfl)) (fun _ _ _ _ _ => pts_nil)
          (fun _ _ _ _ _ => pe_cmpR (op_inM kHas hr) (pv 2) (pe_fldK (K := K) (by exact rfl) (pv 0)) (by rfl))) pa_nil)))) (pss_one (ps_ret pe_bl)) pss_nil)
      (pss_cut (ps_if (pt_not (pt_val (pe_callB (cr_all rfl) (by rfl) T.b_all (by decide +kernel) (pa_cons (pe_lc (own := [("low", 3), ("high", 4)]) (g := gTup K 2 (gCons (gName 3) (gCons (gName 4) gNil))) (tt := tYes) rfl sc_Ranks_is_way.nd (pi_zipA (by rfl) T.b_zip (pa_cons (pv 1) (pa_cons (pe_slice sl_tupC (pv 1) (po_some pe_int) po_none) pa_nil)))
          (blkOk_by (N := NIW) (sc := defScope s_Ranks_is_way) (by decide +kernel)) (fun _ _ _ _ _ => pg_tup rfl (pgs_cons (pg_name (i := 3) sc_Ranks_is_way.nd rfl (.inl rfl)) (pgs_cons (pg_name (i := 4) sc_Ranks_is_way.nd rfl (.inl rfl)) pgs_nil))) (fun _ _ _ _ _ => pts_nil)
          (fun _ _ _ _ _ => pe_cmpR (op_inSeqK (K := K) (by exact rfl)) (pv 3) (pe_ixM kGet hr (pe_fldK (K := K) (by exact rfl) (pv 0)) (pv 4) (fun _ _ => rfl)) (by rfl))) pa_nil)))) (pss_one (ps_ret pe_bl)) pss_nil)
      (pss_one (ps_ret (pe_cmpR op_in_seq (pe_ix ix_tup (pv 1) (pe_un un_neg pe_int) (fun _ _ => rfl)) (pe_methC (pl := _) (pv 0) TR.cl rAt hr (pa_cons (pe_op op_sub (pe_callB call_len_seq (by rfl) T.b_len PySem.boot_len (pa_cons (pv 1) pa_nil)) pe_int) pa_nil)) (by rfl)))))), ?_⟩
    have big : 100000 ≤ sizeLine := by decide
    have v := f6.v
    have okN : ∀ y ∈ ns, PyData.strOk y = true := fun y hy => by
      rcases (f6.n.mem y).mp hy with rfl | h
      · exact pool_ok v.lf
      · exact pool_ok (v.keys y h)
    rcases hv with ⟨⟨tt, ty, kit⟩, q⟩ | ⟨wy, us, ds, rfl, ewy, hdp, hI, hl, q⟩
    · refine ⟨fun _ _ => False, ?_, fun _ _ h => h.elim⟩
      refine ⟨_, rfl, _, .ty "tuple", tt, .type "tuple", false, rfl, .ty _, ty, kit, false, rfl, ?_⟩
      show (if (!false) = true then _ else _)
      rw [if_pos (by decide)]
      exact q
    have lus := dp_all_len hdp
    -- a tuple that begins with the leaf
    refine ⟨fun σ' G => σ' = [some (.ref x), some (.ref wy), none, none, none] ∧ Same H G ∧ ds[0]? = some (.str leaf), ?_, ?_⟩
    · obtain ⟨dx, bl, pl, sl, wl, es, ds', hx, hK, _⟩ := id hR
      obtain ⟨dk, _, _, hk, _⟩ := id hK
      have okL : SeqAt.shaped (.tuple (tD [leaf])) = true := shaped_textsT fun y hy => by rw [List.mem_singleton.mp hy]; exact pool_ok v.lf
      refine ⟨_, rfl, _, .ty "tuple", .type "tuple", .type "tuple", true, rfl, .ty _, .base (.tup ewy), kit_ty (by decide +kernel), true, rfl, ?_⟩
      show (if (!true) = true then _ else _)
      rw [if_neg (by decide)]
      refine ⟨_, rfl, 1, rfl, wy, _, rfl, ewy, fun p G s0 ep => ?_⟩
      rw [show (1 : Int) = ((1 : Nat) : Int) from rfl, cut_to] at ep
      refine ⟨_, rfl, x, R, dx, _, _, rfl, s0 _ _ hx, TR.cl, TR.n_kinds, rf_kinds _ _ _ _ _ _, kx, dk, _, rfl, s0 _ _ hk, kx, md, leaf, M, ns, rfl, hK.same s0, by show 1 ≤ sizeLine; omega, fun t nt => ?_⟩
      have s1 := same_new (o := .tup [.str leaf]) (Same.refl G) nt
      have s01 : Same H (upd G t (.tup [.str leaf])) := fun b o e => s1 _ _ (s0 _ _ e)
      refine ⟨.tuple (ds.take 1), .tuple (tD [leaf]), .tup (.inl (.inl (s1 _ _ ep))) (dpAll_same s01 _ _ (dp_take 1 hdp)), .tup (.inl (.inl upd_same)) (dp_texts [leaf]), itm_shaped (hI.take 1), okL, ?_⟩
      refine ⟨_, rfl, ?_⟩
      by_cases c : PyData.eqv (.tuple (ds.take 1)) (.tuple (tD [leaf])) = true
      · rw [c]
        show (if (!true) = true then _ else _)
        rw [if_neg (by decide)]
        exact ⟨rfl, s01, first_eq.mp c⟩
      · rw [Bool.not_eq_true] at c
        rw [c]
        show (if (!false) = true then _ else _)
        rw [if_pos (by decide)]
        exact q false _ ⟨nofun, fun h => by rw [first_eq.mpr (fits_first h)] at c; cases c⟩ s01
    rintro σ' G ⟨rfl, s0, h0⟩
    have ewy0 := s0 _ _ ewy
    have hR0 := hR.same s0
    -- all of them are kinds
    refine ⟨fun σ' G' => σ' = [some (.ref x), some (.ref wy), none, none, none] ∧ Same G G' ∧ ∀ d ∈ ds, ∃ y ∈ ns, d = PyData.str y, ?_, ?_⟩
    · refine ⟨_, rfl, wy, rfl, ⟨_, .inl (.inl ewy0)⟩, fun D hD => ?_⟩
      refine lc_it (g := gName 2) (tt := tYes) (vs := [2]) (walk_tup (K := K) (a := wy) (xs := us)) (fun j G' => G' D = some (.lst (((ds.take j).map fun d => (tD ns).any fun z => PyData.eqv z d).map V.bl)) ∧ Same G G')
        ⟨upd_same, same_new (Same.refl G) hD⟩ (fun j G' _ h => .inl (.inl (h.2 _ _ ewy0))) (fun j u Gx G' hj h hy => ?_) (fun G' h => ?_)
      · obtain ⟨eD, sm⟩ := h
        obtain ⟨rfl, hu2⟩ := hy
        obtain ⟨d, hdj, hdd⟩ := dp_at hdp hu2
        obtain ⟨dx, bl, pl, sl, wl, es, ds', hx, hK, _⟩ := hR0.same sm
        obtain ⟨dk, _, _, hk, _⟩ := id hK
        obtain ⟨i1, i2⟩ := hI d (List.mem_of_getElem? hdj)
        refine ⟨rfl, _, rfl, _, rfl, x, R, dx, _, _, rfl, hx, TR.cl, TR.n_kinds, rf_kinds _ _ _ _ _ _, kx, dk, _, rfl, hk, kx, md, leaf, M, ns, u, rfl, hK, okN, .inl ⟨d, dp_same (fun b o e => sm _ _ (s0 _ _ e)) d _ hdd, i1, by omega, ?_⟩⟩
        refine ⟨_, rfl, _, eD, ?_, ?_, fun b o e => by rw [upd_ne (ne_of_none e hD)]; exact sm b o e⟩
        · rw [List.length_map, List.length_map, List.length_take]
          omega
        · rw [upd_same, take_snoc hdj, List.map_append, List.map_append]
          rfl
      · obtain ⟨eD, sm⟩ := h
        rw [lus, List.take_length] at eD
        refine ⟨D, _, rfl, .inl (.inl eD), ?_⟩
        refine ⟨_, rfl, ?_⟩
        by_cases c : ∀ d ∈ ds, ∃ y ∈ ns, d = PyData.str y
        · have e : ((ds.map fun d => (tD ns).any fun z => PyData.eqv z d).all id) = true := by
            rw [List.all_map]
            exact List.all_eq_true.mpr fun d hd => in_names.mpr (c d hd)
          rw [e]
          show (if (!true) = true then _ else _)
          rw [if_neg (by decide)]
          exact ⟨rfl, sm, c⟩
        · have e : ((ds.map fun d => (tD ns).any fun z => PyData.eqv z d).all id) = false := by
            cases e : ((ds.map fun d => (tD ns).any fun z => PyData.eqv z d).all id) with
            | false => rfl
            | true =>
              rw [List.all_map] at e
              exact absurd (fun d hd => in_names.mp (List.all_eq_true.mp e d hd)) c
          rw [e]
          show (if (!false) = true then _ else _)
          rw [if_pos (by decide)]
          refine q false _ ⟨nofun, fun h => (c ?_).elim⟩ fun b o e => sm _ _ (s0 _ _ e)
          obtain ⟨ys, r, z, rfl, hW, hz⟩ := h
          intro d hd
          obtain ⟨y, hy, rfl⟩ := List.mem_map.mp hd
          obtain ⟨j, hj⟩ := List.getElem?_of_mem hy
          have hjl := (List.getElem?_eq_some_iff.mp hj).1
          rw [hW.len] at hjl
          exact ⟨y, (f6.n.mem y).mpr (set_sub j y (hW.there v hz (r - j) j y (by omega) hj)), rfl⟩
    rintro σ' G1 ⟨rfl, s1, hall⟩
    obtain ⟨ys, rfl, hyn⟩ := all_names hall
    have eus := dp_txts hdp
    subst eus
    obtain ⟨r, hr⟩ : ∃ r, ys.length = r + 1 := by
      cases ys with
      | nil => cases h0
      | cons y ys => exact ⟨ys.length, rfl⟩
    have hy0 : ys[0]? = some leaf := by
      unfold tD at h0
      rw [List.getElem?_map] at h0
      obtain ⟨y, h1, h2⟩ := Option.map_eq_some_iff.mp h0
      rw [h1, PyData.str.inj h2]
    obtain ⟨z, hz⟩ : ∃ z, ys[r]? = some z := ⟨_, List.getElem?_eq_getElem (by omega)⟩
    have fit := fits_txt (M := M) hr hy0 hz
    rw [List.length_map, hr] at hl
    have ewy1 := s1 _ _ ewy0
    have hR1 := hR0.same s1
    have s01 : Same H G1 := fun b o e => s1 _ _ (s0 _ _ e)
    -- each is a part of the next one
    refine ⟨fun σ' G' => σ' = [some (.ref x), some (.ref wy), none, none, none] ∧ Same G1 G' ∧ (List.range r).all (lkB M ys) = true, ?_, ?_⟩
    · refine ⟨_, rfl, _, rfl, 1, rfl, wy, _, rfl, ewy1, fun p G2 s2 ep => ?_⟩
      rw [show (1 : Int) = ((1 : Nat) : Int) from rfl, cut_from, ← List.map_drop] at ep
      have ewy2 := s2 _ _ ewy1
      refine ⟨wy, p, _, _, rfl, .inr ⟨.inl (.inl ewy2), .inl (.inl ep), fun D hD => ?_⟩⟩
      refine lc_it (g := gTup K 2 (gCons (gName 3) (gCons (gName 4) gNil))) (tt := tYes) (vs := [3, 4]) (walk_zipT (K := K) (a := wy) (b := p) (xs := ys.map V.str) (ys := (ys.drop 1).map V.str) rfl) (fun j G' => G' D = some (.lst (((List.range j).map (lkB M ys)).map V.bl)) ∧ Same G2 G')
        ⟨upd_same, same_new (Same.refl G2) hD⟩ (fun j G' _ h => ⟨.inl (.inl (h.2 _ _ ewy2)), .inl (.inl (h.2 _ _ ep))⟩) (fun j u Gx G' hj h hy => ?_) (fun G' h => ?_)
      · obtain ⟨eD0, sm0⟩ := h
        obtain ⟨t', a, b, rfl, nt, rfl, ha, hb⟩ := hy
        obtain ⟨y, hyj, rfl⟩ := at_texts ha
        obtain ⟨u, huj, rfl⟩ := at_texts hb
        rw [List.getElem?_drop, Nat.add_comm] at huj
        have sm : Same G2 (upd Gx t' (.tup [.str y, .str u])) := same_new sm0 nt
        have eD : (upd Gx t' (.tup [.str y, .str u])) D = some (.lst (((List.range j).map (lkB M ys)).map V.bl)) := by
          rw [upd_ne (ne_of_none eD0 nt)]
          exact eD0
        refine ⟨t', _, rfl, .inl (.inl upd_same), rfl, _, _, rfl, _, _, rfl, rfl, rfl, ?_⟩
        generalize upd Gx t' (.tup [.str y, .str u]) = G3 at sm eD
        obtain ⟨dx, bl, pl, sl, wl, es, ds', hx, hK, _⟩ := (hR1.same s2).same sm
        obtain ⟨dk, _, _, hk, _⟩ := id hK
        refine ⟨_, rfl, _, rfl, x, R, dx, _, _, rfl, hx, TR.cl, TR.n_kinds, rf_kinds _ _ _ _ _ _, _, rfl, kx, dk, _, rfl, hk, kx, md, leaf, M, ns, u, rfl, hK, hyn u (List.mem_of_getElem? huj), fun p' G4 s4 hp' => ?_⟩
        have hT' : ∃ ps : List Str, SqT K G4 p' (ps.map V.str) ∧ ps = (lookM M u).getD [] := by
          rcases hp' with ⟨ps', e1, e2⟩ | ⟨e1, e2⟩
          · exact ⟨ps', e2.sq, by rw [e1]; rfl⟩
          · exact ⟨[], .inl (.inl e2), by rw [e1]; rfl⟩
        obtain ⟨ps, hsq, eps⟩ := hT'
        refine ⟨p', _, rfl, .inr hsq, rfl, flat_strs' ps, ?_⟩
        have e4 : inV (V.str y) (ps.map V.str) = lkB M ys j := by
          rw [inV_strs, eps]
          unfold lkB
          rw [hyj, huj]
        rw [e4]
        refine ⟨_, s4 _ _ eD, ?_, ?_, fun b o e => by rw [upd_ne (ne_of_none e hD)]; exact s4 _ _ (sm b o e)⟩
        · rw [List.length_map, List.length_map, List.length_range]
          have := (List.getElem?_eq_some_iff.mp huj).1
          omega
        · rw [upd_same, List.range_succ, List.map_append, List.map_append]
          rfl
      · obtain ⟨eD, sm⟩ := h
        rw [show min (ys.map V.str).length ((ys.drop 1).map V.str).length = r by rw [List.length_map, List.length_map, List.length_drop, hr]; omega] at eD
        refine ⟨D, _, rfl, .inl (.inl eD), ?_⟩
        refine ⟨_, rfl, ?_⟩
        rw [List.all_map]
        show (if (!(List.range r).all (lkB M ys)) = true then _ else _)
        cases c : (List.range r).all (lkB M ys) with
        | true =>
          rw [if_neg (by decide)]
          exact ⟨rfl, fun b o e => sm _ _ (s2 _ _ e), rfl⟩
        | false =>
          rw [if_pos (by decide)]
          exact q false _ ⟨nofun, fun h => by rw [(fit.mp h).1] at c; cases c⟩ fun b o e => sm _ _ (s2 _ _ (s01 _ _ e))
    rintro σ' G2 ⟨rfl, s2, hlk⟩
    have ewy2 := s2 _ _ ewy1
    have hR2 := hR1.same s2
    obtain ⟨dx, bl, pl, sl, wl, es, ds', hx, hK, _⟩ := id hR2
    have hlast : atI (ys.map V.str) (-1) = some (.str z) := by
      unfold atI ixN
      rw [if_neg (by decide), List.length_map, hr, if_pos (by omega)]
      show (ys.map V.str)[(((r + 1 : Nat) : Int) + -1).toNat]? = _
      rw [show (((r + 1 : Nat) : Int) + -1).toNat = r by omega, List.getElem?_map, hz]
      rfl
    refine ⟨_, rfl, _, rfl, wy, _, _, .str z, rfl, rfl, .inl (.inl ewy2), hlast, ?_⟩
    refine ⟨_, rfl, x, dx, _, rfl, hx, rf_no _ _ _ _ _ _ (by decide) (by decide) (by decide) (by decide) (by decide) (by decide), _, rfl, wy, _, rfl, .inr (.inl (.inl ewy2)), _, _, rfl, rfl, x, kx, md, leaf, M, ns, L, t, ((r : Nat) : Int), ?_, hR2, hT, by omega, by unfold TEN60; omega, fun p ep => ?_⟩
    · rw [List.length_map, hr]
      show [V.ref x, V.int (((r + 1 : Nat) : Int) - 1)] = _
      rw [show ((r + 1 : Nat) : Int) - 1 = (r : Nat) by omega]
    rw [base_nat hT.lt, set_base hT r] at ep
    refine ⟨p, _, rfl, .inr (.inl (.inl ep)), rfl, flat_strs' _, ?_⟩
    rw [inV_strs]
    exact q _ _ ⟨fun h => fit.mpr ⟨hlk, of_decide_eq_true h⟩, fun h => decide_eq_true (fit.mp h).2⟩ fun b o e => s2 _ _ (s01 _ _ e)
end
end Kl

set_option maxRecDepth 100000
set_option maxHeartbeats 4000000
namespace L2
open PySem PySem.Spec PyProof.Rows
/-! ### own rules: list.remove of a text, sums of tuples -/
def eqS (z : Str) (u : Value) : Bool := match u with
  | .str y _ => y == z
  | _ => false
theorem eqS_gives {z : Str} {t : Tok} : ∀ {zs : List Str} {us : List Value}, Vals (zs.map V.str) us → ∀ y ∈ us, MeetsSeq.EqGives y (.str z t) (eqS z y)
  | [], _, .nil => fun y hy => nomatch hy
  | x :: zs, _, .cons r rest => fun y hy => by
    obtain ⟨k, rfl⟩ := r
    rcases List.mem_cons.mp hy with rfl | hy
    · show MeetsSeq.EqGives _ _ (x == z)
      rw [← SeqAt.str_beq]
      exact SeqRoads2.EqGives.str x z k t
    · exact eqS_gives rest y hy
theorem eqS_at {z : Str} : ∀ {zs : List Str} {us : List Value}, Vals (zs.map V.str) us → ∀ (m : Nat) (h : m < us.length), eqS z us[m] = true ↔ zs[m]? = some z
  | [], _, .nil, m, h => absurd h (Nat.not_lt_zero _)
  | x :: zs, _, .cons r rest, 0, _ => by
    obtain ⟨k, rfl⟩ := r
    show (x == z) = true ↔ some x = some z
    rw [beq_iff_eq, Option.some_inj]
  | x :: zs, _, .cons r rest, m + 1, h => eqS_at rest m (Nat.lt_of_succ_lt_succ h)
theorem erase_mapS : ∀ (l : List Str) (j : Nat), (l.map V.str).eraseIdx j = (l.eraseIdx j).map V.str
  | [], j => by simp
  | a :: r, 0 => by simp
  | a :: r, j + 1 => by
    have ih := erase_mapS r j
    simp [ih]
section
variable {X : Cx}
def rRemS : V → List V → Hp → VK → Prop := fun x xs H Q => ∃ (l : Addr) (zs : List Str) (z : Str) (j : Nat), x = .ref l ∧ xs = [.str z] ∧ H l = some (.lst (zs.map V.str)) ∧ zs[j]? = some z ∧ (∀ m : Nat, m < j → zs[m]? ≠ some z) ∧ Q .non (upd H l (.lst ((zs.eraseIdx j).map V.str)))
theorem mt_removeS : MtM X "list.remove" rRemS := by
  intro pins s σ H x xs v us Q I rx rxs h
  obtain ⟨l, zs, z, j, rfl, rfl, hH, hj, hno, q⟩ := h
  cases rx
  obtain ⟨u, rfl, ru⟩ := rxs.one
  obtain ⟨t, rfl⟩ := ru
  obtain ⟨hz, its, n, r, hl, e⟩ := I.lstM hH
  rw [List.length_map] at hl hz
  have hjn : j < zs.length := (List.getElem?_eq_some_iff.mp hj).1
  have hjl : j < its.toArray.size := by rw [List.size_toArray]; omega
  refine call_meets PySem.F.slot_list_remove ⟨_, e, rfl⟩ PySem.F.entry_list_remove (PySem.F.args_list_remove_2 _ _)
    (MeetsSeq.list_remove l its.toArray n (.str z t) (eqS z) (fun y hy => eqS_gives r y (by simpa using hy)) j hjl ?_ ?_ (by rw [List.size_toArray]; omega)) ⟨e, ?_⟩
  · exact (eqS_at r j (by simpa using hjl)).mpr hj
  · intro m hm hmj
    cases c : eqS z its.toArray[m] with
    | false => rfl
    | true => exact absurd ((eqS_at r m (by simpa using hm)).mp c) (hno m hmj)
  · have rr := r.eraseIdx j
    rw [erase_mapS] at rr
    refine ⟨.non, _, I.lset (its' := its.eraseIdx j) (t' := s.toks) hH e ?_ rr ?_, rfl, q⟩
    · show its.toArray.eraseIdxIfInBounds j = (its.eraseIdx j).toArray
      rw [List.eraseIdxIfInBounds_toArray]
    · rw [List.length_map]
      have : (zs.eraseIdx j).length ≤ zs.length := by rw [List.length_eraseIdx]; split <;> omega
      omega
/-- t + u, whichever object it is -/
def rCatC : R2 := fun x y H Q => ∃ a b xs ys, x = .ref a ∧ y = .ref b ∧ H a = some (.tup xs) ∧ H b = some (.tup ys) ∧ xs.length + ys.length ≤ sizeLine ∧ ∀ p G, (∀ c o, H c = some o → G c = some o) → G p = some (.tup (xs ++ ys)) → Q (.ref p) G
theorem op_catC : OpR X (binaryOp .Add) rCatC := by
  intro pins s σ H x y v u Q I rx ry h
  obtain ⟨a, b, xs, ys, rfl, rfl, ha, hb, hz, q⟩ := h
  refine op_catA pins s σ H _ _ v u Q I rx ry ⟨a, b, xs, ys, rfl, rfl, .inl (.inl ha), .inl (.inl hb), hz, fun e => q b H (fun _ _ e => e) (by rw [e]; exact hb), fun _ e => q a H (fun _ _ e => e) (by rw [e, List.append_nil]; exact ha), fun _ _ p np => q p _ (fun c o e => ?_) upd_same⟩
  rw [upd_ne (fun z => by rw [z, np] at e; cases e)]
  exact e
end
end L2

set_option maxRecDepth 100000
set_option maxHeartbeats 4000000
namespace Kl
open PySem PySem.Spec PyProof.Rows L2 Gx Mx RZ
section
variable {P : Program} {w : World} {K : PySem.W.Frag} {mg : Str → Option Value} {base : Heap}
/-! ### losers -/
theorem parted_run {H : Hp} {p : Addr} {ps : List Str} {t : Str} {Q : VK} (hp : SqT K H p (ps.map V.str)) (ht : t ∈ ps) (l3 : ps.length ≤ 1000) (q : ∀ r H', Same H H' → SqT K H' r ((partedK ps t).map V.str) → Q (.ref r) H') :
    rSlA K (.ref p) none (some (ps.idxOf t : Nat)) H fun x H1 => ∀ H2, Same H1 H2 → rSlA K (.ref p) (some (((ps.idxOf t : Nat) : Int) + 1)) none H2 fun y H3 => rCatA K x y H3 Q := by
  have hj : ps.idxOf t < ps.length := List.idxOf_lt_length_of_mem ht
  have ln : (ps.map V.str).length = ps.length := List.length_map _
  have big : 1000 < sizeLine := by decide
  generalize hjj : ps.idxOf t = j at hj
  have e1 : HT.sIx (ps.map V.str).length (ps.map V.str).length (some (j : Int)) = j := by
    rw [HT.sIx_nat, ln]
    omega
  have e2 : HT.sIx (ps.map V.str).length 0 (some ((j : Int) + 1)) = j + 1 := by
    rw [show ((j : Int) + 1) = ((j + 1 : Nat) : Int) by omega, HT.sIx_nat, ln]
    omega
  have c1 : cutV (ps.map V.str) none (some (j : Int)) = (ps.take j).map V.str := by
    unfold cutV
    rw [e1, HT.sIx_none, List.drop_zero, List.map_take]
    rfl
  have c2 : cutV (ps.map V.str) (some ((j : Int) + 1)) none = (ps.drop (j + 1)).map V.str := by
    unfold cutV
    rw [e2, HT.sIx_none, List.map_drop]
    exact List.take_of_length_le (by rw [List.length_drop]; omega)
  have hpt : partedK ps t = ps.take j ++ ps.drop (j + 1) := by
    unfold partedK
    rw [hjj]
  refine ⟨p, _, rfl, hp, fun h => ?_, fun _ p1 n1 => ?_⟩
  · rw [e1, ln] at h
    omega
  rw [c1]
  intro H2 s2
  have s1 : Same H H2 := fun b u e => s2 _ _ (same_new (Same.refl H) n1 b u e)
  have x1 : H2 p1 = some (.tup ((ps.take j).map V.str)) := s2 _ _ upd_same
  have hp2 : SqT K H2 p (ps.map V.str) := by
    rcases hp with (h | ⟨o, h⟩) | h
    · exact .inl (.inl (s1 _ _ h))
    · exact .inl (.inr ⟨o, s1 _ _ h⟩)
    · exact .inr h
  refine ⟨p, _, rfl, hp2, fun h => ?_, fun _ p2 n2 => ?_⟩
  · rw [e2] at h
    omega
  rw [c2]
  have s3 : Same H (upd H2 p2 (.tup ((ps.drop (j + 1)).map V.str))) := same_new s1 n2
  have x2 : (upd H2 p2 (.tup ((ps.drop (j + 1)).map V.str))) p1 = some (.tup ((ps.take j).map V.str)) := by
    rw [upd_ne (ne_of_none x1 n2)]
    exact x1
  refine ⟨p1, p2, _, _, rfl, rfl, .inl (.inl x2), .inl (.inl upd_same), ?_, fun h => ?_, fun h h' => ?_, fun h h' p3 n3 => ?_⟩
  · rw [List.length_map, List.length_map, List.length_take, List.length_drop]
    omega
  · have e4 : (partedK ps t).map V.str = (ps.drop (j + 1)).map V.str := by rw [hpt, List.map_append, h, List.nil_append]
    refine q _ _ s3 ?_
    rw [e4]
    exact .inl (.inl upd_same)
  · have e4 : (partedK ps t).map V.str = (ps.take j).map V.str := by rw [hpt, List.map_append, h', List.append_nil]
    refine q _ _ s3 ?_
    rw [e4]
    exact .inl (.inl x2)
  · refine q _ _ (same_new s3 n3) ?_
    rw [hpt, List.map_append]
    exact .inl (.inl upd_same)
theorem slA_mono {H : Hp} {x : V} {lo hi : Option Int} {Q Q' : VK} (h : rSlA K x lo hi H Q) (m : ∀ y H', Q y H' → Q' y H') : rSlA K x lo hi H Q' := by
  obtain ⟨a, xs, rfl, hs, h1, h2⟩ := h
  exact ⟨a, xs, rfl, hs, fun e => m _ _ (h1 e), fun e p n => m _ _ (h2 e p n)⟩
/-- .index of a text that is there -/
theorem idx_no {ps : List Str} {t : Str} {m : Nat} (h : m < ps.idxOf t) : ps[m]? ≠ some t := by
  intro e
  obtain ⟨hm, e⟩ := List.getElem?_eq_some_iff.mp e
  have n : (ps[m] == t) = false := List.not_of_lt_findIdx (p := (· == t)) h
  rw [e, beq_self_eq_true] at n
  cases n
theorem idx_at {ps : List Str} {t : Str} (h : t ∈ ps) : ps[ps.idxOf t]? = some t := by
  have hl := List.idxOf_lt_length_of_mem h
  rw [List.getElem?_eq_getElem hl]
  exact congrArg some (List.getElem_idxOf hl)
def spKLos (K : PySem.W.Frag) (C : Addr) : Sp := fun vs H Q _ => ∃ (x md : Addr) (leaf : Str) (M : Mak) (ns : List Str) (z t : Str) (ps : List Str), vs = [V.ref x, .str z, .str t] ∧ KindsAt C H x md leaf M ns ∧ z ∈ ns ∧ lookM M z = some ps ∧ t ∈ ps ∧ ps.length ≤ 3 ∧
  ∀ p H', Same H H' → SqT K H' p ((partedK ps t).map V.str) → Q (.ref p) H'
theorem ok_klos {C f : Addr} {fd : FuncData} (F : Fun K "losers" "Kinds.losers" s_Kinds_losers f fd) (T : Top K mg) (TC : Cl_Kinds K mg C) : FnOk P w K mg base CX0 3 f fd ["self", "name", "winner"] (spKLos K C) := by
  have cg : CalM P w K mg base C "__getitem__" 1 ["self", "name"] (spKGet C) := TC.m_getitem.cal fun f fd F => ok_kget F T TC
  refine F.ok sc_Kinds_losers (fun vs H Q E h => ?_) (fun cdv A outer s H vs Q E hr h => ?_)
  · obtain ⟨x, md, leaf, M, ns, z, t, ps, rfl, _⟩ := h
    rfl
  · obtain ⟨x, md, leaf, M, ns, z, t, ps, rfl, hK, hz, hl, ht, l3, q⟩ := h
    refine ⟨_, pss_cons (ps_set (i := 3) sc_Kinds_losers.nd rfl (.inl rfl) (pe_ixM cg hr (pv 0) (pv 1) (fun _ _ => rfl)))
      (pss_cons (ps_if (pt_cmpR op_notIn_seq (pv 2) (pv 3) (by rfl)) (pss_one ps_never) pss_nil)
      (pss_cons (ps_set (i := 4) sc_Kinds_losers.nd rfl (.inl rfl) (pe_mG ty_tupZ PySem.F.plainAttrs_tuple PySem.F.slot_tuple_index PySem.F.type_tuple_index mt_tup_index (pv 3) (pa_cons (pv 2) pa_nil)))
      (pss_one (ps_ret (pe_op op_catA (pe_slice sl_tupA (pv 3) po_none (po_some (pv 4))) (pe_slice sl_tupA (pv 3) (po_some (pe_op op_add (pv 4) pe_int)) po_none)))))), ?_⟩
    obtain ⟨dx, nt, kvs, hx, hd, hM, hn⟩ := id hK
    refine ⟨_, rfl, _, rfl, x, dx, _, rfl, hx, x, md, leaf, M, ns, z, rfl, hK, hz, fun p H1 s1 hp => ?_⟩
    have hp : TupZ H1 p (ps.map V.str) := by
      rcases hp with ⟨ps', e, hp⟩ | ⟨e, _⟩
      · rw [hl] at e
        cases e
        exact hp
      · rw [hl] at e
        cases e
    have e : inV (V.str t) (ps.map V.str) = true := by rw [inV_strs, decide_eq_true ht]
    refine ⟨_, rfl, _, rfl, p, _, rfl, .inr hp.sq, rfl, flat_strs' ps, _, rfl, ?_⟩
    simp only [e, if_true, Bool.not_true, Bool.false_eq_true, if_false]
    refine ⟨_, rfl, ⟨p, _, rfl, hp⟩, _, rfl, p, ps, t, ps.idxOf t, rfl, rfl, hp.sq, idx_at ht, fun m hm => idx_no hm, ?_⟩
    have r := parted_run (Q := Q) hp.sq ht (by omega) (fun r H' s' hr' => q r H' (fun b u e => s' _ _ (s1 _ _ e)) hr')
    refine ⟨_, rfl, _, rfl, _, rfl, slA_mono r fun y H2 h => ?_⟩
    exact ⟨_, rfl, _, rfl, _, _, rfl, rfl, _, rfl, h H2 (Same.refl H2)⟩
/-! ### children_of -/
/-- the children along a way: of each kind but the first, its parts but the one before it -/
def kidsF (M : Mak) : List Str → List (List Str)
  | y :: u :: ys => partedK ((lookM M u).getD []) y :: kidsF M (u :: ys)
  | _ => []
theorem kids_len (M : Mak) : ∀ ys : List Str, (kidsF M ys).length = ys.length - 1
  | [] => rfl
  | [_] => rfl
  | y :: u :: ys => by
    show (kidsF M (u :: ys)).length + 1 = ys.length + 1
    rw [kids_len M (u :: ys)]
    rfl
theorem kids_at (M : Mak) : ∀ (ys : List Str) (j : Nat) (y u : Str), ys[j]? = some y → ys[j + 1]? = some u → (kidsF M ys)[j]? = some (partedK ((lookM M u).getD []) y)
  | [], j, y, u, h, _ => by cases j <;> cases h
  | [_], j, y, u, _, h => by cases h
  | a :: b :: ys, 0, y, u, h1, h2 => by
    cases h1
    cases h2
    rfl
  | a :: b :: ys, j + 1, y, u, h1, h2 => kids_at M (b :: ys) j y u h1 h2
/-- tuples of texts, whatever holds them -/
def TxtsAt (K : PySem.W.Frag) (H : Hp) (L : List (Addr × List Str)) : Prop := ∀ q ∈ L, SqT K H q.1 (q.2.map V.str)
theorem TxtsAt.same {H H' : Hp} {L : List (Addr × List Str)} (h : TxtsAt K H L) (s : Same H H') : TxtsAt K H' L := fun q hq => sqT_same s (h q hq)
theorem sqT_lst {K : PySem.W.Frag} {G : Hp} {D a : Addr} {xs ys : List V} {o : HO} (e : G D = some (.lst xs)) (h : SqT K G a ys) : SqT K (upd G D o) a ys := by
  rcases h with (h | ⟨u, h⟩) | h
  · exact .inl (.inl (by rw [upd_ne (fun z => by rw [z, e] at h; cases h)]; exact h))
  · exact .inl (.inr ⟨u, by rw [upd_ne (fun z => by rw [z, e] at h; cases h)]; exact h⟩)
  · exact .inr h
def spKid (K : PySem.W.Frag) (C R Co : Addr) : Sp := fun vs H Q E => ∃ x kx md leaf M ns L t, ∃ v : V, vs = [V.ref x, v] ∧ RanksAt C R H x kx md leaf M ns L t ∧ Fin6 leaf M ns ∧ Turn leaf M L t ∧
  ((NoTup K H v ∧ E (.ref Co) none H) ∨ ∃ (wy : Addr) (us : List V) (ds : List PyData), v = .ref wy ∧ H wy = some (.tup us) ∧ DpAll K H us ds ∧ Itm ds ∧ us.length ≤ 403 ∧ (¬ Fits leaf M ds → ∀ H', Same H H' → E (.ref Co) none H') ∧
    ∀ (ys : List Str) (r : Nat) (z : Str), ds = tD ys → IsW leaf M r z ys → z ∈ setR leaf M r → ∀ (p : Addr) (LL : List (Addr × List Str)) (H' : Hp), Same H H' → H' p = some (.tup (LL.map fun q => V.ref q.1)) → TxtsAt K H' LL → LL.map (·.2) = kidsF M ys → Q (.ref p) H')
abbrev NKD : List Str := ["self", "way", "low", "high"]
theorem ok_kid {C R Co f : Addr} {fd : FuncData} (F : Fun K "children_of" "Ranks.children_of" s_Ranks_children_of f fd) (T : Top K mg) (TC : Cl_Kinds K mg C) (TR : Cl_Ranks K mg R) (XO : XPln K mg "InvalidOperation" "ValueError.__new__" "ValueError.__init__" [.type "ValueError", .type "Exception", .type "BaseException", .type "object"] Co) (XC : XCls K Co) :
    FnG P w K mg base (L2.CX P w) 8 f fd ["self", "way"] (spKid K C R Co) := by
  have rIs : CalM P w K mg base R "is_way" 7 ["self", "value"] (spIs K C R) := (TR.m_is_way.cal fun f fd F => ok_is F T TC TR).mono (by decide)
  have kLos : CalM P w K mg base C "losers" 7 ["self", "name", "winner"] (spKLos K C) := (TC.m_losers.cal fun f fd F => ok_klos F T TC).mono (by decide)
  refine okGX F sc_Ranks_children_of (fun vs H Q E h => ?_) (fun cdv A outer s H vs Q E hg hr h => ?_)
  · obtain ⟨x, kx, md, leaf, M, ns, L, t, v, rfl, _⟩ := h
    rfl
  · obtain ⟨x, kx, md, leaf, M, ns, L, t, val, rfl, hR, f6, hT, hv⟩ := h
    have hu := hu_of hr
    refine ⟨_, pss_cut (ps_if (pt_not (pt_val (pe_methC (pl := _) (pv 0) TR.cl rIs hr (pa_cons (pv 1) pa_nil)))) (pss_one (ps_raise rfl (takes_of rfl rfl rfl rfl) (pmk_P PySem.F.excBase_ValueError XO XC (pa_cons pe_str pa_nil) (by rfl)))) pss_nil)
      (pss_one (ps_ret (pe_callTy call_tuple_of (by rfl) T.b_tuple (by decide +kernel) (pa_cons (pe_lc (own := [("low", 2), ("high", 3)]) (g := gTup K 2 (gCons (gName 2) (gCons (gName 3) gNil))) (tt := tYes) rfl sc_Ranks_children_of.nd (pi_zipA (by rfl) T.b_zip (pa_cons (pv 1) (pa_cons (pe_slice sl_tupC (pv 1) (po_some pe_int) po_none) pa_nil)))
          (blkOk_by (N := NKD) (sc := defScope s_Ranks_children_of) (by decide +kernel)) (fun _ _ _ _ _ => pg_tup rfl (pgs_cons (pg_name (i := 2) sc_Ranks_children_of.nd rfl (.inl rfl)) (pgs_cons (pg_name (i := 3) sc_Ranks_children_of.nd rfl (.inl rfl)) pgs_nil))) (fun _ _ _ _ _ => pts_nil)
          (fun _ _ _ _ _ => pe_methC (pl := _) (pe_fldK (K := K) (by exact rfl) (pv 0)) TC.cl kLos hr (pa_cons (pv 3) (pa_cons (pv 2) pa_nil)))) pa_nil)))), ?_⟩
    have big : 100000 ≤ sizeLine := by decide
    have v := f6.v
    obtain ⟨dx, bl, pl, sl, wl, es, ds', hx, hK, _⟩ := id hR
    rcases hv with ⟨hno, qe⟩ | ⟨wy, us, ds, rfl, ewy, hdp, hI, hl, qe, q⟩
    · refine ⟨fun _ _ => False, ?_, fun _ _ h => h.elim⟩
      refine ⟨_, rfl, x, dx, _, rfl, hx, rf_no _ _ _ _ _ _ (by decide) (by decide) (by decide) (by decide) (by decide) (by decide), _, rfl, x, kx, md, leaf, M, ns, L, t, val, rfl, hR, f6, hT, .inl ⟨hno, ?_⟩⟩
      refine ⟨false, rfl, ?_⟩
      show (if (!false) = true then _ else _)
      rw [if_pos (by decide)]
      exact ⟨by show 1 ≤ 1000; omega, qe⟩
    by_cases c : Fits leaf M ds
    · obtain ⟨ys, r, z, rfl, hW, hz⟩ := id c
      have eus := dp_txts hdp
      subst eus
      refine ⟨fun σ' G => σ' = [some (.ref x), some (.ref wy), none, none] ∧ Same H G, ?_, ?_⟩
      · refine ⟨_, rfl, x, dx, _, rfl, hx, rf_no _ _ _ _ _ _ (by decide) (by decide) (by decide) (by decide) (by decide) (by decide), _, rfl, x, kx, md, leaf, M, ns, L, t, .ref wy, rfl, hR, f6, hT, .inr ⟨wy, _, _, rfl, ewy, hdp, hI, hl, fun b H' hb s => ?_⟩⟩
        refine ⟨b, rfl, ?_⟩
        rw [hb.mpr c]
        show (if (!true) = true then _ else _)
        rw [if_neg (by decide)]
        exact ⟨rfl, s⟩
      rintro σ' G1 ⟨rfl, s1⟩
      have ewy1 := s1 _ _ ewy
      have hR1 := hR.same s1
      refine ⟨_, rfl, _, rfl, 1, rfl, wy, _, rfl, ewy1, fun p G2 s2 ep => ?_⟩
      rw [show (1 : Int) = ((1 : Nat) : Int) from rfl, cut_from, ← List.map_drop] at ep
      have ewy2 := s2 _ _ ewy1
      refine ⟨wy, p, _, _, rfl, .inr ⟨.inl (.inl ewy2), .inl (.inl ep), fun D hD => ?_⟩⟩
      have lz : min (ys.map V.str).length ((ys.drop 1).map V.str).length = r := by
        rw [List.length_map, List.length_map, List.length_drop, hW.len]
        omega
      refine lc_it (g := gTup K 2 (gCons (gName 2) (gCons (gName 3) gNil))) (tt := tYes) (vs := [2, 3]) (walk_zipT (K := K) (a := wy) (b := p) (xs := ys.map V.str) (ys := (ys.drop 1).map V.str) rfl) (fun j G' => ∃ LL : List (Addr × List Str), G' D = some (.lst (LL.map fun q => V.ref q.1)) ∧ TxtsAt K G' LL ∧ LL.map (·.2) = (kidsF M ys).take j ∧ Same G2 G')
        ⟨[], upd_same, nofun, rfl, same_new (Same.refl G2) hD⟩ (fun j G' _ h => by obtain ⟨_, _, _, _, sm⟩ := h; exact ⟨.inl (.inl (sm _ _ ewy2)), .inl (.inl (sm _ _ ep))⟩) (fun j u Gx G' hj h hy => ?_) (fun G' h => ?_)
      · obtain ⟨LL, eD0, hT0, hM0, sm0⟩ := h
        obtain ⟨t', a, b, rfl, nt, rfl, ha, hb⟩ := hy
        obtain ⟨y, hyj, rfl⟩ := at_texts ha
        obtain ⟨u, huj, rfl⟩ := at_texts hb
        rw [List.getElem?_drop, Nat.add_comm] at huj
        have st := same_new (o := .tup [.str y, .str u]) (Same.refl Gx) nt
        have sm : Same G2 (upd Gx t' (.tup [.str y, .str u])) := same_new sm0 nt
        have eD : (upd Gx t' (.tup [.str y, .str u])) D = some (.lst (LL.map fun q => V.ref q.1)) := st _ _ eD0
        have hTT := hT0.same st
        refine ⟨t', _, rfl, .inl (.inl upd_same), rfl, _, _, rfl, _, _, rfl, rfl, rfl, ?_⟩
        generalize upd Gx t' (.tup [.str y, .str u]) = G3 at sm eD hTT
        obtain ⟨ps, hps, hyp⟩ := hW.link j y u hyj huj
        obtain ⟨dx, bl, pl, sl, wl, es, ds', hx, hK, _⟩ := (hR1.same s2).same sm
        obtain ⟨dk, _, _, hk, _⟩ := id hK
        have hun : u ∈ ns := by
          have hjl := (List.getElem?_eq_some_iff.mp huj).1
          rw [hW.len] at hjl
          exact (f6.n.mem u).mpr (set_sub (j + 1) u (hW.there v hz (r - (j + 1)) (j + 1) u (by omega) huj))
        refine ⟨_, rfl, x, R, dx, _, _, rfl, hx, TR.cl, TR.n_kinds, rf_kinds _ _ _ _ _ _, kx, dk, _, rfl, hk, rfl, _, rfl, _, rfl, kx, md, leaf, M, ns, u, y, ps, rfl, hK, hun, hps, hyp, (v.parts _ (lookM_some hps)).2.2.1, fun p' G4 s4 hp' => ?_⟩
        refine ⟨_, s4 _ _ eD, ?_, LL ++ [(p', partedK ps y)], ?_, ?_, ?_, fun b o e => by rw [upd_ne (ne_of_none e hD)]; exact s4 _ _ (sm b o e)⟩
        · rw [List.length_map]
          have h1 := congrArg List.length hM0
          rw [List.length_map, List.length_take, kids_len, hW.len] at h1
          omega
        · rw [upd_same, List.map_append]
          rfl
        · intro q hq
          rcases List.mem_append.mp hq with hq | hq
          · exact sqT_lst (s4 _ _ eD) (sqT_same s4 (hTT q hq))
          · rw [List.mem_singleton.mp hq]
            exact sqT_lst (s4 _ _ eD) hp'
        · rw [List.map_append, hM0, take_snoc (kids_at M ys j y u hyj huj), hps]
          rfl
      · obtain ⟨LL, eD, hTT, hM, sm⟩ := h
        rw [lz, List.take_of_length_le (by rw [kids_len, hW.len]; omega)] at hM
        refine ⟨D, _, rfl, .inl ⟨.inl (.inl eD), fun tq ntq => ?_⟩⟩
        have s5 := same_new (o := .tup (LL.map fun q => V.ref q.1)) (Same.refl G') ntq
        exact q ys r z rfl hW hz tq LL _ (fun b o e => s5 _ _ (sm _ _ (s2 _ _ (s1 _ _ e)))) upd_same (hTT.same s5) hM
    · refine ⟨fun _ _ => False, ?_, fun _ _ h => h.elim⟩
      refine ⟨_, rfl, x, dx, _, rfl, hx, rf_no _ _ _ _ _ _ (by decide) (by decide) (by decide) (by decide) (by decide) (by decide), _, rfl, x, kx, md, leaf, M, ns, L, t, .ref wy, rfl, hR, f6, hT, .inr ⟨wy, _, _, rfl, ewy, hdp, hI, hl, fun b H' hb s => ?_⟩⟩
      refine ⟨b, rfl, ?_⟩
      cases b with
      | true => exact absurd (hb.mp rfl) c
      | false =>
        show (if (!false) = true then _ else _)
        rw [if_pos (by decide)]
        exact ⟨by show 1 ≤ 1000; omega, qe c H' s⟩
end
end Kl

set_option maxRecDepth 100000
set_option maxHeartbeats 4000000
namespace Kl
open PySem PySem.Spec PyProof.Rows L2 Gx Mx RZ
section
variable {P : Program} {w : World} {K : PySem.W.Frag} {mg : Str → Option Value} {base : Heap}
/-! ### _law_without, _law_children -/
def spWo (K : PySem.W.Frag) : Sp := fun vs H Q _ => ∃ (p q : Addr) (ps : List Str) (y : Str), vs = [V.ref p, V.ref q] ∧ SqT K H p (ps.map V.str) ∧ H q = some (.tup [.str y]) ∧ y ∈ ps ∧ ps.length ≤ 3 ∧
  ∀ r H', Same H H' → H' r = some (.tup ((partedK ps y).map V.str)) → Q (.ref r) H'
theorem parted_erase {ps : List Str} {y : Str} : ps.eraseIdx (ps.idxOf y) = partedK ps y := by
  unfold partedK
  rw [List.eraseIdx_eq_take_drop_succ]
theorem ok_wt {f : Addr} {fd : FuncData} (F : Fun K "_law_without" "_law_without" s_law_without f fd) (T : Top K mg) : FnOk P w K mg base CX0 1 f fd ["_law_pool", "_law_parts"] (spWo K) := by
  refine F.ok sc_law_without (fun vs H Q E h => ?_) (fun cdv A outer s H vs Q E hr h => ?_)
  · obtain ⟨p, q, ps, y, rfl, _⟩ := h
    rfl
  · obtain ⟨p, q, ps, y, rfl, hp, hq, hy, l3, qq⟩ := h
    refine ⟨_, pss_cut (ps_set (i := 2) sc_law_without.nd rfl (.inl rfl) (pe_callTy call_list_of (by rfl) T.b_list (by decide +kernel) (pa_cons (pv 0) pa_nil)))
      (pss_cut (ps_for PassesOwn.never rfl (pi_tup (pv 1)) (pg_name (i := 3) sc_law_without.nd rfl (.inl rfl))
        (pss_cons (ps_if (pt_cmpR op_notIn_seq (pv 3) (pv 2) (by rfl)) (pss_one (ps_ret pe_non)) pss_nil)
        (pss_one (ps_expr (pe_bm PySem.F.plainAttrs_list PySem.F.slot_list_remove PySem.F.type_list_remove mt_removeS (pv 2) (pa_cons (pv 3) pa_nil))))))
      (pss_one (ps_ret (pe_callTy call_tuple_of (by rfl) T.b_tuple (by decide +kernel) (pa_cons (pv 2) pa_nil))))), ?_⟩
    refine ⟨fun σ' G => ∃ l : Addr, σ' = [some (.ref p), some (.ref q), some (.ref l), none] ∧ G l = some (.lst (ps.map V.str)) ∧ H l = none ∧ Same H G, ?_, ?_⟩
    · exact ⟨_, rfl, p, _, rfl, .inr hp, fun l nl => ⟨l, rfl, upd_same, nl, same_new (Same.refl H) nl⟩⟩
    rintro σ' G ⟨l, rfl, el, nl, s0⟩
    refine ⟨fun σ' G' => ∃ y3 : Option V, σ' = [some (.ref p), some (.ref q), some (.ref l), y3] ∧ G' l = some (.lst ((partedK ps y).map V.str)) ∧ Same H G', ?_, ?_⟩
    · refine ⟨_, rfl, q, rfl, ⟨_, .inl (.inl (s0 _ _ hq))⟩, ?_⟩
      refine for_it (walk_tup (K := K) (a := q) (xs := [V.str y])) (fun j σ' G' => ∃ y3 : Option V, σ' = [some (.ref p), some (.ref q), some (.ref l), y3] ∧ G' l = some (.lst ((if j = 0 then ps else partedK ps y).map V.str)) ∧ Same H G')
        ⟨none, rfl, el, s0⟩ (fun j σ' G' _ h => by obtain ⟨_, _, _, sm⟩ := h; exact .inl (.inl (sm _ _ hq))) (fun j u σ' Gx G' hj h hy => ?_) (fun σ' G' h => by obtain ⟨y3, e, h1, h2⟩ := h; exact ⟨y3, e, h1, h2⟩)
      obtain ⟨y3, rfl, eL, sm⟩ := h
      obtain ⟨rfl, hu⟩ := hy
      have j0 : j = 0 := by
        have : j < 1 := hj
        omega
      subst j0
      cases hu
      rw [if_pos rfl] at eL
      refine ⟨_, rfl, _, rfl, l, _, rfl, .inl (.inl (.inl eL)), rfl, flat_strs' ps, _, rfl, ?_⟩
      have e4 : inV (V.str y) (ps.map V.str) = true := by rw [inV_strs, decide_eq_true hy]
      simp only [e4, if_true, Bool.not_true, Bool.false_eq_true, if_false]
      refine ⟨_, rfl, ⟨.inl ⟨rfl, _, .inl (.inl eL)⟩, ?_⟩⟩
      refine ⟨_, rfl, l, ps, y, ps.idxOf y, rfl, rfl, eL, idx_at hy, fun m hm => idx_no hm, _, rfl, ?_, fun b o e => ?_⟩
      · rw [upd_same, parted_erase]
        rfl
      · rw [upd_ne (ne_of_none e nl)]
        exact sm _ _ e
    rintro σ' G1 ⟨y3, rfl, eL, sm⟩
    refine ⟨_, rfl, l, _, rfl, .inl ⟨.inl (.inl eL), fun tq ntq => ?_⟩⟩
    exact qq tq _ (same_new sm ntq) upd_same
def spCh (K : PySem.W.Frag) : Sp := fun vs H Q _ => ∃ (pl mk wy : Addr) (leaf z : Str) (kvs : List (Key × V)) (M M1 : Mak) (r : Nat) (ys : List Str), vs = [V.ref pl, V.ref wy] ∧ r ≤ 402 ∧ H pl = some (.dK (bookK leaf mk)) ∧ H mk = some (.dK kvs) ∧ MakAt H kvs M ∧ Vld leaf M ∧ OrdOf M M1 ∧
  H wy = some (.tup (ys.map V.str)) ∧ IsW leaf M1 r z ys ∧ ∀ (p : Addr) (LL : List (Addr × List Str)) (H' : Hp), Same H H' → H' p = some (.tup (LL.map fun q => V.ref q.1)) → TxtsAt K H' LL → LL.map (·.2) = kidsF M1 ys → Q (.ref p) H'
abbrev NCH : List Str := ["_law_plain", "_law_way", "_law_found", "_law_rank"]
theorem ok_ch {f : Addr} {fd : FuncData} (F : Fun K "_law_children" "_law_children" s_law_children f fd) (T : Top K mg) : FnOk P w K mg base CX0 2 f fd ["_law_plain", "_law_way"] (spCh K) := by
  have cw : Cal P w K mg base 1 "_law_without" ["_law_pool", "_law_parts"] (spWo K) := T.d_law_without.cal fun f fd F => ok_wt F T
  refine F.ok sc_law_children (fun vs H Q E h => ?_) (fun cdv A outer s H vs Q E hr h => ?_)
  · obtain ⟨pl, mk, wy, leaf, z, kvs, M, M1, r, ys, rfl, _⟩ := h
    rfl
  · obtain ⟨pl, mk, wy, leaf, z, kvs, M, M1, r, ys, rfl, hr4, epl, emk, hM, hV, hOr, ewy, hW, q⟩ := h
    have hu := hu_of hr
    refine ⟨_, pss_cut (ps_set (i := 2) sc_law_children.nd rfl (.inl rfl) (pe_lst pa_nil))
      (pss_cut (ps_for PassesOwn.never rfl (pi_range1 (by rfl) T.b_range (pa_cons (pe_op op_sub (pe_callB call_len_seq (by rfl) T.b_len PySem.boot_len (pa_cons (pv 1) pa_nil)) pe_int) pa_nil)) (pg_name (i := 3) sc_law_children.nd rfl (.inl rfl))
        (pss_one (ps_expr (pe_bm PySem.F.plainAttrs_list PySem.F.slot_list_append PySem.F.type_list_append mt_append (pv 2) (pa_cons
          (pe_cal cw hr (by rfl) (pa_cons (pe_dget hu (pe_dget hu (pv 0) pe_str (fun _ _ => rfl)) (pe_ix ix_tup (pv 1) (pe_op op_add (pv 3) pe_int) (fun _ _ => rfl)) (fun _ _ => rfl)) (pa_cons (pe_tup (pa_cons (pe_ix ix_tup (pv 1) (pv 3) (fun _ _ => rfl)) pa_nil)) pa_nil))) pa_nil)))))
      (pss_one (ps_ret (pe_callTy call_tuple_of (by rfl) T.b_tuple (by decide +kernel) (pa_cons (pv 2) pa_nil))))), ?_⟩
    have v1 := hOr.vld hV
    refine ⟨fun σ' G => ∃ l : Addr, σ' = [some (.ref pl), some (.ref wy), some (.ref l), none] ∧ G l = some (.lst []) ∧ H l = none ∧ Same H G, ?_, ?_⟩
    · exact ⟨Nat.zero_le _, fun l nl => ⟨l, rfl, upd_same, nl, same_new (Same.refl H) nl⟩⟩
    rintro σ' G ⟨l, rfl, el, nl, s0⟩
    refine ⟨fun σ' G' => ∃ (y3 : Option V) (LL : List (Addr × List Str)), σ' = [some (.ref pl), some (.ref wy), some (.ref l), y3] ∧ G' l = some (.lst (LL.map fun q => V.ref q.1)) ∧ TxtsAt K G' LL ∧ LL.map (·.2) = kidsF M1 ys ∧ Same H G', ?_, ?_⟩
    · refine ⟨_, rfl, wy, _, rfl, .inr (.inl (.inl (s0 _ _ ewy))), _, _, rfl, rfl, _, rfl, ?_, ?_, ?_⟩
      · rw [List.length_map, hW.len]
        omega
      · rw [List.length_map, hW.len]
        omega
      refine for_range (lo := 0) (n := (((ys.map V.str).length : Nat) - (1 : Int) : Int).toNat) (fun i σ' G' => ∃ (y3 : Option V) (LL : List (Addr × List Str)), σ' = [some (.ref pl), some (.ref wy), some (.ref l), y3] ∧ G' l = some (.lst (LL.map fun q => V.ref q.1)) ∧ TxtsAt K G' LL ∧ LL.map (·.2) = (kidsF M1 ys).take i ∧ Same H G')
        ⟨none, [], rfl, el, nofun, rfl, s0⟩ (fun i σ' G' hi hI => ?_) (fun σ' G' hI => ?_)
      · obtain ⟨y3, LL, rfl, eL, hT, hK, sm⟩ := hI
        rw [List.length_map, hW.len] at hi
        have hir : i < r := by omega
        obtain ⟨y, hy⟩ : ∃ y, ys[i]? = some y := ⟨_, List.getElem?_eq_getElem (by rw [hW.len]; omega)⟩
        obtain ⟨u, hu'⟩ : ∃ u, ys[i + 1]? = some u := ⟨_, List.getElem?_eq_getElem (by rw [hW.len]; omega)⟩
        obtain ⟨ps, hps, hyp⟩ := hW.link i y u hy hu'
        have hukM : u ∈ keysOf M := (hOr.keys _).mp (List.mem_map.mpr ⟨_, lookM_some hps, rfl⟩)
        have hMG := hM.same fun a xs h => h.mono sm
        obtain ⟨ps', a, k1, k2, k3⟩ := hMG.key hukM
        rw [← hOr.look, hps] at k1
        cases k1
        rw [show (0 : Int) + (i : Nat) = ((i : Nat) : Int) from Int.zero_add _]
        refine ⟨_, rfl, ⟨.inl ⟨rfl, _, .inl (.inl eL)⟩, ?_⟩⟩
        refine ⟨_, rfl, pl, .ref mk, rfl, .inl ⟨_, Sum.inr "makings", .inl (sm _ _ epl), rfl, (book_mak leaf mk).symm⟩, _, rfl, _, rfl, _, _, rfl, rfl, wy, _, _, .str u, rfl, rfl, .inl (.inl (sm _ _ ewy)), at_way (j := i + 1) hu', mk, .ref a, rfl, .inl ⟨kvs, Sum.inr u, .inl (sm _ _ emk), rfl, k2.symm⟩, ?_⟩
        refine ⟨_, rfl, _, rfl, wy, _, _, .str y, rfl, rfl, .inl (.inl (sm _ _ ewy)), at_way hy, by show 1 ≤ sizeLine; decide, fun q2 nq2 => ?_⟩
        have s2 := same_new (o := .tup [.str y]) (Same.refl G') nq2
        have e2 : (upd G' q2 (.tup [.str y])) q2 = some (.tup [.str y]) := upd_same
        have k3' := k3.mono s2
        have eL2 := s2 _ _ eL
        have hT2 := hT.same s2
        generalize upd G' q2 (.tup [.str y]) = G2 at s2 e2 k3' eL2 hT2
        refine ⟨a, q2, ps, y, rfl, k3'.sq, e2, hyp, (v1.parts _ (lookM_some hps)).2.2.1, fun t G3 s3 et => ?_⟩
        have eL3 := s3 _ _ eL2
        refine ⟨l, _, _, rfl, rfl, eL3, ?_, _, LL ++ [(t, partedK ps y)], rfl, ?_, ?_, ?_, fun b o e => ?_⟩
        · have h1 := congrArg List.length hK
          rw [List.length_map, List.length_take, kids_len, hW.len] at h1
          rw [List.length_map]
          have : (402 : Nat) < sizeLine := by decide
          omega
        · rw [upd_same, List.map_append]
          rfl
        · intro q hq
          rcases List.mem_append.mp hq with hq | hq
          · exact sqT_lst eL3 (sqT_same s3 (hT2 q hq))
          · rw [List.mem_singleton.mp hq]
            exact sqT_lst eL3 (.inl (.inl et))
        · rw [List.map_append, hK, take_snoc (kids_at M1 ys i y u hy hu'), hps]
          rfl
        · rw [upd_ne (ne_of_none e nl)]
          exact s3 _ _ (s2 _ _ (sm _ _ e))
      · obtain ⟨y3, LL, e, h1, h2, h3, h4⟩ := hI
        refine ⟨y3, LL, e, h1, h2, ?_, h4⟩
        rw [h3, List.length_map, hW.len, show (((r + 1 : Nat) : Int) - 1).toNat = r by omega, List.take_of_length_le (by rw [kids_len, hW.len]; omega)]
    rintro σ' G1 ⟨y3, LL, rfl, eL, hT, hK, sm⟩
    refine ⟨_, rfl, l, _, rfl, .inl ⟨.inl (.inl eL), fun tq ntq => ?_⟩⟩
    have s5 := same_new (o := .tup (LL.map fun q => V.ref q.1)) (Same.refl G1) ntq
    exact q tq LL _ (fun b o e => s5 _ _ (sm _ _ e)) upd_same (hT.same s5) hK
end
end Kl

set_option maxRecDepth 100000
set_option maxHeartbeats 4000000
namespace Gx
open PySem PySem.Spec PyProof.Rows L2
/-! ### range(n) as a value, list(range(n)) -/
section
variable {X : Cx}
theorem cr_range1 : CallR X (.type "range") (fun vs H Q => ∃ j, vs = [V.int j] ∧ ∀ p, H p = none → Q (.ref p) (upd H p (.rng 0 j))) := by
  intro pins s σ H vs us Q I r h
  obtain ⟨j, rfl, q⟩ := h
  obtain ⟨u, rfl, rx⟩ := vals1 r
  obtain ⟨t, rfl⟩ := rx
  refine call_range_1 ⟨.ref s.heap.objs.size, upd H s.heap.objs.size (.rng 0 j), I.laid (t' := s.toks + 1 + 1) (fun b o e => Heap.get?_push_of_some _ e) (Nat.le_refl _) ?_, rfl, q _ (I.hok.fresh (Nat.le_refl _))⟩
  exact ⟨s.toks, t, s.toks + 1, Heap.get?_push_size _ rfl⟩
theorem vals_by : ∀ (xs : List V) (us : List Value), xs.length = us.length → (∀ (j : Nat) (x : V) (u : Value), xs[j]? = some x → us[j]? = some u → RelV x u) → Vals xs us
  | [], [], _, _ => .nil
  | [], _ :: _, h, _ => by cases h
  | _ :: _, [], h, _ => by cases h
  | x :: xs, u :: us, h, r => .cons (r 0 x u rfl rfl) (vals_by xs us (Nat.succ.inj h) fun j y v hy hv => r (j + 1) y v hy hv)
theorem call_listRng (hc : X.calm = true) : CallR X (.type "list") (fun vs H Q => ∃ (a : Addr) (n : Nat), vs = [V.ref a] ∧ H a = some (.rng 0 (n : Int)) ∧ n ≤ 100000 ∧ ∀ p, H p = none → Q (.ref p) (upd H p (.lst ((List.range n).map fun i => V.int (i : Nat))))) := by
  intro pins s σ H vs us Q I r h
  obtain ⟨a, n, rfl, ha, hn, q⟩ := h
  rw [Vals.ref1 r]
  obtain ⟨t1, t2, t3, ho⟩ := I.hok a _ ha
  refine PySem.call_list_range (a := 0) (b := (n : Int)) (c := 1) (n := n) (I.ok.hd hc) (show IsRange s.heap a 0 (n : Int) 1 t1 t2 t3 from ho) ?_ ?_ (Nat.le_trans hn (by decide)) fun h' tk acc c hk hS hacc => ?_
  · exact small_one (by decide) (by decide) (by omega) (by omega)
  · rw [rangeSize_one]
    by_cases c : (0 : Int) < (n : Int)
    · rw [if_pos c]
      omega
    · rw [if_neg c]
      omega
  · have len : acc.size = n := hacc.1
    refine ⟨.ref s.heap.objs.size, _, I.laid (t' := tk) hk (Nat.le_refl _) (show ObjOk X.prog X.w _ h' _ (.lst ((List.range n).map fun i => V.int (i : Nat))) from ⟨?_, acc.toList, c, ?_, ?_⟩), rfl, q _ (I.hok.fresh (Nat.le_refl _))⟩
    · rw [List.length_map, List.length_range]
      exact Nat.le_trans hn (by decide)
    · refine vals_by _ _ (by rw [List.length_map, List.length_range, Array.length_toList, len]) fun j x u hx hu => ?_
      rw [List.getElem?_map] at hx
      obtain ⟨i, hi, rfl⟩ := Option.map_eq_some_iff.mp hx
      obtain ⟨h1, h2⟩ := List.getElem?_eq_some_iff.mp hi
      rw [List.getElem_range] at h2
      subst h2
      have hu' : acc[j]? = some u := by rw [← Array.getElem?_toList]; exact hu
      obtain ⟨tk', rfl⟩ := hacc.2 j u hu'
      exact ⟨tk', by rw [Int.zero_add, Int.mul_one]⟩
    · simpa using hS
end
end Gx

set_option maxRecDepth 100000
/-! ### own rule: enumerate(t), t a tuple -/
namespace PySem
open Sem (wp)
abbrev enT (t : Addr) : Obj := { cls := .type "tuple_iterator", data := .fields #[.ref t, .int 0 0] }
set_option maxHeartbeats 1000000 in
theorem meets_enumT (t : Addr) (items : Array Value) :
    Meets (Builtin.«enumerate.__new__» ⟨[.type "enumerate", .ref t], []⟩) (fun _ R s => s.heap.IsTuple t items ∧
      R (.ok (.ret (.ref (s.heap.push (enT t)).objs.size))) { s with heap := (s.heap.push (enT t)).push { cls := .type "enumerate", data := .fields #[.none, .bool false, .ref s.heap.objs.size, rawInt 0, .none, .none] } }) :=
  .of_wp fun prog w A R s h => by
    obtain ⟨hp, g, d, tk, os⟩ := s; obtain ⟨h1, h⟩ := h
    have hsub := sub_enumerate
    have q1 : ∀ {A' : Around} {E : Value → Shared → Prop} {Q : Value → Shared → Prop}, Q (.ref hp.objs.size) ⟨hp.push (enT t), g, d, tk, os⟩ → wpAny (model prog w) A' (pyIter (.ref t)) Q E ⟨hp, g, d, tk, os⟩ :=
      fun q => (begins_tuple t items).iter prog w _ _ ⟨hp, g, d, tk, os⟩ _ h1 q
    wp_walk using q1
    refine wpAny_stack_any fun st => wpAny_pure ?_
    split
    · rename_i c _ _ _ _ _
      cases (c == Value.type "enumerate")
      · wp_walk using q1
        exact ⟨_, rfl, h⟩
      · wp_walk using q1
        exact ⟨_, rfl, h⟩
    · wp_walk using q1
      exact ⟨_, rfl, h⟩
section
variable {prog : Program} {w : World} {A : Around} {E : Value → Shared → Prop} {s : Shared}
theorem call_enumT {t : Addr} {items : Array Value} {Q : Value → Shared → Prop} (ht : s.heap.IsTuple t items)
    (h : ∀ h', IsEnum h' (s.heap.objs.size + 1) s.heap.objs.size 0 .none → h'.IsTupleIter s.heap.objs.size t 0 → h'.objs.size = s.heap.objs.size + 2 →
      (∀ b o, s.heap.get? b = some o → h'.get? b = some o) → Q (.ref (s.heap.objs.size + 1)) { s with heap := h' }) :
    wpAny (model prog w) A (call (.type "enumerate") [.ref t]) Q E s := by
  refine callType_new F.called_enumerate (by decide) (F.typeCall_enumerate_1 _) (F.newCall_enumerate_1 _) (fun obj => F.args_object_init_2 obj _) F.entry_enumerate_new
    (meets_enumT t items) ⟨ht, ?_⟩
  have hz : (s.heap.push (enT t)).objs.size = s.heap.objs.size + 1 := Heap.size_push ..
  show _ ∧ _
  rw [hz]
  have he : IsEnum ((s.heap.push (enT t)).push { cls := .type "enumerate", data := .fields #[.none, .bool false, .ref s.heap.objs.size, rawInt 0, .none, .none] }) (s.heap.objs.size + 1) s.heap.objs.size 0 .none := by
    have := Heap.get?_push_size (s.heap.push (enT t)) (o := { cls := .type "enumerate", data := .fields #[.none, .bool false, .ref s.heap.objs.size, rawInt 0, .none, .none] }) rfl
    rw [hz] at this; exact this
  exact ⟨⟨_, he, rfl⟩, h _ he ⟨_, Heap.get?_push_of_some _ (Heap.get?_push_size _ rfl), rfl, rfl⟩ (by rw [Heap.size_push, hz]) fun b o x => Heap.get?_push_of_some _ (Heap.get?_push_of_some _ x)⟩
end
end PySem
namespace L2
open PySem PySem.Spec PyProof.Rows
set_option maxHeartbeats 4000000
/-- the tuple at a, each item in a new pair with its place -/
def ItNT (K : PySem.W.Frag) (a : Addr) : It :=
  ⟨fun i H => ∃ (xs : List V) (x : V), SqT K H a xs ∧ xs[i]? = some x, fun i H v H' => ∃ T x, v = .ref T ∧ H T = none ∧ H' = upd H T (.tup [.int (i : Nat), x]) ∧ ∀ xs, SqT K H a xs → xs[i]? = some x, fun i H => ∃ xs : List V, SqT K H a xs ∧ xs.length ≤ i⟩
theorem turn_enumT {P : Program} {w : World} {K : PySem.W.Frag} {elts : List Expr} {kk : Nat} {tpos : Pos} (a e it : Addr) (hai : a ≠ it) (hae : a ≠ e) :
    Turn P w K (.Tuple elts kk tpos) (ItNT K a) [e, it] e (fun i h => (∃ old, IsEnum h e it ((i : Nat) : Int) old) ∧ h.IsTupleIter it a i ∧ e ≠ it) where
  mem := by simp
  obj := fun i h st b hb => by
    obtain ⟨⟨old, he⟩, ⟨o, ho, hc, hd⟩, _⟩ := st
    have e' : b = e ∨ b = it := by simpa using hb
    rcases e' with z | z
    · rw [z]; exact ⟨_, he, fun v q => nomatch q⟩
    · rw [z]; exact ⟨o, ho, fun v q => by rw [hd] at q; cases q⟩
  keep := fun i h h' st k => let ⟨⟨old, he⟩, hi, hne⟩ := st; ⟨⟨old, k e (by simp) _ he⟩, hi.at fun o q => k it (by simp) o q, hne⟩
  item := by
    intro X hP hw hK hc i pins s σ H E I hf st hg
    subst hP hw hK
    obtain ⟨⟨old, he⟩, hit, hne⟩ := st
    obtain ⟨xs, x, hq, hx⟩ := hg
    obtain ⟨its, rv, p, hz⟩ := I.tuple hq
    obtain ⟨u, hu, ru⟩ := rv.get hx
    have hp : s.heap.IsTuple a its.toArray := p
    have hel : e < s.heap.objs.size := Heap.lt_size he
    have hil : it < s.heap.objs.size := by obtain ⟨_, q, _⟩ := hit; exact Heap.lt_size q
    have hlt : i < its.toArray.size := by
      have := (List.getElem?_eq_some_iff.mp hu).1
      simpa using this
    refine wpAny_pyNext_enum_itemD (Draws.tuple (A := X.A.in1) (I.ok.hd hc) it a hai its.toArray) he ⟨hit, hp⟩ hlt hne (by simp; exact ⟨hne, hae.symm⟩) fun x' h' tk hx' ho hst' hT hsz hk => ?_
    have ex : x' = u := by
      have h1 : its.toArray[i]? = some u := by simpa using hu
      exact Option.some.inj (hx'.symm.trans h1)
    subst ex
    refine ⟨_, rfl, wpAny_letOwnedTupleGo_enum (s := { s with heap := h', toks := tk + 1 }) ho fun h'' he' sb => ?_⟩
    have hT2 : h''.get? s.heap.objs.size = some { cls := .type "tuple", data := .seq #[.int i tk, x'] } := (sb.2 _ (Nat.ne_of_gt hel)).trans hT
    have new : ObjOk X.prog X.w (upd H s.heap.objs.size (.tup [.int (i : Nat), x])) h'' s.heap.objs.size (.tup [.int (i : Nat), x]) :=
      ⟨by show 2 ≤ sizeLine; decide, [.int i tk, x'], .cons ⟨_, rfl⟩ (.cons ru .nil), ⟨_, hT2, rfl, _, rfl⟩⟩
    have I1 : Inv X pins σ (upd H s.heap.objs.size (.tup [.int (i : Nat), x])) { s with heap := h'', toks := tk + 1 } :=
      I.turnedNew (ch := [e, it]) (fun b ob hb q => (sb.2 b (fun z => hb (by simp [z]))).trans (hk b ob (fun z => hb (by simp [z])) (fun z => hb (by simp [z])) q)) hf (Nat.le_refl _) new
    refine ⟨.ref s.heap.objs.size, _, I1, rfl, ⟨_, x, rfl, I.hok.fresh (Nat.le_refl _), rfl, fun ys hy => by rw [I.tuple_inj hy hq]; exact hx⟩, ⟨⟨x', ?_⟩, hst'.1.at fun o q => (sb.2 it (Ne.symm hne)).trans q, hne⟩, fun b hb => ?_⟩
    · have e1 : ((i + 1 : Nat) : Int) = (i : Int) + 1 := by omega
      rw [e1]; exact he'
    · have hb' : b < s.heap.objs.size := by
        have e' : b = e ∨ b = it := by simpa using hb
        rcases e' with z | z
        · rw [z]; exact hel
        · rw [z]; exact hil
      rw [upd_ne (Nat.ne_of_lt hb')]
      exact (hf b hb).1
  done := by
    intro X hP hw hK hc i pins s σ H E I hf st hg
    subst hP hw hK
    obtain ⟨⟨old, he⟩, hit, hne⟩ := st
    obtain ⟨xs, hq, hx⟩ := hg
    obtain ⟨its, rv, p, hz⟩ := I.tuple hq
    have hp : s.heap.IsTuple a its.toArray := p
    obtain ⟨f0, f1, f2, f3, f4, f5⟩ := hf it (by simp)
    have hl := rv.length
    have hh : X.A.handled = none := I.ok.hd hc
    have D : Draws X.prog X.w X.A.in1 it [it, a] i (fun _ _ => False) (fun j h => j = i ∧ h.IsTupleIter it a i ∧ h.IsTuple a its.toArray) :=
      { live := fun _ _ st => let ⟨o, ho, _⟩ := st.2.1; ⟨o, ho⟩
        frame := fun _ _ _ st hk => ⟨st.1, st.2.1.at fun o e => hk it (by simp) o e, st.2.2.at fun o e => hk a (by simp) o e⟩
        item := fun j s Q E hj st hQ => absurd st.1 (Nat.ne_of_lt hj)
        done := fun s Q E st hE => wpAny_nextOf_tuple_end (A := X.A.in1) hh st.2.1 st.2.2 (by simp; omega) hE }
    exact wpAny_pyNext_enum_endD D he ⟨rfl, hit, hp⟩ fun h' eb => ⟨rfl, I.turned (t' := s.toks) (fun b o hb q => eb b o hb q) f0 f1 f3 f4 f5⟩
  self := fun A i s Q E st h => let ⟨⟨_, he⟩, _⟩ := st; wpAny_pyIter_enum he h
def iEnumT (K : PySem.W.Frag) (ta : TA) : TI := fun σ H R => ta σ H fun vs H1 => ∃ a xs, vs = [.ref a] ∧ SqT K H1 a xs ∧ R (ItNT K a) H1
theorem pi_enumT {X : Cx} {e : Expr} {ta : TA} {p pos tpos : Pos} {elts : List Expr} {kk : Nat} (hg : Gl X "enumerate") (hm : X.mg "enumerate" = none) (ha : PA X [e] ta) (hs : starEach [e] X.env = [(false, eval e X.env)] := by rfl) :
    PI X (.Tuple elts kk tpos) (.Call (.Name "enumerate" p) [e] [] pos) (iEnumT X.K ta) := by
  refine ⟨fun pins s σ H R I h => ?_⟩
  refine Call_ (ld_blt I hg hm boot_enumerate (PyProof.Rows.callWith_type1 (thn (ha.run pos pins s σ H _ I h) fun us s1 ⟨vs, H1, I1, r1, q1⟩ => ?_) hs rfl))
  obtain ⟨a, xs, ex, hq, q⟩ := q1
  subst ex
  cases r1 with
  | cons r rr =>
    cases rr
    cases r
    obtain ⟨its, rv, p', hz⟩ := I1.tuple hq
    have hp : s1.heap.IsTuple a its.toArray := p'
    have hal : a < s1.heap.objs.size := by obtain ⟨_, q, _⟩ := hp; exact Heap.lt_size q
    refine call_enumT hp fun h' he hit hsz hk => wpAny_pyIter_enum he ?_
    have I2 : Inv X pins σ H1 { s1 with heap := h' } := I1.kept (t' := s1.toks) hk
    refine ⟨s1.heap.objs.size + 1, [s1.heap.objs.size + 1, s1.heap.objs.size], _, _, H1, rfl, I2, turn_enumT a (s1.heap.objs.size + 1) s1.heap.objs.size (Nat.ne_of_lt hal) (Nat.ne_of_lt (Nat.lt_succ_of_lt hal)), ⟨⟨.none, he⟩, hit, Nat.succ_ne_self _⟩, fun b hb => ?_, q⟩
    have e' : b = s1.heap.objs.size + 1 ∨ b = s1.heap.objs.size := by simpa using hb
    have hle : s1.heap.objs.size ≤ b := by
      rcases e' with z | z
      · rw [z]; exact Nat.le_add_right _ _
      · rw [z]; exact Nat.le_refl _
    exact I1.fpOk hle (I1.hok.fresh hle)
theorem walk_enumT {K : PySem.W.Frag} {a : Addr} {xs : List V} : Walk (ItNT K a) xs.length (fun H => SqT K H a xs) (YPair (fun i => some (.int (i : Nat))) (fun i => xs[i]?)) := by
  refine ⟨fun i _ hi q => ⟨xs, xs[i], q, by simp [hi]⟩, fun _ q => ⟨xs, q, Nat.le_refl _⟩, fun i H v H' _ q y => ?_⟩
  obtain ⟨T, x, h1, h2, h3, h4⟩ := y
  exact ⟨T, .int (i : Nat), x, h1, h2, h3, rfl, h4 xs q⟩
end L2

set_option maxRecDepth 100000
set_option maxHeartbeats 4000000
namespace Kl
open PySem PySem.Spec PyProof.Rows L2 Gx Mx RZ
/-! ### small data -/
structure Sm (B k : Nat) (d : PyData) : Prop where
  lay : d.canLay0 = true
  dp : d.depth ≤ k
  wt : d.weight ≤ B
  sh : d.showable = true
  is : d.intsShort 13 = true
theorem Sm.str {B k : Nat} {s : Str} (h : PyData.strOk s = true) (hl : s.length ≤ B) : Sm B k (.str s) := ⟨h, Nat.zero_le _, hl, rfl, rfl⟩
theorem Sm.up {B B' k k' : Nat} {d : PyData} (h : Sm B k d) (hB : B ≤ B') (hk : k ≤ k') : Sm B' k' d := ⟨h.lay, Nat.le_trans h.dp hk, Nat.le_trans h.wt hB, h.sh, h.is⟩
theorem Sm.all {B k : Nat} : ∀ {ds : List PyData}, (∀ d ∈ ds, Sm B k d) → PyData.canLayAll0 ds = true ∧ PyData.depthAll ds ≤ k ∧ PyData.weightAll ds ≤ ds.length * (B + 1) ∧ PyData.showableAll ds = true ∧ PyData.intsShortAll 13 ds = true
  | [], _ => ⟨rfl, Nat.zero_le _, Nat.zero_le _, rfl, rfl⟩
  | d :: ds, h => by
    obtain ⟨h1, h2, h3, h4, h5⟩ := h d List.mem_cons_self
    obtain ⟨i1, i2, i3, i4, i5⟩ := Sm.all (ds := ds) fun x hx => h x (List.mem_cons_of_mem _ hx)
    refine ⟨?_, ?_, ?_, ?_, ?_⟩
    · rw [PyData.canLayAll0, h1, i1]; rfl
    · rw [PyData.depthAll]; exact Nat.max_le.mpr ⟨h2, i2⟩
    · rw [PyData.weightAll, List.length_cons, Nat.succ_mul]
      omega
    · rw [PyData.showableAll, h4, i4]; rfl
    · rw [PyData.intsShortAll, h5, i5]; rfl
theorem Sm.tup {B k n B' k' : Nat} {ds : List PyData} (h : ∀ d ∈ ds, Sm B k d) (hn : ds.length ≤ n) (hB : n * (B + 1) ≤ B') (hk : k + 1 ≤ k') : Sm B' k' (.tuple ds) := by
  obtain ⟨i1, i2, i3, i4, i5⟩ := Sm.all h
  have hm : ds.length * (B + 1) ≤ n * (B + 1) := Nat.mul_le_mul_right _ hn
  exact ⟨i1, by rw [PyData.depth]; omega, by rw [PyData.weight]; omega, i4, i5⟩
theorem Sm.lst {B k n B' k' : Nat} {ds : List PyData} (h : ∀ d ∈ ds, Sm B k d) (hn : ds.length ≤ n) (hB : n * (B + 1) ≤ B') (hk : k + 1 ≤ k') : Sm B' k' (.list ds) := by
  obtain ⟨i1, i2, i3, i4, i5⟩ := Sm.all h
  have hm : ds.length * (B + 1) ≤ n * (B + 1) := Nat.mul_le_mul_right _ hn
  exact ⟨i1, by rw [PyData.depth]; omega, by rw [PyData.weight]; omega, i4, i5⟩
theorem Sm.int {B k n : Nat} (h : n ≤ 6) (hB : 3 ≤ B) : Sm B k (.int (n : Int)) := by
  have e : (List.range 7).all (fun n => decide (PyData.weight (.int (n : Int)) ≤ 3) && PyData.showable (.int (n : Int)) && PyData.intsShort 13 (.int (n : Int))) = true := by decide +kernel
  have e2 := List.all_eq_true.mp e n (List.mem_range.mpr (by omega))
  rw [Bool.and_eq_true, Bool.and_eq_true] at e2
  exact ⟨rfl, Nat.zero_le _, Nat.le_trans (of_decide_eq_true e2.1.1) hB, e2.1.2, e2.2⟩
/-- what repr asks of data -/
theorem Sm.repr {B k : Nat} {d : PyData} (h : Sm B k d) (hB : B ≤ 1000000) (hk : k ≤ 60) : d.showable = true ∧ d.hasDict = false ∧ d.depth ≤ 60 ∧ d.shown.length ≤ sizeLine := by
  have hl : PyData.layable0 d = true := by
    show (PyData.canLay0 d && decide (PyData.depth d ≤ 64) && decide (PyData.weight d ≤ 2 ^ 20)) = true
    rw [h.lay, decide_eq_true (show d.depth ≤ 64 from Nat.le_trans h.dp (by omega)), decide_eq_true (show d.weight ≤ 2 ^ 20 from Nat.le_trans h.wt (Nat.le_trans hB (by decide)))]
    rfl
  refine ⟨h.sh, PyData.hasDict_of_layable hl, Nat.le_trans h.dp hk, Nat.le_trans (shown_le13 hl h.is) (by decide)⟩
/-- texts -/
theorem sm_texts {B n : Nat} {zs : List Str} (h : ∀ z ∈ zs, PyData.strOk z = true ∧ z.length ≤ B) (hn : zs.length ≤ n) : Sm (n * (B + 1)) 1 (.tuple (tD zs)) := by
  refine Sm.tup (k := 0) (n := n) (fun d hd => ?_) (by unfold tD; rw [List.length_map]; exact hn) (Nat.le_refl _) (Nat.le_refl _)
  obtain ⟨z, hz, rfl⟩ := List.mem_map.mp hd
  exact Sm.str (h z hz).1 (h z hz).2
/-! ### the children's data and sizes -/
abbrev kD (qs : List (List Str)) : PyData := .tuple (qs.map fun z => .tuple (tD z))
theorem dp_refs {K : PySem.W.Frag} {H : Hp} : ∀ {LL : List (Addr × List Str)}, TxtsAt K H LL → DpAll K H (LL.map fun q => V.ref q.1) ((LL.map (·.2)).map fun z => PyData.tuple (tD z))
  | [], _ => .nil
  | q :: LL, h => .cons (.tup (h q List.mem_cons_self) (dp_texts _)) (dp_refs fun x hx => h x (List.mem_cons_of_mem _ hx))
theorem kid_info {M : Mak} {leaf z : Str} {r : Nat} {ys : List Str} (hW : IsW leaf M r z ys) {j : Nat} {q : List Str} (h : (kidsF M ys)[j]? = some q) : j < r ∧ ∃ y u ps, ys[j]? = some y ∧ ys[j + 1]? = some u ∧ lookM M u = some ps ∧ y ∈ ps ∧ q = partedK ps y := by
  have hj := (List.getElem?_eq_some_iff.mp h).1
  rw [kids_len, hW.len] at hj
  obtain ⟨y, hy⟩ : ∃ y, ys[j]? = some y := ⟨_, List.getElem?_eq_getElem (by rw [hW.len]; omega)⟩
  obtain ⟨u, hu⟩ : ∃ u, ys[j + 1]? = some u := ⟨_, List.getElem?_eq_getElem (by rw [hW.len]; omega)⟩
  obtain ⟨ps, h1, h2⟩ := hW.link j y u hy hu
  refine ⟨by omega, y, u, ps, hy, hu, h1, h2, ?_⟩
  have h3 := kids_at M ys j y u hy hu
  rw [h, h1] at h3
  exact Option.some.inj h3
theorem parted_perm {ps : List Str} {y : Str} (h : y ∈ ps) : (partedK ps y ++ [y]).Perm ps := by
  rw [← parted_erase]
  exact List.perm_append_comm.trans (erase_perm ps _ _ (idx_at h))
theorem parted_mem {ps : List Str} {y x : Str} (h : x ∈ partedK ps y) : x ∈ ps := by
  unfold partedK at h
  rcases List.mem_append.mp h with h | h
  · exact List.mem_of_mem_take h
  · exact List.mem_of_mem_drop h
theorem sm_kids {leaf z : Str} {M : Mak} {r : Nat} {ys : List Str} (v : Vld leaf M) (hW : IsW leaf M r z ys) (hr : r ≤ 402) : Sm 1000000 60 (kD (kidsF M ys)) := by
  refine Sm.tup (B := 27) (k := 1) (n := 402) (fun d hd => ?_) (by rw [List.length_map, kids_len, hW.len]; omega) (by decide) (by decide)
  obtain ⟨q, hq, rfl⟩ := List.mem_map.mp hd
  obtain ⟨j, hj⟩ := List.getElem?_of_mem hq
  obtain ⟨_, y, u, ps, _, _, h1, h2, rfl⟩ := kid_info hW hj
  have l3 : ps.length ≤ 3 := (v.parts _ (lookM_some h1)).2.2.1
  refine sm_texts (B := 8) (n := 3) (fun x hx => ?_) ?_
  · have hp := v.part (lookM_some h1) (parted_mem hx)
    exact ⟨pool_ok hp, pool_len hp⟩
  · have h3 := (parted_perm h2).length_eq
    rw [List.length_append, List.length_singleton] at h3
    omega
theorem siz_step {leaf : Str} {M : Mak} (nd : (keysOf M).Nodup) {j : Nat} {y u : Str} {ps : List Str} (h1 : lookM M u = some ps) (h2 : y ∈ ps) (h3 : ∀ p ∈ ps, p ∈ setR leaf M j) : siz leaf M (j + 1) u = siz leaf M j y + ((partedK ps y).map (siz leaf M j)).sum := by
  rw [siz_succ nd h1 h3, ← ((parted_perm h2).map _).sum_nat, List.map_append, List.sum_append]
  show _ + (siz leaf M j y + 0) = _
  omega
theorem sizeV_in {leaf : Str} {M : Mak} {r : Nat} {z : Str} (h : z ∈ setR leaf M r) : sizeV leaf M r z = .int ((siz leaf M r z : Nat) : Int) := by
  unfold sizeV siz getR
  cases e : lookR (rowsR leaf M r) z with
  | none =>
    exfalso
    have h2 := rowK_get (R := rowsR leaf M r) (z := z) h
    rw [rowK_look, e] at h2
    cases h2
  | some n => rfl
theorem op_notInK {X : Cx} {K : PySem.W.Frag} (hk : X.K = K) : OpR X (compareOp .NotIn) (rIn K true) := by
  subst hk
  exact op_notIn_seq
section
variable {P : Program} {w : World} {K : PySem.W.Frag} {mg : Str → Option Value} {base : Heap}
/-! ### _law_way_right -/
def spWR (C R : Addr) : Sp := fun vs H Q _ => ∃ (ow mk x kx md wy : Addr) (leaf z : Str) (kvs : List (Key × V)) (M M1 : Mak) (ns : List Str) (L t r : Nat) (ys : List Str), vs = [V.ref ow, V.ref x, V.ref wy] ∧ r ≤ 402 ∧ Own H ow mk leaf kvs M ∧ OrdOf M M1 ∧ RanksAt C R H x kx md leaf M1 ns L t ∧ Fin6 leaf M1 ns ∧ Turn leaf M1 L t ∧
  H wy = some (.tup (ys.map V.str)) ∧ IsW leaf M1 r z ys ∧ z ∈ setR leaf M1 r ∧ ∀ H', Same H H' → Q (.bl true) H'
abbrev NWR : List Str := ["_law_own", "_law_ranks", "_law_way", "_law_row", "_law_total", "_law_rank", "_law_digit", "_law_kind"]
theorem ok_wr {C R Co f : Addr} {fd : FuncData} (F : Fun K "_law_way_right" "_law_way_right" s_law_way_right f fd) (T : Top K mg) (TC : Cl_Kinds K mg C) (TR : Cl_Ranks K mg R) (XO : XPln K mg "InvalidOperation" "ValueError.__new__" "ValueError.__init__" [.type "ValueError", .type "Exception", .type "BaseException", .type "object"] Co) (XC : XCls K Co) :
    FnG P w K mg base CX0 9 f fd ["_law_own", "_law_ranks", "_law_way"] (spWR C R) := by
  have rKid : CalMX P w K mg base R "children_of" 8 ["self", "way"] (spKid K C R Co) := (TR.m_children_of.calX fun f fd F => ok_kid F T TC TR XO XC).up (by decide)
  have rAt : CalM P w K mg base R "kinds_at" 8 ["self", "rank"] (spRAt C R) := (TR.m_kinds_at.cal fun f fd F => ok_rat F T TR).mono (by decide)
  have rSize : CalM P w K mg base R "size_of" 8 ["self", "name", "rank"] (spRSize C R) := (TR.m_size_of.cal fun f fd F => ok_rsize F T TC TR).mono (by decide)
  have cb : Cal P w K mg base 8 "_law_as_book" ["_law_own"] spAsB := (T.d_law_as_book.cal fun f fd F => ok_asB F T).mono (by decide)
  have cch : Cal P w K mg base 8 "_law_children" ["_law_plain", "_law_way"] (spCh K) := (T.d_law_children.cal fun f fd F => ok_ch F T).mono (by decide)
  refine okG F sc_law_way_right (fun vs H Q E h => ?_) (fun cdv A outer s H vs Q E hg hr h => ?_)
  · obtain ⟨ow, mk, x, kx, md, wy, leaf, z, kvs, M, M1, ns, L, t, r, ys, rfl, _⟩ := h
    rfl
  · obtain ⟨ow, mk, x, kx, md, wy, leaf, z, kvs, M, M1, ns, L, t, r, ys, rfl, hr4, hO, hOr, hR, f6, hT, ewy, hW, hz, q⟩ := h
    have hu := hu_of hr
    refine ⟨_, pss_cut (ps_par (i := 3) (j := 4) rfl sc_law_way_right.nd rfl rfl (by decide) rfl rfl (pa_cons (pe_methX (pl := _) (E := fun _ => E0) (pv 1) TR.cl rKid hg hr (fun σ => neverAt σ) (pa_cons (pv 2) pa_nil)) (pa_cons pe_int pa_nil)) (by kernel_rfl))
      (pss_cut (ps_if (PW.pt (pw_or (pt_cmpR op_ne (pe_callB (call_reprD hg hr.units) (by rfl) T.b_repr (by decide +kernel) (pa_cons (pv 3) pa_nil))
            (pe_callB (call_reprD hg hr.units) (by rfl) T.b_repr (by decide +kernel) (pa_cons (pe_cal cch hr (by rfl) (pa_cons (pe_cal cb hr (by rfl) (pa_cons (pv 0) pa_nil)) (pa_cons (pv 2) pa_nil))) pa_nil)) (nomark _))
          (pw_or1 (pt_cmpR op_ne (pe_callB call_len_seq (by rfl) T.b_len PySem.boot_len (pa_cons (pv 3) pa_nil)) (pe_op op_sub (pe_callB call_len_seq (by rfl) T.b_len PySem.boot_len (pa_cons (pv 2) pa_nil)) pe_int) (nomark _))))) (pss_one (ps_ret pe_bl)) pss_nil)
      (pss_cut (ps_for PassesOwn.never rfl (pi_enumT (by rfl) T.b_enumerate (pa_cons (pv 3) pa_nil)) (pg_tup (n := 2) rfl (pgs_cons (pg_name (i := 5) sc_law_way_right.nd rfl (.inr rfl)) (pgs_cons (pg_name (i := 6) sc_law_way_right.nd rfl (.inl rfl)) pgs_nil)))
        (pss_cut (ps_if (pt_cmpR (op_neD hr.units) (pe_lc (own := [("_law_kind", 7)]) (g := gName 7) rfl sc_law_way_right.nd (pi_tup (pv 6))
              (blkOk_by (N := NWR) (sc := defScope s_law_way_right) (by decide +kernel)) (fun _ _ _ _ _ => pg_name (i := 7) sc_law_way_right.nd rfl (.inl rfl))
              (fun _ _ _ _ _ => pts_one (pt_cmpR (op_notInK (K := K) (by exact rfl)) (pv 7) (pe_methC (pl := _) (pv 1) TR.cl rAt hr (pa_cons (pv 5) pa_nil)) (by rfl)))
              (fun _ _ _ _ _ => pv 7)) (pe_lst pa_nil) (by rfl)) (pss_one (ps_ret pe_bl)) pss_nil)
        (pss_cut (ps_if (pt_cmpR (op_neD hr.units) (pe_callTy call_tuple_of (by rfl) T.b_tuple (by decide +kernel) (pa_cons (pe_callB cr_sortedTS (by rfl) T.b_sorted (by decide +kernel) (pa_cons (pe_op op_catA (pv 6) (pe_tup (pa_cons (pe_ix ix_tup (pv 2) (pv 5) (fun _ _ => rfl)) pa_nil))) pa_nil)) pa_nil))
              (pe_dget hu (pe_ix ix_list (pv 0) pe_int (fun _ _ => rfl)) (pe_ix ix_tup (pv 2) (pe_op op_add (pv 5) pe_int) (fun _ _ => rfl)) (fun _ _ => rfl)) (by rfl)) (pss_one (ps_ret pe_bl)) pss_nil)
        (pss_one (ps_set (i := 4) sc_law_way_right.nd rfl (.inl rfl) (pe_op op_add (pv 4) (pe_callB (cr_sum rfl) (by rfl) T.b_sum (by decide +kernel) (pa_cons (pe_lc (own := [("_law_kind", 7)]) (g := gName 7) (tt := tYes) rfl sc_law_way_right.nd (pi_tup (pv 6))
              (blkOk_by (N := NWR) (sc := defScope s_law_way_right) (by decide +kernel)) (fun _ _ _ _ _ => pg_name (i := 7) sc_law_way_right.nd rfl (.inl rfl)) (fun _ _ _ _ _ => pts_nil)
              (fun _ _ _ _ _ => pe_methC (pl := _) (pv 1) TR.cl rSize hr (pa_cons (pv 7) (pa_cons (pv 5) pa_nil)))) pa_nil))))))))
      (pss_one (ps_ret (pe_cmpR op_eq (pv 4) (pe_methC (pl := _) (pv 1) TR.cl rSize hr (pa_cons (pe_ix ix_tup (pv 2) (pe_un un_neg pe_int) (fun _ _ => rfl)) (pa_cons (pe_op op_sub (pe_callB call_len_seq (by rfl) T.b_len PySem.boot_len (pa_cons (pv 2) pa_nil)) pe_int) pa_nil))) (nomark _)))))), ?_⟩
    have v1 := f6.v
    have hM2 := f6.n.mem
    have l402 : (402 : Nat) < sizeLine := by decide
    have there : ∀ j y, ys[j]? = some y → y ∈ setR leaf M1 j := fun j y hy => by
      have hj := (List.getElem?_eq_some_iff.mp hy).1
      rw [hW.len] at hj
      exact hW.there v1 hz (r - j) j y (by omega) hy
    have okY : ∀ y ∈ ys, PyData.strOk y = true := fun y hy => by
      obtain ⟨j, hj⟩ := List.getElem?_of_mem hy
      exact pool_ok (set_pool v1 j y (there j y hj))
    have itm : Itm (tD ys) := fun d hd => by
      obtain ⟨y, hy, rfl⟩ := List.mem_map.mp hd
      exact ⟨okY y hy, Nat.zero_le _⟩
    -- the children
    refine ⟨fun σ' G => ∃ (row : Addr) (LL : List (Addr × List Str)), σ' = [some (.ref ow), some (.ref x), some (.ref wy), some (.ref row), some (.int 1), none, none, none] ∧ Same H G ∧ G row = some (.tup (LL.map fun q => V.ref q.1)) ∧ TxtsAt K G LL ∧ LL.map (·.2) = kidsF M1 ys, ?_, ?_⟩
    · obtain ⟨dx, _, _, _, _, _, _, hx, _⟩ := id hR
      refine ⟨_, rfl, x, dx, _, rfl, hx, rf_no _ _ _ _ _ _ (by decide) (by decide) (by decide) (by decide) (by decide) (by decide), _, rfl, x, kx, md, leaf, M1, ns, L, t, .ref wy, rfl, hR, f6, hT, .inr ⟨wy, _, tD ys, rfl, ewy, dp_texts ys, itm, by rw [List.length_map, hW.len]; omega, fun hn => absurd ⟨ys, r, z, rfl, hW, hz⟩ hn, fun ys' r' z' e hW' hz' p LL G s ep hT hM => ?_⟩⟩
      rw [← tD_inj e] at hM
      exact ⟨_, _, rfl, p, LL, rfl, s, ep, hT, hM⟩
    rintro σ' G1 ⟨row, LL, rfl, s1, erow, hTT, hLL⟩
    have lLL : LL.length = r := by
      have := congrArg List.length hLL
      rw [List.length_map, kids_len, hW.len] at this
      omega
    obtain ⟨w1, w2, w3, w4⟩ := (sm_kids v1 hW hr4).repr (by decide) (by decide)
    have dpRow : ∀ {G : Hp} {a : Addr} {L2 : List (Addr × List Str)}, G a = some (.tup (L2.map fun q => V.ref q.1)) → TxtsAt K G L2 → L2.map (·.2) = kidsF M1 ys → Dp K G (.ref a) (kD (kidsF M1 ys)) := fun e h1 h2 => by
      rw [← h2]
      exact .tup (.inl (.inl e)) (dp_refs h1)
    -- those that the law makes
    refine ⟨fun σ' G => σ' = [some (.ref ow), some (.ref x), some (.ref wy), some (.ref row), some (.int 1), none, none, none] ∧ Same G1 G, ?_, ?_⟩
    · have o1 := hO.same s1
      refine ⟨_, rfl, _, kD (kidsF M1 ys), rfl, dpRow erow hTT hLL, w1, w2, w3, w4, ?_⟩
      refine ⟨_, rfl, ow, mk, leaf, rfl, o1.e, fun pb G2 s2 npb epb => ?_⟩
      have o2 := o1.same s2
      refine ⟨_, rfl, pb, mk, wy, leaf, z, kvs, M, M1, r, ys, rfl, hr4, epb, o2.emk, o2.at', o2.v, hOr, s2 _ _ (s1 _ _ ewy), hW, fun p2 LL2 G3 s3 ep2 hT2 hL2 => ?_⟩
      refine ⟨_, kD (kidsF M1 ys), rfl, dpRow ep2 hT2 hL2, w1, w2, w3, w4, ?_⟩
      generalize (kD (kidsF M1 ys)).shown = zz
      refine ⟨rfl, _, rfl, ?_⟩
      rw [decide_eq_true (rfl : V.str zz = V.str zz)]
      show (if (!true) = true then _ else _)
      rw [if_neg (by decide)]
      have s13 : Same G1 G3 := fun b o e => s3 _ _ (s2 _ _ e)
      refine ⟨_, rfl, row, _, rfl, .inr (.inl (.inl (s13 _ _ erow))), _, rfl, wy, _, rfl, .inr (.inl (.inl (s13 _ _ (s1 _ _ ewy)))), _, _, rfl, rfl, rfl, _, rfl, ?_⟩
      rw [List.length_map, List.length_map, hW.len, lLL, decide_eq_true (show V.int ((r : Nat) : Int) = V.int (((r + 1 : Nat) : Int) - 1) by congr 1; omega)]
      show (if (!true) = true then _ else _)
      rw [if_neg (by decide)]
      exact ⟨rfl, s13⟩
    rintro σ' G2 ⟨rfl, s12⟩
    have s02 : Same H G2 := fun b o e => s12 _ _ (s1 _ _ e)
    have erow2 := s12 _ _ erow
    have hT2 := hTT.same s12
    -- one by one
    refine ⟨fun σ' G => ∃ (y5 y6 : Option V), σ' = [some (.ref ow), some (.ref x), some (.ref wy), some (.ref row), some (.int ((siz leaf M1 r z : Nat) : Int)), y5, y6, none] ∧ Same G2 G, ?_, ?_⟩
    · refine ⟨_, rfl, row, _, rfl, .inl (.inl erow2), ?_⟩
      refine for_it (walk_enumT (K := K) (a := row) (xs := LL.map fun q => V.ref q.1)) (fun j σ' G => ∃ (y5 y6 : Option V) (y : Str), σ' = [some (.ref ow), some (.ref x), some (.ref wy), some (.ref row), some (.int ((siz leaf M1 j y : Nat) : Int)), y5, y6, none] ∧ ys[j]? = some y ∧ Same G2 G)
        ⟨none, none, leaf, ?_, hW.hd, Same.refl G2⟩ (fun j σ' G _ h => by obtain ⟨_, _, _, _, _, sm⟩ := h; exact .inl (.inl (sm _ _ erow2))) (fun j u σ' Gx G' hj h hy => ?_) (fun σ' G h => ?_)
      · rw [siz_zero]
        rfl
      · obtain ⟨y5, y6, y, rfl, hyj, sm0⟩ := h
        obtain ⟨t', a, b, rfl, nt, rfl, ha, hb⟩ := hy
        cases ha
        have hb : (LL.map fun q => V.ref q.1)[j]? = some b := hb
        rw [List.getElem?_map] at hb
        obtain ⟨q0, hq0, rfl⟩ := Option.map_eq_some_iff.mp hb
        have hkid : (kidsF M1 ys)[j]? = some q0.2 := by rw [← hLL, List.getElem?_map, hq0]; rfl
        obtain ⟨hjr, y', u, ps, hy', huj, hps, hyp, eq0⟩ := kid_info hW hkid
        rw [hyj] at hy'
        cases hy'
        have sm : Same G2 (upd Gx t' (.tup [.int (j : Nat), .ref q0.1])) := same_new sm0 nt
        refine ⟨t', _, rfl, .inl (.inl upd_same), rfl, _, _, rfl, _, _, rfl, rfl, ?_⟩
        generalize upd Gx t' (.tup [.int (j : Nat), .ref q0.1]) = G3 at sm
        have s03 : Same H G3 := fun b o e => sm _ _ (s02 _ _ e)
        have hq3 : SqT K G3 q0.1 ((partedK ps y).map V.str) := by
          rw [← eq0]
          exact sqT_same sm (hT2 q0 (List.mem_of_getElem? hq0))
        have hsub : ∀ p ∈ ps, p ∈ setR leaf M1 j := by
          obtain ⟨ps', h3, h4⟩ := (mem_succ v1.nd).mp (there (j + 1) u huj)
          rw [hps] at h3
          cases h3
          exact h4
        have lps : ps.length ≤ 3 := (v1.parts _ (lookM_some hps)).2.2.1
        have lps2 : 2 ≤ ps.length := (v1.parts _ (lookM_some hps)).2.1
        have sps : sortedS ps = true := (v1.parts _ (lookM_some hps)).1
        have lpk : (partedK ps y).length + 1 = ps.length := by
          have h3 := (parted_perm hyp).length_eq
          rw [List.length_append, List.length_singleton] at h3
          exact h3
        have okp : SeqAt.shaped (.tuple (tD ps)) = true := shaped_textsT fun p hp => pool_ok (v1.part (lookM_some hps) hp)
        -- they are there
        refine ⟨fun σ' G => σ' = [some (.ref ow), some (.ref x), some (.ref wy), some (.ref row), some (.int ((siz leaf M1 j y : Nat) : Int)), some (.int (j : Nat)), some (.ref q0.1), none] ∧ Same G3 G, ?_, ?_⟩
        · refine ⟨_, rfl, q0.1, rfl, ⟨_, hq3⟩, fun D hD => ?_⟩
          refine lc_it (g := gName 7) (vs := [7]) (walk_tup (K := K) (a := q0.1) (xs := (partedK ps y).map V.str)) (fun k G' => G' D = some (.lst []) ∧ Same G3 G')
            ⟨upd_same, same_new (Same.refl G3) hD⟩ (fun k G' _ h => sqT_same h.2 hq3) (fun k v Gx G' hk h hy => ?_) (fun G' h => ?_)
          · obtain ⟨eD, sm3⟩ := h
            obtain ⟨rfl, hv⟩ := hy
            obtain ⟨p, hp, rfl⟩ := at_texts hv
            have hpS := hsub p (parted_mem (List.mem_of_getElem? hp))
            have hR4 := hR.same fun b o e => sm3 _ _ (s03 _ _ e)
            obtain ⟨dx, _, _, _, _, _, _, hx, _⟩ := id hR4
            refine ⟨rfl, _, rfl, _, rfl, x, dx, _, rfl, hx, rf_no _ _ _ _ _ _ (by decide) (by decide) (by decide) (by decide) (by decide) (by decide), _, rfl, x, kx, md, leaf, M1, ns, L, t, ((j : Nat) : Int), rfl, hR4, hT, by omega, by unfold TEN60; omega, fun tp ep => ?_⟩
            rw [base_nat hT.lt, set_base hT j] at ep
            refine ⟨tp, _, rfl, .inr (.inl (.inl ep)), rfl, flat_strs' _, _, rfl, ?_⟩
            have e4 : inV (V.str p) ((setR leaf M1 j).map V.str) = true := by rw [inV_strs, decide_eq_true hpS]
            simp only [e4, if_true, Bool.not_true, Bool.false_eq_true, if_false]
            exact ⟨eD, sm3⟩
          · obtain ⟨eD, sm3⟩ := h
            refine ⟨by show 0 ≤ sizeLine; omega, fun e0 ne0 => ?_⟩
            have s4 := same_new (o := .lst []) (Same.refl G') ne0
            refine ⟨.list (tD []), .list (tD []), .lst (.inl (.inl (s4 _ _ eD))) (dp_texts []), .lst (.inl (.inl upd_same)) (dp_texts []), shaped_texts (fun z hz => nomatch hz), shaped_texts (fun z hz => nomatch hz), ?_⟩
            rw [PyData.eqv, eqv_texts, decide_eq_true rfl]
            refine ⟨_, rfl, ?_⟩
            show (if (!true) = true then _ else _)
            rw [if_neg (by decide)]
            exact ⟨rfl, fun b o e => s4 _ _ (sm3 _ _ e)⟩
        rintro σ' G4 ⟨rfl, s4⟩
        have s04 : Same H G4 := fun b o e => s4 _ _ (s03 _ _ e)
        have hq4 := sqT_same s4 hq3
        have ewy4 := s04 _ _ ewy
        -- with the one of the way they are the making
        refine ⟨fun σ' G => σ' = [some (.ref ow), some (.ref x), some (.ref wy), some (.ref row), some (.int ((siz leaf M1 j y : Nat) : Int)), some (.int (j : Nat)), some (.ref q0.1), none] ∧ Same G4 G, ?_, ?_⟩
        · refine ⟨_, rfl, _, rfl, _, rfl, wy, _, _, .str y, rfl, rfl, .inl (.inl ewy4), at_way hyj, by show 1 ≤ sizeLine; omega, fun o1 no1 => ?_⟩
          have s5 := same_new (o := .tup [.str y]) (Same.refl G4) no1
          refine ⟨q0.1, o1, _, _, rfl, rfl, sqT_same s5 hq4, .inl (.inl upd_same), ?_, fun e => ?_, fun _ e => (List.cons_ne_nil _ _ e).elim, fun _ _ o2 no2 => ?_⟩
          · rw [List.length_map]
            show (partedK ps y).length + 1 ≤ sizeLine
            omega
          · exfalso
            have := congrArg List.length e
            rw [List.length_map] at this
            have e0 : (partedK ps y).length = 0 := this
            omega
          have s6 := same_new (o := .tup ((partedK ps y).map V.str ++ [.str y])) s5 no2
          have e6 : (upd (upd G4 o1 (.tup [.str y])) o2 (.tup ((partedK ps y).map V.str ++ [.str y]))) o2 = some (.tup ((partedK ps y ++ [y]).map V.str)) := by
            rw [upd_same, List.map_append]
            rfl
          generalize upd (upd G4 o1 (.tup [.str y])) o2 (.tup ((partedK ps y).map V.str ++ [.str y])) = G6 at s6 e6
          refine ⟨o2, partedK ps y ++ [y], rfl, .inl (.inl e6), by rw [List.length_append, List.length_singleton]; omega, fun zs o3 hperm hsrt no3 => ?_⟩
          have ez : zs = ps := sortedS_unique (hperm.trans (parted_perm hyp)) hsrt sps
          subst ez
          have s7 := same_new (o := .lst (zs.map V.str)) s6 no3
          refine ⟨o3, _, rfl, .inl ⟨.inl (.inl upd_same), fun o4 no4 => ?_⟩⟩
          have s8 := same_new (o := .tup (zs.map V.str)) s7 no4
          have e8 : (upd (upd G6 o3 (.lst (zs.map V.str))) o4 (.tup (zs.map V.str))) o4 = some (.tup (zs.map V.str)) := upd_same
          generalize upd (upd G6 o3 (.lst (zs.map V.str))) o4 (.tup (zs.map V.str)) = G8 at s8 e8
          have s08 : Same H G8 := fun b o e => s8 _ _ (s04 _ _ e)
          have o8 := hO.same s08
          have hukM : u ∈ keysOf M := (hOr.keys _).mp (List.mem_map.mpr ⟨_, lookM_some hps, rfl⟩)
          obtain ⟨ps', a, k1, k2, k3⟩ := o8.at'.key hukM
          rw [← hOr.look, hps] at k1
          cases k1
          refine ⟨_, rfl, ow, _, _, _, rfl, rfl, .inl (.inl o8.e), two1, _, rfl, _, rfl, _, _, rfl, rfl, wy, _, _, .str u, rfl, rfl, .inl (.inl (s08 _ _ ewy)), at_way (j := j + 1) huj, mk, .ref a, rfl, .inl ⟨kvs, Sum.inr u, .inl o8.emk, rfl, k2.symm⟩, ?_⟩
          refine ⟨.tuple (tD zs), .tuple (tD zs), .tup (.inl (.inl e8)) (dp_texts _), .tup k3.sq (dp_texts _), okp, okp, ?_⟩
          rw [PyData.eqv, eqv_texts, decide_eq_true rfl]
          refine ⟨_, rfl, ?_⟩
          show (if (!true) = true then _ else _)
          rw [if_neg (by decide)]
          exact ⟨rfl, s8⟩
        rintro σ' G5 ⟨rfl, s5⟩
        have s05 : Same H G5 := fun b o e => s5 _ _ (s04 _ _ e)
        have hq5 := sqT_same s5 hq4
        -- their sizes
        refine ⟨_, rfl, _, rfl, q0.1, rfl, ⟨_, hq5⟩, fun D hD => ?_⟩
        refine lc_it (g := gName 7) (tt := tYes) (vs := [7]) (walk_tup (K := K) (a := q0.1) (xs := (partedK ps y).map V.str)) (fun k G' => G' D = some (.lst ((((partedK ps y).take k).map fun p => ((siz leaf M1 j p : Nat) : Int)).map V.int)) ∧ Same G5 G')
          ⟨upd_same, same_new (Same.refl G5) hD⟩ (fun k G' _ h => sqT_same h.2 hq5) (fun k v Gx G' hk h hy => ?_) (fun G' h => ?_)
        · obtain ⟨eD, sm3⟩ := h
          obtain ⟨rfl, hv⟩ := hy
          obtain ⟨p, hp, rfl⟩ := at_texts hv
          have hpS := hsub p (parted_mem (List.mem_of_getElem? hp))
          have hR4 := hR.same fun b o e => sm3 _ _ (s05 _ _ e)
          obtain ⟨dx, _, _, _, _, _, _, hx, _⟩ := id hR4
          have hpn : p ∈ ns := (f6.n.mem p).mpr (set_sub j p hpS)
          refine ⟨rfl, _, rfl, x, dx, _, rfl, hx, rf_no _ _ _ _ _ _ (by decide) (by decide) (by decide) (by decide) (by decide) (by decide), _, rfl, _, rfl, x, kx, md, leaf, M1, ns, L, t, p, j, rfl, hR4, f6, hpn, by omega, ?_⟩
          rw [sizeV_in hpS]
          refine ⟨_, eD, ?_, ?_, fun b o e => by rw [upd_ne (ne_of_none e hD)]; exact sm3 b o e⟩
          · rw [List.length_map, List.length_map, List.length_take]
            omega
          · rw [upd_same, take_snoc hp, List.map_append, List.map_append]
            rfl
        · obtain ⟨eD, sm3⟩ := h
          rw [List.length_map, List.take_length] at eD
          refine ⟨D, _, rfl, .inl (.inl eD), ?_⟩
          rw [cast_sum]
          refine ⟨_, _, rfl, rfl, some (.int (j : Nat)), some (.ref q0.1), u, ?_, huj, fun b o e => sm3 _ _ (s5 _ _ (s4 _ _ (sm _ _ e)))⟩
          rw [siz_step v1.nd hps hyp hsub, Int.natCast_add]
          rfl
      · obtain ⟨y5, y6, y, e, hy, sm⟩ := h
        rw [List.length_map, lLL] at hy e
        rw [hW.last] at hy
        cases hy
        exact ⟨y5, y6, e, sm⟩
    rintro σ' G3 ⟨y5, y6, rfl, s23⟩
    have s03 : Same H G3 := fun b o e => s23 _ _ (s02 _ _ e)
    have hR3 := hR.same s03
    have ewy3 := s03 _ _ ewy
    obtain ⟨dx, _, _, _, _, _, _, hx, _⟩ := id hR3
    have hlast : atI (ys.map V.str) (-1) = some (.str z) := by
      unfold atI ixN
      rw [if_neg (by decide), List.length_map, hW.len, if_pos (by omega)]
      show (ys.map V.str)[(((r + 1 : Nat) : Int) + -1).toNat]? = _
      rw [show (((r + 1 : Nat) : Int) + -1).toNat = r by omega, List.getElem?_map, hW.last]
      rfl
    have hzn : z ∈ ns := (f6.n.mem z).mpr (set_sub r z hz)
    refine ⟨_, rfl, _, rfl, x, dx, _, rfl, hx, rf_no _ _ _ _ _ _ (by decide) (by decide) (by decide) (by decide) (by decide) (by decide), _, rfl, _, rfl, wy, _, _, .str z, rfl, rfl, .inl (.inl ewy3), hlast, _, rfl, wy, _, rfl, .inr (.inl (.inl ewy3)), _, _, rfl, rfl, x, kx, md, leaf, M1, ns, L, t, z, r, ?_, hR3, f6, hzn, hr4, ?_⟩
    · rw [List.length_map, hW.len]
      show [V.ref x, V.str z, V.int (((r + 1 : Nat) : Int) - 1)] = _
      rw [show ((r + 1 : Nat) : Int) - 1 = (r : Nat) by omega]
    rw [sizeV_in hz]
    refine ⟨rfl, ?_⟩
    rw [decide_eq_true rfl]
    exact q G3 s03
end
end Kl

set_option maxRecDepth 100000
set_option maxHeartbeats 4000000
namespace Kl
open PySem PySem.Spec PyProof.Rows L2 Gx Mx RZ
/-! ### ways, place by place -/
def FP (leaf : Str) (M : Mak) (ds : List PyData) : Prop := ds[0]? = some (.str leaf) ∧ ∀ j, j + 1 < ds.length → ∃ y u ps, ds[j]? = some (.str y) ∧ ds[j + 1]? = some (.str u) ∧ u ∈ setR leaf M (j + 1) ∧ lookM M u = some ps ∧ y ∈ ps
theorem td_at {ys : List Str} {j : Nat} {y : Str} : (tD ys)[j]? = some (.str y) ↔ ys[j]? = some y := by
  unfold tD
  rw [List.getElem?_map]
  constructor
  · intro h
    obtain ⟨x, h1, h2⟩ := Option.map_eq_some_iff.mp h
    rw [h1, PyData.str.inj h2]
  · intro h
    rw [h]
    rfl
theorem all_txt : ∀ {ds : List PyData}, (∀ d ∈ ds, ∃ y, d = PyData.str y) → ∃ ys : List Str, ds = tD ys
  | [], _ => ⟨[], rfl⟩
  | d :: ds, h => by
    obtain ⟨y, rfl⟩ := h d List.mem_cons_self
    obtain ⟨ys, rfl⟩ := all_txt (ds := ds) fun x hx => h x (List.mem_cons_of_mem _ hx)
    exact ⟨y :: ys, rfl⟩
theorem fits_iff {leaf : Str} {M : Mak} (v : Vld leaf M) {ds : List PyData} : Fits leaf M ds ↔ FP leaf M ds := by
  constructor
  · rintro ⟨ys, r, z, rfl, hW, hz⟩
    have there : ∀ j y, ys[j]? = some y → y ∈ setR leaf M j := fun j y hy => by
      have hj := (List.getElem?_eq_some_iff.mp hy).1
      rw [hW.len] at hj
      exact hW.there v hz (r - j) j y (by omega) hy
    refine ⟨td_at.mpr hW.hd, fun j hj => ?_⟩
    have hj' : j + 1 < ys.length := by
      unfold tD at hj
      rw [List.length_map] at hj
      exact hj
    obtain ⟨y, hy⟩ : ∃ y, ys[j]? = some y := ⟨_, List.getElem?_eq_getElem (by omega)⟩
    obtain ⟨u, hu⟩ : ∃ u, ys[j + 1]? = some u := ⟨_, List.getElem?_eq_getElem hj'⟩
    obtain ⟨ps, h1, h2⟩ := hW.link j y u hy hu
    exact ⟨y, u, ps, td_at.mpr hy, td_at.mpr hu, there (j + 1) u hu, h1, h2⟩
  · rintro ⟨h0, hs⟩
    obtain ⟨ys, rfl⟩ : ∃ ys, ds = tD ys := all_txt fun d hd => by
      obtain ⟨j, hj⟩ := List.getElem?_of_mem hd
      cases j with
      | zero =>
        rw [h0] at hj
        exact ⟨leaf, (Option.some.inj hj).symm⟩
      | succ j =>
        obtain ⟨y, u, ps, _, h2, _⟩ := hs j (List.getElem?_eq_some_iff.mp hj).1
        rw [h2] at hj
        exact ⟨u, (Option.some.inj hj).symm⟩
    have lt : (tD ys).length = ys.length := List.length_map _
    rw [lt] at hs
    have hy0 := td_at.mp h0
    have l0 := (List.getElem?_eq_some_iff.mp hy0).1
    obtain ⟨z, hz⟩ : ∃ z, ys[ys.length - 1]? = some z := ⟨_, List.getElem?_eq_getElem (by omega)⟩
    refine ⟨ys, ys.length - 1, z, rfl, ⟨by omega, hy0, hz, fun j y u hy hu => ?_⟩, ?_⟩
    · have hj := (List.getElem?_eq_some_iff.mp hu).1
      obtain ⟨y', u', ps, h1, h2, _, h3, h4⟩ := hs j hj
      rw [td_at.mp h1] at hy
      rw [td_at.mp h2] at hu
      cases hy
      cases hu
      exact ⟨ps, h3, h4⟩
    · by_cases c : ys.length = 1
      · rw [c] at hz ⊢
        rw [show (1 : Nat) - 1 = 0 from rfl] at hz ⊢
        rw [hy0] at hz
        cases hz
        exact mem_zero.mpr rfl
      · obtain ⟨y', u', ps, h1, h2, h5, h3, h4⟩ := hs (ys.length - 2) (by omega)
        rw [show ys.length - 2 + 1 = ys.length - 1 by omega] at h2 h5
        rw [td_at.mp h2] at hz
        cases hz
        exact h5
/-- items that the law puts into ways -/
def Itm2 (ds : List PyData) : Prop := ∀ d ∈ ds, (∃ z, d = .str z ∧ PyData.strOk z = true) ∨ d = .none ∨ (∃ i, d = .int i) ∨ ∃ z, d = .tuple (tD [z]) ∧ PyData.strOk z = true
theorem Itm2.itm {ds : List PyData} (h : Itm2 ds) : Itm ds := fun d hd => by
  rcases h d hd with ⟨z, rfl, hz⟩ | rfl | ⟨i, rfl⟩ | ⟨z, rfl, hz⟩
  · exact ⟨hz, Nat.zero_le _⟩
  · exact ⟨rfl, Nat.zero_le _⟩
  · exact ⟨rfl, Nat.zero_le _⟩
  · refine ⟨?_, ?_⟩
    · show PyData.canLayAll0 (tD [z]) = true
      exact canLay_texts _ fun y hy => by rw [List.mem_singleton.mp hy]; exact hz
    · rw [PyData.depth]
      have := depth_texts [z]
      omega
theorem tyx_sqT {K : PySem.W.Frag} {H : Hp} {p : Addr} {xs : List V} (h : SqT K H p xs) : TyX K H (.ref p) (.type "tuple") := by
  rcases h with (h | ⟨o, h⟩) | ⟨o, its, n, h, c, _⟩
  · exact .base (.tup h)
  · exact .fTuple h
  · exact .kTuple h c
/-- no text -/
theorem item_ty {K : PySem.W.Frag} {H : Hp} {v : V} {d : PyData} (hd : Dp K H v d) (h : (∃ z, d = .str z ∧ PyData.strOk z = true) ∨ d = .none ∨ (∃ i, d = .int i) ∨ ∃ z, d = .tuple (tD [z]) ∧ PyData.strOk z = true) :
    (∃ z, d = .str z ∧ v = .str z) ∨ (∃ n : String, TyX K H v (.type n) ∧ (n = "NoneType" ∨ n = "int" ∨ n = "tuple") ∧ ∀ z, d ≠ .str z) := by
  rcases h with ⟨z, rfl, hz⟩ | rfl | ⟨i, rfl⟩ | ⟨z, rfl, hz⟩
  · cases hd
    exact .inl ⟨z, rfl, rfl⟩
  · cases hd
    exact .inr ⟨_, .base .non, .inl rfl, nofun⟩
  · cases hd
    exact .inr ⟨_, .base (.int i), .inr (.inl rfl), nofun⟩
  · cases hd with
    | tup h _ => exact .inr ⟨_, tyx_sqT h, .inr (.inr rfl), nofun⟩
section
variable {P : Program} {w : World} {K : PySem.W.Frag} {mg : Str → Option Value} {base : Heap}
/-! ### _law_way_fits, of anything -/
def spWF (K : PySem.W.Frag) : Sp := fun vs H Q _ => ∃ (ow mk sz : Addr) (val : V) (leaf : Str) (kvs : List (Key × V)) (M M1 : Mak) (ss : List Addr), vs = [V.ref ow, V.ref sz, val] ∧ Own H ow mk leaf kvs M ∧ OrdOf M M1 ∧ H sz = some (.lst (ss.map V.ref)) ∧ ss.length = 64 ∧ RowsAt H leaf M1 ss ∧
  ((NoTup K H val ∧ Q (.bl false) H) ∨ ∃ (wy : Addr) (us : List V) (ds : List PyData), val = .ref wy ∧ H wy = some (.tup us) ∧ DpAll K H us ds ∧ Itm2 ds ∧ us.length ≤ 64 ∧ ∀ b H', (b = true ↔ Fits leaf M1 ds) → Same H H' → Q (.bl b) H')
theorem ok_wf {f : Addr} {fd : FuncData} (F : Fun K "_law_way_fits" "_law_way_fits" s_law_way_fits f fd) (T : Top K mg) : FnOk P w K mg base CX0 1 f fd ["_law_own", "_law_sizes_here", "_law_value"] (spWF K) := by
  refine F.ok sc_law_way_fits (fun vs H Q E h => ?_) (fun cdv A outer s H vs Q E hr h => ?_)
  · obtain ⟨ow, mk, sz, val, leaf, kvs, M, M1, ss, rfl, _⟩ := h
    rfl
  · obtain ⟨ow, mk, sz, val, leaf, kvs, M, M1, ss, rfl, hO, hOr, esz, lss, hRow, hv⟩ := h
    have hu := hu_of hr
    refine ⟨_, pss_cut (ps_if (PW.pt (pw_or (pt_not (pt_val (pe_callB call_isi (by rfl) T.b_isinstance (by decide +kernel) (pa_cons (pv 2) (pa_cons (pe_bltn (v := .ty "tuple") (by rfl) T.b_tuple (by decide +kernel) rfl) pa_nil)))))
          (pw_or (pt_cmpR (op_eqD hr.units) (pv 2) (pe_tup pa_nil) (by rfl)) (pw_or (pt_cmpR op_gt (pe_callB call_len_seq (by rfl) T.b_len PySem.boot_len (pa_cons (pv 2) pa_nil)) (pe_callB call_len_seq (by rfl) T.b_len PySem.boot_len (pa_cons (pv 1) pa_nil)) (nomark _))
          (pw_or1 (pt_cmpR (op_neD hr.units) (pe_ix ix_tup (pv 2) pe_int (fun _ _ => rfl)) (pe_ix ix_list (pv 0) pe_int (fun _ _ => rfl)) (by rfl))))))) (pss_one (ps_ret pe_bl)) pss_nil)
      (pss_cut (ps_for PassesOwn.never rfl (pi_range2 (by rfl) T.b_range (pa_cons pe_int (pa_cons (pe_callB call_len_seq (by rfl) T.b_len PySem.boot_len (pa_cons (pv 2) pa_nil)) pa_nil))) (pg_name (i := 3) sc_law_way_fits.nd rfl (.inl rfl))
        (pss_cut (ps_if (PW.pt (pw_or (pt_not (pt_val (pe_callB call_isi (by rfl) T.b_isinstance (by decide +kernel) (pa_cons (pe_ix ix_tup (pv 2) (pv 3) (fun _ _ => rfl)) (pa_cons (pe_bltn (v := .ty "str") (by rfl) T.b_str (by decide +kernel) rfl) pa_nil)))))
            (pw_or1 (pt_cmp (pc_dnotin hu (pe_ix ix_tup (pv 2) (pv 3) (fun _ _ => rfl)) (pe_ix ix_list (pv 1) (pv 3) (fun _ _ => rfl))))))) (pss_one (ps_ret pe_bl)) pss_nil)
        (pss_one (ps_if (pt_cmpR op_notIn_seq (pe_ix ix_tup (pv 2) (pe_op op_sub (pv 3) pe_int) (fun _ _ => rfl)) (pe_dget hu (pe_ix ix_list (pv 0) pe_int (fun _ _ => rfl)) (pe_ix ix_tup (pv 2) (pv 3) (fun _ _ => rfl)) (fun _ _ => rfl)) (by rfl)) (pss_one (ps_ret pe_bl)) pss_nil))))
      (pss_one (ps_ret pe_bl))), ?_⟩
    have big : 100000 ≤ sizeLine := by decide
    have hV := hO.v
    have v1 := hOr.vld hV
    rcases hv with ⟨⟨tt, ty, kit⟩, q⟩ | ⟨wy, us, ds, rfl, ewy, hdp, hI, hl, q⟩
    · refine ⟨fun _ _ => False, ?_, fun _ _ h => h.elim⟩
      refine ⟨_, rfl, _, .ty "tuple", tt, .type "tuple", false, rfl, .ty _, ty, kit, false, rfl, ?_⟩
      show (if (!false) = true then _ else _)
      rw [if_pos (by decide)]
      exact q
    have lus := dp_all_len hdp
    have itm := hI.itm
    have okD : ∀ d ∈ ds, SeqAt.shaped d = true := fun d hd => by
      obtain ⟨h1, h2⟩ := itm d hd
      unfold SeqAt.shaped
      rw [h1, decide_eq_true (by omega)]
      rfl
    have okLf : SeqAt.shaped (.str leaf) = true := by
      unfold SeqAt.shaped
      rw [Bool.and_eq_true]
      exact ⟨pool_ok v1.lf, decide_eq_true (Nat.zero_le _)⟩
    refine ⟨fun σ' G => σ' = [some (.ref ow), some (.ref sz), some (.ref wy), none] ∧ Same H G ∧ ds[0]? = some (.str leaf), ?_, ?_⟩
    · refine ⟨_, rfl, _, .ty "tuple", .type "tuple", .type "tuple", true, rfl, .ty _, .base (.tup ewy), kit_ty (by decide +kernel), true, rfl, ?_⟩
      show (if (!true) = true then _ else _)
      rw [if_neg (by decide)]
      refine ⟨_, rfl, by show 0 ≤ sizeLine; omega, fun t nt => ?_⟩
      have s1 := same_new (o := .tup []) (Same.refl H) nt
      refine ⟨.tuple ds, .tuple (tD []), .tup (.inl (.inl (s1 _ _ ewy))) (dpAll_same s1 _ _ hdp), .tup (.inl (.inl upd_same)) (dp_texts []), itm_shaped itm, shaped_textsT (fun z hz => nomatch hz), ?_⟩
      cases ds with
      | nil =>
        rw [show PyData.eqv (.tuple []) (.tuple (tD [])) = true from rfl]
        refine ⟨_, rfl, ?_⟩
        show (if true = true then _ else _)
        rw [if_pos rfl]
        exact q false _ ⟨nofun, fun h => by have := fits_first h; cases this⟩ s1
      | cons d0 ds' =>
        rw [show PyData.eqv (.tuple (d0 :: ds')) (.tuple (tD [])) = false by rw [PyData.eqv]; rfl]
        refine ⟨_, rfl, ?_⟩
        show (if false = true then _ else _)
        rw [if_neg (by decide)]
        refine ⟨_, rfl, wy, _, rfl, .inr (.inl (.inl (s1 _ _ ewy))), _, rfl, sz, _, rfl, .inl (.inl (.inl (s1 _ _ esz))), _, _, rfl, rfl, _, rfl, ?_⟩
        rw [List.length_map, lss]
        refine ite2 (fun c => absurd (of_decide_eq_true c) (by omega)) (fun _ => ?_)
        cases us with
        | nil => cases hdp
        | cons v0 us' =>
          cases hdp with
          | cons hd0 hdp' =>
            have at0 : atI (v0 :: us') 0 = some v0 := atI_nat (j := 0) rfl
            refine ⟨_, rfl, wy, _, 0, v0, rfl, rfl, .inl (.inl (s1 _ _ ewy)), at0, _, rfl, ow, _, _, _, rfl, rfl, .inl (.inl (s1 _ _ hO.e)), two0, d0, .str leaf, dp_same s1 _ _ hd0, .str leaf, okD d0 List.mem_cons_self, okLf, _, rfl, ?_⟩
            by_cases c : PyData.eqv d0 (.str leaf) = true
            · rw [c]
              show (if (!true) = true then _ else _)
              rw [if_neg (by decide)]
              exact ⟨rfl, s1, by rw [eqv_str'.mp c]; rfl⟩
            · rw [Bool.not_eq_true] at c
              rw [c]
              show (if (!false) = true then _ else _)
              rw [if_pos (by decide)]
              refine q false _ ⟨nofun, fun h => ?_⟩ s1
              have h1 := fits_first h
              rw [eqv_str'.mpr (Option.some.inj h1)] at c
              cases c
    rintro σ' G ⟨rfl, s0, h0⟩
    have ewyG := s0 _ _ ewy
    have eszG := s0 _ _ esz
    have hOG := hO.same s0
    have hdpG := dpAll_same s0 _ _ hdp
    refine ⟨fun σ' G' => (∃ y3 : Option V, σ' = [some (.ref ow), some (.ref sz), some (.ref wy), y3]) ∧ G' = G ∧ FP leaf M1 ds, ?_, ?_⟩
    · refine ⟨_, rfl, wy, _, rfl, .inr (.inl (.inl ewyG)), _, _, rfl, ?_, ?_⟩
      · refine ⟨by decide, by decide, by omega, by omega⟩
      refine for_range (lo := 1) (n := ((us.length : Nat) - (1 : Int) : Int).toNat) (fun i σ' G' => (∃ y3 : Option V, σ' = [some (.ref ow), some (.ref sz), some (.ref wy), y3]) ∧ G' = G ∧ ∀ j, j < i → ∃ y u ps, ds[j]? = some (.str y) ∧ ds[j + 1]? = some (.str u) ∧ u ∈ setR leaf M1 (j + 1) ∧ lookM M1 u = some ps ∧ y ∈ ps)
        ⟨⟨none, rfl⟩, rfl, fun j hj => absurd hj (Nat.not_lt_zero _)⟩ (fun i σ' G' hi hI => ?_) (fun σ' G' hI => ?_)
      · obtain ⟨⟨y3, rfl⟩, eG, hP⟩ := hI
        subst eG
        have hir : i + 1 < us.length := by omega
        obtain ⟨y, hy⟩ : ∃ y, ds[i]? = some (.str y) := by
          cases i with
          | zero => exact ⟨leaf, h0⟩
          | succ i =>
            obtain ⟨_, u, _, _, h2, _⟩ := hP i (Nat.lt_succ_self i)
            exact ⟨u, h2⟩
        obtain ⟨v, hvv⟩ : ∃ v, us[i + 1]? = some v := ⟨_, List.getElem?_eq_getElem hir⟩
        obtain ⟨d, hd, hdd⟩ := dp_at hdpG hvv
        obtain ⟨vy, hvy⟩ : ∃ v, us[i]? = some v := ⟨_, List.getElem?_eq_getElem (by omega)⟩
        obtain ⟨dy, hdy, hddy⟩ := dp_at hdpG hvy
        rw [hy] at hdy
        cases hdy
        have evy := dp_txt hddy
        subst evy
        obtain ⟨sa, hsa⟩ : ∃ a, ss[i + 1]? = some a := ⟨_, List.getElem?_eq_getElem (by omega)⟩
        have esa := s0 _ _ (hRow _ sa hsa)
        have e1 : (1 : Int) + (i : Nat) = ((i + 1 : Nat) : Int) := by omega
        have e2 : ((i + 1 : Nat) : Int) - 1 = ((i : Nat) : Int) := by omega
        rw [e1]
        have atV : ∀ (j : Nat) (x : V), us[j]? = some x → atI us ((j : Nat) : Int) = some x := fun j x h => atI_nat h
        have sG : Same H G' := s0
        rcases item_ty hdd (hI d (List.mem_of_getElem? hd)) with ⟨u, rfl, rfl⟩ | ⟨tn, ty, htn, hno⟩
        · refine ⟨fun σ' G2 => σ' = [some (.ref ow), some (.ref sz), some (.ref wy), some (.int ((i + 1 : Nat) : Int))] ∧ G2 = G' ∧ u ∈ setR leaf M1 (i + 1), ?_, ?_⟩
          · refine ⟨_, rfl, _, rfl, wy, _, _, .str u, rfl, rfl, .inl (.inl ewyG), atV _ _ hvv, _, .ty "str", .type "str", .type "str", true, rfl, .ty _, .base (.str u), kit_ty (by decide +kernel), true, rfl, ?_⟩
            show (if (!true) = true then _ else _)
            rw [if_neg (by decide)]
            refine ⟨_, rfl, _, rfl, wy, _, _, .str u, rfl, rfl, .inl (.inl ewyG), atV _ _ hvv, _, rfl, _, rfl, sz, _, _, .ref sa, rfl, rfl, .inl (.inl eszG), at_refs hsa, sa, _, rfl, .inl ⟨_, Sum.inr u, .inl esa, rfl, rfl⟩, ?_⟩
            rw [rowK_some]
            refine ⟨_, rfl, ?_⟩
            by_cases c : u ∈ keysR (rowsR leaf M1 (i + 1))
            · rw [decide_eq_true c]
              show (if (!true) = true then _ else _)
              rw [if_neg (by decide)]
              exact ⟨rfl, rfl, c⟩
            · rw [decide_eq_false c]
              show (if (!false) = true then _ else _)
              rw [if_pos (by decide)]
              refine q false _ ⟨nofun, fun h => ?_⟩ sG
              obtain ⟨_, u', _, _, h2, h3, _⟩ := ((fits_iff v1).mp h).2 i (by omega)
              rw [hd] at h2
              cases h2
              exact (c h3).elim
          rintro σ' G2 ⟨rfl, eG2, hu1⟩
          subst eG2
          obtain ⟨ps, hps, hpsub⟩ := (mem_succ v1.nd).mp hu1
          have hukM : u ∈ keysOf M := (hOr.keys _).mp (List.mem_map.mpr ⟨_, lookM_some hps, rfl⟩)
          obtain ⟨ps', a, k1, k2, k3⟩ := hOG.at'.key hukM
          rw [← hOr.look, hps] at k1
          cases k1
          refine ⟨_, rfl, _, rfl, _, _, rfl, rfl, wy, _, _, .str y, rfl, rfl, .inl (.inl ewyG), ?_, _, rfl, ow, _, _, _, rfl, rfl, .inl (.inl hOG.e), two1, _, rfl, _, rfl, wy, _, _, .str u, rfl, rfl, .inl (.inl ewyG), atV _ _ hvv, mk, .ref a, rfl, .inl ⟨kvs, Sum.inr u, .inl hOG.emk, rfl, k2.symm⟩, a, _, rfl, .inr k3.sq, rfl, flat_strs' ps, _, rfl, ?_⟩
          · show atI us (((i + 1 : Nat) : Int) - 1) = _
            rw [e2]
            exact atV _ _ hvy
          rw [inV_strs]
          by_cases c : y ∈ ps
          · rw [decide_eq_true c]
            simp only [if_true, Bool.not_true, Bool.false_eq_true, if_false]
            refine ⟨⟨_, rfl⟩, rfl, fun j hj => ?_⟩
            rcases Nat.lt_succ_iff_lt_or_eq.mp hj with h | h
            · exact hP j h
            · rw [h]
              exact ⟨y, u, ps, hy, hd, hu1, hps, c⟩
          · rw [decide_eq_false c]
            simp only [if_true, Bool.not_false, Bool.false_eq_true, if_false]
            refine q false _ ⟨nofun, fun h => ?_⟩ sG
            obtain ⟨y', u', ps', h1, h2, _, h3, h4⟩ := ((fits_iff v1).mp h).2 i (by omega)
            rw [hd] at h2
            cases h2
            rw [hy] at h1
            cases h1
            rw [hps] at h3
            cases h3
            exact (c h4).elim
        · refine ⟨fun _ _ => False, ?_, fun _ _ h => h.elim⟩
          have hkit : PySem.W.kitOne K (.type tn) (.type "str") = some false := by
            rcases htn with rfl | rfl | rfl
            · exact kit_ty (by decide +kernel)
            · exact kit_ty (by decide +kernel)
            · exact kit_ty (by decide +kernel)
          refine ⟨_, rfl, _, rfl, wy, _, _, v, rfl, rfl, .inl (.inl ewyG), atV _ _ hvv, _, .ty "str", .type tn, .type "str", false, rfl, .ty _, ty, hkit, false, rfl, ?_⟩
          show (if (!false) = true then _ else _)
          rw [if_pos (by decide)]
          refine q false _ ⟨nofun, fun h => ?_⟩ sG
          obtain ⟨_, u', _, _, h2, _⟩ := ((fits_iff v1).mp h).2 i (by omega)
          rw [hd] at h2
          exact (hno u' (Option.some.inj h2)).elim
      · obtain ⟨hy3, eG, hP⟩ := hI
        exact ⟨hy3, eG, h0, fun j hj => hP j (by omega)⟩
    rintro σ' G' ⟨⟨y3, rfl⟩, eG, hFP⟩
    subst eG
    exact q true _ ⟨fun _ => (fits_iff v1).mpr hFP, fun _ => rfl⟩ s0
end
end Kl

set_option maxRecDepth 100000
set_option maxHeartbeats 4000000
namespace Kl
open PySem PySem.Spec PyProof.Rows L2 Gx Mx RZ
section
variable {P : Program} {w : World} {K : PySem.W.Frag} {mg : Str → Option Value} {base : Heap}
/-! ### _law_no_children -/
def spNC (K : PySem.W.Frag) (C R : Addr) : Sp := fun vs H Q _ => ∃ x kx md leaf M ns L t, ∃ v : V, vs = [V.ref x, v] ∧ RanksAt C R H x kx md leaf M ns L t ∧ Fin6 leaf M ns ∧ Turn leaf M L t ∧
  ((NoTup K H v ∧ Q (.bl true) H) ∨ ∃ (wy : Addr) (us : List V) (ds : List PyData), v = .ref wy ∧ H wy = some (.tup us) ∧ DpAll K H us ds ∧ Itm ds ∧ us.length ≤ 403 ∧ ∀ b H', (b = true ↔ ¬ Fits leaf M ds) → Same H H' → Q (.bl b) H')
theorem ok_nc {C R Co f : Addr} {fd : FuncData} (F : Fun K "_law_no_children" "_law_no_children" s_law_no_children f fd) (T : Top K mg) (TC : Cl_Kinds K mg C) (TR : Cl_Ranks K mg R) (XO : XPln K mg "InvalidOperation" "ValueError.__new__" "ValueError.__init__" [.type "ValueError", .type "Exception", .type "BaseException", .type "object"] Co) (XC : XCls K Co)
    (te : PySem.W.exmOne K (.ref Co) (.ref Co) = some true) : FnG P w K mg base CX0 9 f fd ["_law_ranks", "_law_value"] (spNC K C R) := by
  have rKid : CalMX P w K mg base R "children_of" 8 ["self", "way"] (spKid K C R Co) := (TR.m_children_of.calX fun f fd F => ok_kid F T TC TR XO XC).up (by decide)
  refine okG F sc_law_no_children (fun vs H Q E h => ?_) (fun cdv A outer s H vs Q E hg hr h => ?_)
  · obtain ⟨x, kx, md, leaf, M, ns, L, t, v, rfl, _⟩ := h
    rfl
  · obtain ⟨x, kx, md, leaf, M, ns, L, t, val, rfl, hR, f6, hT, hv⟩ := h
    refine ⟨_, pss_cut (ps_try_only (c := .ref Co) rfl rfl ⟨by rfl, by decide, .inl XO.gC⟩ takes_none5
        (fun W pn xe tk hp => pss_one (ps_expr (pe_methX (pl := _) (pv 0) TR.cl rKid hg hr (fun σ => passAt tk σ) (pa_cons (pv 1) pa_nil))))
        (fun a oe cls d pn hz hf => pss_one (ps_ret pe_bl)))
      (pss_one (ps_ret pe_bl)), ?_⟩
    obtain ⟨dx, _, _, _, _, _, _, hx, _⟩ := id hR
    rcases hv with ⟨hno, q⟩ | ⟨wy, us, ds, rfl, ewy, hdp, hI, hl, q⟩
    · refine ⟨fun _ _ => False, ?_, fun _ _ h => h.elim⟩
      refine ⟨_, rfl, x, dx, _, rfl, hx, rf_no _ _ _ _ _ _ (by decide) (by decide) (by decide) (by decide) (by decide) (by decide), _, rfl, x, kx, md, leaf, M, ns, L, t, val, rfl, hR, f6, hT, .inl ⟨hno, ?_⟩⟩
      exact ⟨true, te, fun _ a na => q, fun h => by cases h⟩
    · refine ⟨fun σ' G => Same H G ∧ Fits leaf M ds, ?_, fun σ' G h => q false G ⟨nofun, fun n => absurd h.2 n⟩ h.1⟩
      refine ⟨_, rfl, x, dx, _, rfl, hx, rf_no _ _ _ _ _ _ (by decide) (by decide) (by decide) (by decide) (by decide) (by decide), _, rfl, x, kx, md, leaf, M, ns, L, t, .ref wy, rfl, hR, f6, hT, .inr ⟨wy, us, ds, rfl, ewy, hdp, hI, hl, fun hn H' s => ?_, fun ys r z e hW hz p LL H' s _ _ _ => ?_⟩⟩
      · exact ⟨true, te, fun _ a na => q true H' ⟨fun _ => hn, fun _ => rfl⟩ s, fun h => by cases h⟩
      · exact ⟨s, ys, r, z, e, hW, hz⟩
end
end Kl

set_option maxRecDepth 100000
set_option maxHeartbeats 4000000
namespace Kl
open PySem PySem.Spec PyProof.Rows L2 Gx Mx
section
variable {P : Program} {w : World} {K : PySem.W.Frag} {mg : Str → Option Value} {base : Heap}
/-! ### _law_drawn_kinds -/
def SIX : List Str := ["a", "b", "ab", "c", "leaf", "zzzzzzzz"]
theorem six_nd : SIX.Nodup := by decide +kernel
theorem six_in {z : Str} (h : z ∈ SIX) : z ∈ POOL := by
  have e : SIX.all (fun z => decide (z ∈ POOL)) = true := by decide +kernel
  exact of_decide_eq_true (List.all_eq_true.mp e z h)
/-- what stands while the makings are drawn: i names behind the leaf are done -/
structure DC (H : Hp) (d l mk rl : Addr) (ns : List Str) (leaf : Str) (i : Nat) (G : Hp) : Prop where
  el : G l = some (.lst (ns.map V.str))
  er : G rl = some (.lst ((ns.drop 1).map V.str))
  mks : ∃ kvs M, G mk = some (.dK kvs) ∧ MakAt G kvs M ∧ Sofar ns leaf (i + 1) M ∧ leaf ∉ keysOf M
  sx : SameX d H G
  hd : DiceAt G d
structure Fre (H : Hp) (d l lv mk rl : Addr) : Prop where
  fd : DiceAt H d
  fl : H l = none
  flv : H lv = none
  fmk : H mk = none
  frl : H rl = none
theorem DC.step {H G G' : Hp} {d l lv mk rl : Addr} {ns : List Str} {leaf : Str} {i : Nat} (h : DC H d l mk rl ns leaf i G) (f : Fre H d l lv mk rl) (s : SameX d G G') (hd : DiceAt G' d) : DC H d l mk rl ns leaf i G' := by
  obtain ⟨el, er, ⟨kvs, M, m1, m2, m3, m4⟩, sx, hd'⟩ := h
  exact ⟨s _ _ (dice_ne f.fd f.fl) el, s _ _ (dice_ne f.fd f.frl) er, ⟨kvs, M, s _ _ (dice_ne f.fd f.fmk) m1, m2.samex hd' s, m3, m4⟩, sx.trans s, hd⟩
/-- a fresh list changes -/
theorem DC.put {H G : Hp} {d l lv mk rl a : Addr} {ns : List Str} {leaf : Str} {i : Nat} {xs : List V} {o : HO} (h : DC H d l mk rl ns leaf i G) (f : Fre H d l lv mk rl) (ha : H a = none) (e : G a = some (.lst xs)) (n1 : a ≠ l) (n2 : a ≠ rl) : DC H d l mk rl ns leaf i (upd G a o) := by
  obtain ⟨el, er, ⟨kvs, M, m1, m2, m3, m4⟩, sx, hd'⟩ := h
  refine ⟨by rw [upd_ne n1.symm]; exact el, by rw [upd_ne n2.symm]; exact er, ⟨kvs, M, ?_, m2.same fun b ys q => q.at fun o' e' => ?_, m3, m4⟩, sx.at ha, dice_upd hd' (dice_ne f.fd ha)⟩
  · rw [upd_ne (fun z => by rw [z, e] at m1; cases m1)]
    exact m1
  · rw [upd_ne (q.ne e (fun _ => nofun))]
    exact e'
/-- a level: a fresh list of at most n of the names -/
def Lev (H : Hp) (l rl lv : Addr) (ns : List Str) (n : Nat) (G : Hp) (a : Addr) : Prop := H a = none ∧ a ≠ l ∧ a ≠ rl ∧ a ≠ lv ∧ ∃ zs : List Str, G a = some (.lst (zs.map V.str)) ∧ zs ≠ [] ∧ zs.length ≤ n ∧ ∀ z ∈ zs, z ∈ ns
theorem Lev.step {H G G' : Hp} {d l lv mk rl a : Addr} {ns : List Str} {n : Nat} (h : Lev H l rl lv ns n G a) (f : Fre H d l lv mk rl) (s : SameX d G G') : Lev H l rl lv ns n G' a := by
  obtain ⟨h1, h2, h3, h4, zs, e, r⟩ := h
  exact ⟨h1, h2, h3, h4, zs, s _ _ (dice_ne f.fd h1) e, r⟩
theorem Lev.more {H G : Hp} {l lv rl a : Addr} {ns : List Str} {n : Nat} (h : Lev H l rl lv ns n G a) : Lev H l rl lv ns (n + 1) G a := by
  obtain ⟨h1, h2, h3, h4, zs, e, r1, r2, r3⟩ := h
  exact ⟨h1, h2, h3, h4, zs, e, r1, by omega, r3⟩
theorem or_mid {t u : TT} {σ : L2.St} {H : Hp} {Q : Bool → Hp → Prop} (B : Bool → Hp → Prop) (h : ∀ Q' : Bool → Hp → Prop, (∀ c H1, B c H1 → Q' c H1) → tOr t u σ H Q') (k : ∀ c H1, B c H1 → Q c H1) : tOr t u σ H Q := h Q k
theorem atI_last {α : Type} {l : List α} {x : α} : atI (l ++ [x]) (-1) = some x := by
  unfold atI ixN
  rw [if_neg (by omega), List.length_append, List.length_singleton, if_pos (by omega)]
  show (l ++ [x])[((-1 : Int) + ((l.length + 1 : Nat) : Int)).toNat]? = some x
  rw [show ((-1 : Int) + ((l.length + 1 : Nat) : Int)).toNat = l.length by omega, List.getElem?_append_right (Nat.le_refl _), Nat.sub_self]
  rfl
theorem atI_prev {α : Type} {l : List α} (h : 2 ≤ l.length) : ∃ x, atI l (-2) = some x ∧ x ∈ l := by
  have hk : l.length - 2 < l.length := by omega
  refine ⟨l[l.length - 2], ?_, List.getElem_mem hk⟩
  unfold atI ixN
  rw [if_neg (by omega), if_pos (by omega)]
  show l[((-2 : Int) + (l.length : Int)).toNat]? = _
  rw [show ((-2 : Int) + (l.length : Int)).toNat = l.length - 2 by omega]
  exact List.getElem?_eq_getElem hk
theorem atI_end {α : Type} {l : List α} (h : 1 ≤ l.length) : ∃ x, atI l (-1) = some x ∧ x ∈ l := by
  obtain ⟨as, a0, rfl⟩ : ∃ as a0, l = as ++ [a0] := ⟨l.dropLast, l.getLast (by intro e; rw [e] at h; exact absurd h (by show ¬ 1 ≤ 0; omega)), (List.dropLast_concat_getLast _).symm⟩
  exact ⟨a0, atI_last, List.mem_append.mpr (.inr (List.mem_singleton.mpr rfl))⟩
theorem str_ref {ns : List Str} {bs : List Addr} (e : some (HO.lst (ns.map V.str)) = some (.lst (bs.map V.ref))) (h : 1 ≤ bs.length) : False := by
  cases bs with
  | nil => exact absurd h (by decide)
  | cons b bs =>
    have e2 := HO.lst.inj (Option.some.inj e)
    cases ns with
    | nil => cases e2
    | cons n ns => cases (List.cons.inj e2).1
theorem vld_more {ns : List Str} {leaf : Str} {M : Mak} {ps : List Str} (h : Sofar ns leaf ns.length M) (nl : leaf ∉ keysOf M) (hl : leaf ∈ ns) (hp : ∀ z ∈ ns, z ∈ POOL) (h6 : ns.length ≤ 6) (p1 : sortedS ps = true) (p2 : 2 ≤ ps.length) (p3 : ps.length ≤ 3) (p4 : ∀ p ∈ ps, p ∈ ns) :
    Vld leaf (M ++ [(leaf, ps)]) := by
  have v := h.vld hl hp h6
  have e : ns.take ns.length = ns := List.take_length
  have ek : keysOf (M ++ [(leaf, ps)]) = keysOf M ++ [leaf] := by unfold keysOf; rw [List.map_append]; rfl
  have ink : ∀ p ∈ ns, p = leaf ∨ p ∈ keysOf M := fun p hp => by
    by_cases c : p = leaf
    · exact .inl c
    · exact .inr (h.all p (by rw [e]; exact hp) c)
  refine ⟨v.lf, fun z hz => ?_, ?_, fun m hm => ?_, fun ms nd hs => ?_⟩
  · rw [ek, List.mem_append, List.mem_singleton] at hz
    rcases hz with hz | rfl
    · exact v.keys z hz
    · exact v.lf
  · rw [ek, List.nodup_append]
    refine ⟨v.nd, List.nodup_cons.mpr ⟨List.not_mem_nil, List.nodup_nil⟩, fun a ha b hb => ?_⟩
    rw [List.mem_singleton] at hb
    subst hb
    exact fun q => nl (by rw [← q]; exact ha)
  · have q4 : ∀ p ∈ m.2, p = leaf ∨ p ∈ keysOf M := by
      rw [List.mem_append, List.mem_singleton] at hm
      rcases hm with hm | rfl
      · exact (v.parts m hm).2.2.2
      · exact fun p hp' => ink p (p4 p hp')
    have q123 : sortedS m.2 = true ∧ 2 ≤ m.2.length ∧ m.2.length ≤ 3 := by
      rw [List.mem_append, List.mem_singleton] at hm
      rcases hm with hm | rfl
      · obtain ⟨r1, r2, r3, _⟩ := v.parts m hm
        exact ⟨r1, r2, r3⟩
      · exact ⟨p1, p2, p3⟩
    refine ⟨q123.1, q123.2.1, q123.2.2, fun p hp' => (q4 p hp').imp id fun q => ?_⟩
    rw [ek, List.mem_append]
    exact .inl q
  · refine v.few ms nd fun z hz => ?_
    rcases hs z hz with r | r
    · exact .inl r
    · rw [ek, List.mem_append, List.mem_singleton] at r
      exact r.symm
def spDraw : Sp := fun vs H Q _ => ∃ d : Addr, vs = [.ref d, .int 6] ∧ DiceAt H d ∧
  ∀ (ow mk : Addr) (leaf : Str) (kvs : List (Key × V)) (M : Mak) (H' : Hp), Own H' ow mk leaf kvs M → SameX d H H' → DiceAt H' d → Q (.ref ow) H'
abbrev NDK : List Str := ["_law_dice_here", "_law_most", "_law_names", "_law_levels", "_law_makings", "_law_name", "_law_below", "_law_turn"]
theorem ok_draw {f : Addr} {fd : FuncData} (F : Fun K "_law_drawn_kinds" "_law_drawn_kinds" s_law_drawn_kinds f fd) (T : Top K mg) : FnOk P w K mg base CX0 3 f fd ["_law_dice_here", "_law_most"] spDraw := by
  have cr : Cal P w K mg base 2 "_law_roll" ["_law_dice_here", "_law_total"] spRoll := (T.d_law_roll.cal fun f fd F => ok_roll F T).mono (by decide)
  have cm : Cal P w K mg base 2 "_law_mixed" ["_law_dice_here", "_law_items"] (spMixed K) := T.d_law_mixed.cal fun f fd F => ok_mixed F T
  have cp : Cal P w K mg base 2 "_law_pick" ["_law_dice_here", "_law_items"] (spPick K) := T.d_law_pick.cal fun f fd F => ok_pick F T
  refine F.ok sc_law_drawn_kinds (fun vs H Q E h => ?_) (fun cdv A outer s H vs Q E hr h => ?_)
  · obtain ⟨d, rfl, _⟩ := h
    rfl
  · obtain ⟨d, rfl, hd, q⟩ := h
    have hu := hu_of hr
    refine ⟨_, pss_cut (ps_set (i := 2) sc_law_drawn_kinds.nd rfl (.inl rfl) (pe_slice sl_list (pe_cal cm hr (by rfl) (pa_cons (pv 0) (pa_cons (pe_lst (pa_cons pe_str (pa_cons pe_str (pa_cons pe_str (pa_cons pe_str (pa_cons pe_str (pa_cons pe_str pa_nil))))))) pa_nil))) po_none (po_some (pe_op op_add pe_int (pe_cal cr hr (by rfl) (pa_cons (pv 0) (pa_cons (pv 1) pa_nil)))))))
      (pss_cut (ps_asg (pe_tup (pa_cons (pe_lst (pa_cons (pe_slice sl_list (pv 2) po_none (po_some pe_int)) pa_nil)) (pa_cons pe_dnewK pa_nil))) (pg_tup (n := 2) rfl (pgs_cons (pg_name (i := 3) sc_law_drawn_kinds.nd rfl (.inr rfl)) (pgs_cons (pg_name (i := 4) sc_law_drawn_kinds.nd rfl (.inl rfl)) pgs_nil))))
      (pss_cut (ps_for PassesOwn.never rfl (pi_list (pe_slice sl_list (pv 2) (po_some pe_int) po_none)) (pg_name (i := 5) sc_law_drawn_kinds.nd rfl (.inl rfl))
        (pss_cut (ps_if (PW.pt (pw_or (pt_cmpR op_eq (pe_cal cr hr (by rfl) (pa_cons (pv 0) (pa_cons pe_int pa_nil))) pe_int (nomark _)) (pw_or1 (pt_cmpR op_eq (pe_callB call_len_seq (by rfl) T.b_len PySem.boot_len (pa_cons (pv 3) pa_nil)) pe_int (nomark _)))))
            (pss_one (ps_expr (pe_bm PySem.F.plainAttrs_list PySem.F.slot_list_append PySem.F.type_list_append mt_append (pv 3) (pa_cons (pe_lst pa_nil) pa_nil)))) pss_nil)
        (pss_cut (ps_expr (pe_bm PySem.F.plainAttrs_list PySem.F.slot_list_append PySem.F.type_list_append mt_append (pe_ix ix_list (pv 3) (pe_un un_neg pe_int) (fun _ _ => rfl)) (pa_cons (pv 5) pa_nil)))
        (pss_cut (ps_set (i := 6) sc_law_drawn_kinds.nd rfl (.inr rfl) (pe_ifExp (pt_cmpR op_gt (pe_cal cr hr (by rfl) (pa_cons (pv 0) (pa_cons pe_int pa_nil))) pe_int (nomark _)) (pe_ix ix_list (pv 3) (pe_un un_neg pe_int) (fun _ _ => rfl)) (pv 2)))
        (pss_one (ps_asg (pe_callTy call_tupleZ (by rfl) T.b_tuple (by decide +kernel) (pa_cons (pe_callB cr_sortedS (by rfl) T.b_sorted (by decide +kernel) (pa_cons
            (pe_lc (own := [("_law_turn", 7)]) (g := gName 7) (tt := tYes) rfl sc_law_drawn_kinds.nd (pi_range1 (by rfl) T.b_range (pa_cons (pe_op op_add pe_int (pe_cal cr hr (by rfl) (pa_cons (pv 0) (pa_cons pe_int pa_nil)))) pa_nil))
              (blkOk_by (N := NDK) (sc := defScope s_law_drawn_kinds) (by decide +kernel)) (fun _ _ _ _ _ => pg_name (i := 7) sc_law_drawn_kinds.nd rfl (.inl rfl)) (fun _ _ _ _ _ => pts_nil)
              (fun _ _ _ _ _ => pe_cal cp hr (by rfl) (pa_cons (pv 0) (pa_cons (pv 6) pa_nil)))) pa_nil)) pa_nil)) (pg_sub (pv 4) (pv 5) (set_dict hu))))))))
      (pss_cut (ps_if (pt_cmpR op_gt (pe_cal cr hr (by rfl) (pa_cons (pv 0) (pa_cons pe_int pa_nil))) pe_int (nomark _))
        (pss_one (ps_asg (pe_callTy call_tupleZ (by rfl) T.b_tuple (by decide +kernel) (pa_cons (pe_callB cr_sortedS (by rfl) T.b_sorted (by decide +kernel) (pa_cons
            (pe_lc (own := [("_law_turn", 7)]) (g := gName 7) (tt := tYes) rfl sc_law_drawn_kinds.nd (pi_range1 (by rfl) T.b_range (pa_cons (pe_op op_add pe_int (pe_cal cr hr (by rfl) (pa_cons (pv 0) (pa_cons pe_int pa_nil)))) pa_nil))
              (blkOk_by (N := NDK) (sc := defScope s_law_drawn_kinds) (by decide +kernel)) (fun _ _ _ _ _ => pg_name (i := 7) sc_law_drawn_kinds.nd rfl (.inl rfl)) (fun _ _ _ _ _ => pts_nil)
              (fun _ _ _ _ _ => pe_cal cp hr (by rfl) (pa_cons (pv 0) (pa_cons (pe_ix (ix_listK (K := K) (by exact rfl)) (pv 3) (pe_un un_neg pe_int) (fun _ _ => rfl)) pa_nil)))) pa_nil)) pa_nil)) (pg_sub (pv 4) (pe_ix ix_list (pv 2) pe_int (fun _ _ => rfl)) (set_dict hu)))) pss_nil)
      (pss_one (ps_ret (pe_lst (pa_cons (pe_ix ix_list (pv 2) pe_int (fun _ _ => rfl)) (pa_cons (pv 4) pa_nil)))))))), ?_⟩
    have big : 100000 ≤ sizeLine := by decide
    -- the names
    refine ⟨fun σ' G => ∃ (l : Addr) (leaf : Str) (rest : List Str), σ' = [some (.ref d), some (.int 6), some (.ref l), none, none, none, none, none] ∧ G l = some (.lst ((leaf :: rest).map V.str)) ∧ (leaf :: rest).Nodup ∧ (∀ z ∈ leaf :: rest, z ∈ POOL) ∧ (leaf :: rest).length ≤ 6 ∧
      SameX d H G ∧ DiceAt G d ∧ H l = none, ?_, ?_⟩
    · refine ⟨_, rfl, by show 6 ≤ sizeLine; omega, fun pool np => ?_⟩
      have hpd : pool ≠ d := dice_ne hd np
      have hd1 := dice_upd (o := .lst (SIX.map V.str)) hd hpd
      have sx1 : SameX d H (upd H pool (.lst (SIX.map V.str))) := (SameX.refl d H).at np
      refine ⟨d, pool, SIX, rfl, hd1, hpd, .inl (.inl upd_same), by decide, fun lm H2 ys hperm nlm elm sx2 hd2 => ?_⟩
      have sxa := sx1.trans sx2
      have hlmd : lm ≠ d := dice_ne hd1 nlm
      refine ⟨_, rfl, _, rfl, d, _, rfl, hd2, by decide, by decide, fun r x b c h0 h1 => ⟨_, _, rfl, rfl, _, rfl, ?_⟩⟩
      obtain ⟨k, rfl⟩ := Int.eq_ofNat_of_zero_le h0
      have hk : k < 6 := by omega
      have elm3 : (upd H2 d (.lst [.int x, .int b, .int c])) lm = some (.lst (ys.map V.str)) := by rw [upd_ne hlmd]; exact elm
      have hd3 : DiceAt (upd H2 d (.lst [.int x, .int b, .int c])) d := dice_new x b c
      have sx3 : SameX d H (upd H2 d (.lst [.int x, .int b, .int c])) := sxa.atd
      generalize upd H2 d (.lst [.int x, .int b, .int c]) = H3 at elm3 hd3 sx3
      have l6 : ys.length = 6 := hperm.length_eq
      have ec : cutV (ys.map V.str) none (some (1 + (k : Int))) = (ys.take (k + 1)).map V.str := by
        unfold cutV
        rw [show (1 + (k : Int)) = ((k + 1 : Nat) : Int) by omega, HT.sIx_nat, HT.sIx_none, List.drop_zero, List.map_take, List.length_map, Nat.sub_zero, Nat.min_eq_left (by omega)]
      refine ⟨lm, _, rfl, .inl (.inl elm3), fun l nl => ?_⟩
      rw [ec]
      have hld : l ≠ d := dice_ne hd3 nl
      have nd6 : ys.Nodup := hperm.nodup_iff.mpr six_nd
      have hin : ∀ z ∈ ys.take (k + 1), z ∈ POOL := fun z hz => six_in (hperm.mem_iff.mp (List.mem_of_mem_take hz))
      have ndn : (ys.take (k + 1)).Nodup := nd6.sublist (List.take_sublist _ _)
      have ln : (ys.take (k + 1)).length = k + 1 := by rw [List.length_take]; omega
      generalize ys.take (k + 1) = ns at hin ndn ln
      obtain ⟨leaf, rest, rfl⟩ : ∃ leaf rest, ns = leaf :: rest := by
        cases ns with
        | nil => cases ln
        | cons a l => exact ⟨a, l, rfl⟩
      exact ⟨l, leaf, rest, rfl, upd_same, ndn, hin, by omega, sx3.new nl, dice_upd hd3 hld, sx3.free hld nl⟩
    rintro σ' G1 ⟨l, leaf, rest, rfl, el, ndn, hin, l6, sx1, hd1, nlH⟩
    -- the first level, no makings
    refine ⟨fun σ' G => ∃ (lv mk s1 : Addr), σ' = [some (.ref d), some (.int 6), some (.ref l), some (.ref lv), some (.ref mk), none, none, none] ∧ G l = some (.lst ((leaf :: rest).map V.str)) ∧ G lv = some (.lst [.ref s1]) ∧ G s1 = some (.lst [.str leaf]) ∧ G mk = some (.dK []) ∧
      H lv = none ∧ H mk = none ∧ H s1 = none ∧ s1 ≠ l ∧ s1 ≠ lv ∧ SameX d H G ∧ DiceAt G d, ?_, ?_⟩
    · refine ⟨_, rfl, _, rfl, l, _, rfl, .inl (.inl el), fun s1 ns1 => ?_⟩
      have ec : cutV ((leaf :: rest).map V.str) none (some 1) = [V.str leaf] := by
        unfold cutV
        rw [show (1 : Int) = ((1 : Nat) : Int) by omega, HT.sIx_nat, HT.sIx_none, List.drop_zero, List.length_map, Nat.sub_zero, List.length_cons, Nat.min_eq_left (by omega)]
        rfl
      rw [ec]
      have hs1d : s1 ≠ d := dice_ne hd1 ns1
      have es1 : (upd G1 s1 (.lst [V.str leaf])) s1 = some (.lst [V.str leaf]) := upd_same
      have sx2 := sx1.new (o := .lst [V.str leaf]) ns1
      have hd2 := dice_upd (o := .lst [V.str leaf]) hd1 hs1d
      have n1 : s1 ≠ l := (ne_of_none el ns1).symm
      have el2 : (upd G1 s1 (.lst [V.str leaf])) l = some (.lst ((leaf :: rest).map V.str)) := by rw [upd_ne n1.symm]; exact el
      have ns1H : H s1 = none := sx1.free hs1d ns1
      generalize upd G1 s1 (.lst [V.str leaf]) = G2 at es1 sx2 hd2 el2
      refine ⟨by show 1 ≤ sizeLine; omega, fun lv nlv => ?_⟩
      have hlvd : lv ≠ d := dice_ne hd2 nlv
      have nlvH : H lv = none := sx2.free hlvd nlv
      have m1 : s1 ≠ lv := ne_of_none es1 nlv
      have elv : (upd G2 lv (.lst [V.ref s1])) lv = some (.lst [V.ref s1]) := upd_same
      have es3 : (upd G2 lv (.lst [V.ref s1])) s1 = some (.lst [V.str leaf]) := by rw [upd_ne m1]; exact es1
      have el3 : (upd G2 lv (.lst [V.ref s1])) l = some (.lst ((leaf :: rest).map V.str)) := by rw [upd_ne (ne_of_none el2 nlv)]; exact el2
      have sx3 := sx2.new (o := .lst [V.ref s1]) nlv
      have hd3 := dice_upd (o := .lst [V.ref s1]) hd2 hlvd
      generalize upd G2 lv (.lst [V.ref s1]) = G3 at elv es3 el3 sx3 hd3
      refine fun mk nmk => ⟨by show 2 ≤ sizeLine; omega, fun tp ntp => ?_⟩
      have hmkd : mk ≠ d := dice_ne hd3 nmk
      have nmkH : H mk = none := sx3.free hmkd nmk
      have s4 := same_new (o := .dK []) (Same.refl G3) nmk
      have emk : (upd G3 mk (.dK [])) mk = some (.dK []) := upd_same
      have sx4 := sx3.new (o := .dK []) nmk
      have hd4 := dice_upd (o := .dK []) hd3 hmkd
      generalize upd G3 mk (.dK []) = G4 at s4 emk sx4 hd4 ntp
      have s5 := same_new (o := .tup [.ref lv, .ref mk]) (Same.refl G4) ntp
      refine ⟨tp, _, rfl, .inl (.inl upd_same), rfl, _, _, rfl, _, _, rfl, rfl, lv, mk, s1, rfl, s5 _ _ (s4 _ _ el3), s5 _ _ (s4 _ _ elv), s5 _ _ (s4 _ _ es3), s5 _ _ emk, nlvH, nmkH, ns1H, n1, m1, sx4.new ntp, dice_upd hd4 (dice_ne hd4 ntp)⟩
    rintro σ' G2 ⟨lv, mk, s1, rfl, el2, elv2, es2, emk2, nlv, nmk, ns1, n1, m1, sx2, hd2⟩
    clear el sx1 hd1
    -- name by name
    refine ⟨fun σ' G => ∃ (rl : Addr) (y5 y6 : Option V) (bs : List Addr), σ' = [some (.ref d), some (.int 6), some (.ref l), some (.ref lv), some (.ref mk), y5, y6, none] ∧ Fre H d l lv mk rl ∧ DC H d l mk rl (leaf :: rest) leaf rest.length G ∧ G lv = some (.lst (bs.map V.ref)) ∧ 1 ≤ bs.length ∧ bs.length ≤ 7 ∧
      ∀ a ∈ bs, Lev H l rl lv (leaf :: rest) 7 G a, ?_, ?_⟩
    · refine ⟨_, rfl, _, rfl, l, _, rfl, .inl (.inl el2), fun rl nrl => ?_⟩
      have ec : cutV ((leaf :: rest).map V.str) (some 1) none = rest.map V.str := by
        unfold cutV
        rw [show (1 : Int) = ((1 : Nat) : Int) by omega, HT.sIx_nat, HT.sIx_none, List.length_map, List.length_cons, Nat.min_eq_left (by omega)]
        show ((rest.map V.str).take (rest.length + 1 - 1)) = _
        rw [List.take_of_length_le (by rw [List.length_map]; omega)]
      rw [ec]
      have hrd : rl ≠ d := dice_ne hd2 nrl
      have s3 := same_new (o := .lst (rest.map V.str)) (Same.refl G2) nrl
      have erl : (upd G2 rl (.lst (rest.map V.str))) rl = some (.lst (rest.map V.str)) := upd_same
      have sx3 := sx2.new (o := .lst (rest.map V.str)) nrl
      have hd3 := dice_upd (o := .lst (rest.map V.str)) hd2 hrd
      have nrlH : H rl = none := sx2.free hrd nrl
      have n1r : s1 ≠ rl := ne_of_none es2 nrl
      have f : Fre H d l lv mk rl := ⟨hd, nlH, nlv, nmk, nrlH⟩
      have nlr : lv ≠ rl := ne_of_none elv2 nrl
      refine ⟨rl, rfl, ⟨_, .inl (.inl erl)⟩, ?_⟩
      have c0 : DC H d l mk rl (leaf :: rest) leaf 0 (upd G2 rl (.lst (rest.map V.str))) := by
        refine ⟨s3 _ _ el2, erl, ⟨[], [], s3 _ _ emk2, .nil, ⟨List.nodup_nil, nofun, fun z hz ne => ?_, nofun⟩, nofun⟩, sx3, hd3⟩
        have : z ∈ [leaf] := hz
        exact absurd (List.mem_singleton.mp this) ne
      have v0 : (upd G2 rl (.lst (rest.map V.str))) lv = some (.lst ([s1].map V.ref)) := s3 _ _ elv2
      have w0 : Lev H l rl lv (leaf :: rest) 1 (upd G2 rl (.lst (rest.map V.str))) s1 := ⟨ns1, n1, n1r, m1, [leaf], s3 _ _ es2, nofun, Nat.le_refl 1, fun z hz => by rw [List.mem_singleton.mp hz]; exact List.mem_cons_self⟩
      generalize upd G2 rl (.lst (rest.map V.str)) = G3 at erl c0 v0 w0
      refine for_it (walk_list (K := K) (a := rl) (xs := rest.map V.str)) (fun j σ' G => ∃ (y5 y6 : Option V) (bs : List Addr), σ' = [some (.ref d), some (.int 6), some (.ref l), some (.ref lv), some (.ref mk), y5, y6, none] ∧ DC H d l mk rl (leaf :: rest) leaf j G ∧ G lv = some (.lst (bs.map V.ref)) ∧ 1 ≤ bs.length ∧ bs.length ≤ j + 1 ∧ (1 ≤ j → 2 ≤ bs.length) ∧
          ∀ a ∈ bs, Lev H l rl lv (leaf :: rest) (j + 1) G a)
        ⟨none, none, [s1], rfl, c0, v0, Nat.le_refl 1, Nat.le_refl 1, (fun h => absurd h (by omega)), fun a ha => by rw [List.mem_singleton.mp ha]; exact w0⟩ (fun j σ' G _ h => by obtain ⟨_, _, _, _, c, _⟩ := h; exact .inl (.inl c.er)) (fun j v σ' Gx G hj h hy => ?_) (fun σ' G h => ?_)
      · obtain ⟨y5, y6, bs, rfl, c, eV, b1, b2, b3, hb⟩ := h
        obtain ⟨rfl, hv⟩ := hy
        obtain ⟨z, hz, rfl⟩ := at_texts hv
        rw [List.length_map] at hj
        have l6' : rest.length ≤ 5 := by rw [List.length_cons] at l6; omega
        have hzn : (leaf :: rest)[j + 1]? = some z := hz
        have hzm : z ∈ leaf :: rest := List.mem_of_getElem? hzn
        -- a new level, or not
        refine ⟨fun σ' G' => ∃ (as : List Addr) (a0 : Addr), σ' = [some (.ref d), some (.int 6), some (.ref l), some (.ref lv), some (.ref mk), some (.str z), y6, none] ∧ DC H d l mk rl (leaf :: rest) leaf j G' ∧ G' lv = some (.lst ((as ++ [a0]).map V.ref)) ∧ 1 ≤ as.length ∧ as.length ≤ j + 1 ∧
          (∀ a ∈ as, Lev H l rl lv (leaf :: rest) (j + 1) G' a) ∧ H a0 = none ∧ a0 ≠ l ∧ a0 ≠ rl ∧ a0 ≠ lv ∧ ∃ zs : List Str, G' a0 = some (.lst (zs.map V.str)) ∧ zs.length ≤ j + 1 ∧ ∀ z ∈ zs, z ∈ leaf :: rest, ?_, ?_⟩
        · refine or_mid (fun cc G' => DC H d l mk rl (leaf :: rest) leaf j G' ∧ G' lv = some (.lst (bs.map V.ref)) ∧ (∀ a ∈ bs, Lev H l rl lv (leaf :: rest) (j + 1) G' a) ∧ (cc = false → 2 ≤ bs.length)) (fun Q' hQ' => ?_) (fun cc G' hc => ?_)
          · refine ⟨_, rfl, d, _, rfl, c.hd, by decide, by decide, fun r x b' c' h0 h1 => ⟨rfl, _, rfl, ?_⟩⟩
            have sd : SameX d G (upd G d (.lst [.int x, .int b', .int c'])) := (SameX.refl d G).atd
            have cD := c.step f sd (dice_new x b' c')
            have eVD := sd _ _ (dice_ne f.fd f.flv) eV
            have hbD : ∀ a ∈ bs, Lev H l rl lv (leaf :: rest) (j + 1) (upd G d (.lst [.int x, .int b', .int c'])) a := fun a ha => (hb a ha).step f sd
            generalize upd G d (.lst [.int x, .int b', .int c']) = GD at cD eVD hbD
            refine ite2 (fun e => ?_) (fun e => ?_)
            · exact hQ' _ _ ⟨cD, eVD, hbD, nofun⟩
            · refine ⟨_, rfl, lv, _, rfl, .inl (.inl (.inl eVD)), rfl, _, rfl, hQ' _ _ ⟨cD, eVD, hbD, fun h => ?_⟩⟩
              rw [List.length_map] at h
              have := of_decide_eq_false h
              have h2 : ¬ bs.length = 1 := fun q => this (by rw [q]; rfl)
              omega
          · obtain ⟨cD, eVD, hbD, hc⟩ := hc
            cases cc with
            | false =>
              obtain ⟨as, a0, rfl⟩ : ∃ as a0, bs = as ++ [a0] := ⟨bs.dropLast, bs.getLast (by intro e; rw [e] at b1; exact absurd b1 (by decide)), (List.dropLast_concat_getLast _).symm⟩
              have h2 := hc rfl
              rw [List.length_append, List.length_singleton] at h2 b2
              obtain ⟨q1, q2, q3, q4, zs, q5, q6, q7, q8⟩ := hbD a0 (List.mem_append.mpr (.inr (List.mem_singleton.mpr rfl)))
              exact ⟨as, a0, rfl, cD, eVD, by omega, by omega, fun a ha => hbD a (List.mem_append.mpr (.inl ha)), q1, q2, q3, q4, zs, q5, q7, q8⟩
            | true =>
              rw [if_pos rfl]
              refine ⟨_, rfl, ⟨.inl ⟨rfl, _, .inl (.inl eVD)⟩, ?_⟩⟩
              refine ⟨by show 0 ≤ sizeLine; omega, fun a0 na0 => ?_⟩
              have ha0d : a0 ≠ d := dice_ne cD.hd na0
              have s4 := same_new (o := .lst []) (Same.refl G') na0
              have cE := cD.step f (SameX.of s4) (dice_upd cD.hd ha0d)
              have eVE := s4 _ _ eVD
              have ea0 : (upd G' a0 (.lst [])) a0 = some (.lst []) := upd_same
              have na0H : H a0 = none := cD.sx.free ha0d na0
              have k1 : a0 ≠ l := (ne_of_none cD.el na0).symm
              have k2 : a0 ≠ rl := (ne_of_none cD.er na0).symm
              have k3 : a0 ≠ lv := (ne_of_none eVD na0).symm
              have hbE : ∀ a ∈ bs, Lev H l rl lv (leaf :: rest) (j + 1) (upd G' a0 (.lst [])) a := fun a ha => (hbD a ha).step f (SameX.of s4)
              generalize upd G' a0 (.lst []) = GE at cE eVE ea0 hbE
              refine ⟨lv, _, _, rfl, rfl, eVE, by rw [List.length_map]; exact Nat.lt_of_le_of_lt (show _ ≤ 10 by omega) (by decide), ?_⟩
              have s5 : SameX lv GE (upd GE lv (.lst (bs.map V.ref ++ [.ref a0]))) := fun b o n e => by rw [upd_ne n]; exact e
              refine ⟨bs, a0, rfl, cE.put f nlv eVE (fun z => by rw [z, cE.el] at eVE; exact str_ref eVE b1) nlr, by rw [upd_same, List.map_append]; rfl, b1, b2, fun a ha => ?_, na0H, k1, k2, k3, [], by rw [upd_ne k3]; exact ea0, by show 0 ≤ _; omega, nofun⟩
              obtain ⟨q1, q2, q3, q4, zs, q5, q6⟩ := hbE a ha
              exact ⟨q1, q2, q3, q4, zs, by rw [upd_ne q4]; exact q5, q6⟩
        rintro σ' G' ⟨as, a0, rfl, cE, eV', a1, a2, ha, h1, h2, h3, h4, zs, ez, lz, hzs⟩
        clear c eV hb
        -- the name on the last level
        refine ⟨fun σ' G' => ∃ (bs : List Addr), σ' = [some (.ref d), some (.int 6), some (.ref l), some (.ref lv), some (.ref mk), some (.str z), y6, none] ∧ DC H d l mk rl (leaf :: rest) leaf j G' ∧ G' lv = some (.lst (bs.map V.ref)) ∧ 2 ≤ bs.length ∧ bs.length ≤ j + 2 ∧ ∀ a ∈ bs, Lev H l rl lv (leaf :: rest) (j + 2) G' a, ?_, ?_⟩
        · have hat : atI ((as ++ [a0]).map V.ref) (-1) = some (.ref a0) := by
            rw [List.map_append]
            exact atI_last
          refine ⟨_, rfl, _, rfl, lv, _, _, .ref a0, rfl, rfl, .inl (.inl eV'), hat, ⟨.inl ⟨rfl, _, .inl (.inl ez)⟩, _, rfl, ?_⟩⟩
          refine ⟨a0, _, _, rfl, rfl, ez, by rw [List.length_map]; exact Nat.lt_of_le_of_lt (show _ ≤ 10 by omega) (by decide), ?_⟩
          refine ⟨as ++ [a0], rfl, cE.put f h1 ez h2 h3, by rw [upd_ne h4.symm]; exact eV', by rw [List.length_append, List.length_singleton]; omega, by rw [List.length_append, List.length_singleton]; omega, fun a hain => ?_⟩
          by_cases ca : a = a0
          · subst ca
            refine ⟨h1, h2, h3, h4, zs ++ [z], by rw [upd_same, List.map_append]; rfl, by simp, by rw [List.length_append, List.length_singleton]; omega, fun y hy => ?_⟩
            rcases List.mem_append.mp hy with hy | hy
            · exact hzs y hy
            · rw [List.mem_singleton.mp hy]
              exact hzm
          · have hain' : a ∈ as := by
              rcases List.mem_append.mp hain with q | q
              · exact q
              · exact absurd (List.mem_singleton.mp q) ca
            obtain ⟨q1, q2, q3, q4, zs1, q5, q6, q7, q8⟩ := ha a hain'
            exact ⟨q1, q2, q3, q4, zs1, by rw [upd_ne ca]; exact q5, q6, by omega, q8⟩
        rintro σ' G4 ⟨bs, rfl, c4, eV4, b1, b2, hb4⟩
        clear cE eV' ha ez
        -- the level below, or all names
        refine ⟨fun σ' G' => ∃ (bl : Addr) (xs : List Str), σ' = [some (.ref d), some (.int 6), some (.ref l), some (.ref lv), some (.ref mk), some (.str z), some (.ref bl), none] ∧ DC H d l mk rl (leaf :: rest) leaf j G' ∧ G' lv = some (.lst (bs.map V.ref)) ∧ (∀ a ∈ bs, Lev H l rl lv (leaf :: rest) (j + 2) G' a) ∧
          H bl = none ∧ G' bl = some (.lst (xs.map V.str)) ∧ xs ≠ [] ∧ xs.length ≤ 100 ∧ ∀ y ∈ xs, y ∈ leaf :: rest, ?_, ?_⟩
        · refine ⟨_, rfl, d, _, rfl, c4.hd, by decide, by decide, fun r x b' c' h0 h1 => ?_⟩
          have sd : SameX d G4 (upd G4 d (.lst [.int x, .int b', .int c'])) := (SameX.refl d G4).atd
          have cD := c4.step f sd (dice_new x b' c')
          have eVD := sd _ _ (dice_ne f.fd f.flv) eV4
          have hbD : ∀ a ∈ bs, Lev H l rl lv (leaf :: rest) (j + 2) (upd G4 d (.lst [.int x, .int b', .int c'])) a := fun a ha => (hb4 a ha).step f sd
          generalize upd G4 d (.lst [.int x, .int b', .int c']) = GD at cD eVD hbD
          refine ⟨_, _, rfl, rfl, ?_⟩
          refine ⟨_, rfl, ?_⟩
          refine ite2 (fun e => ?_) (fun e => ?_)
          · obtain ⟨a, hat, hmem⟩ := atI_prev (l := bs.map V.ref) (by rw [List.length_map]; exact b1)
            obtain ⟨a', ha', rfl⟩ := List.mem_map.mp hmem
            obtain ⟨q1, q2, q3, q4, zs1, q5, q6, q7, q8⟩ := hbD a' ha'
            exact ⟨_, rfl, _, rfl, lv, _, _, _, rfl, rfl, .inl (.inl eVD), hat, a', zs1, rfl, cD, eVD, hbD, q1, q5, q6, by omega, q8⟩
          · exact ⟨_, rfl, l, leaf :: rest, rfl, cD, eVD, hbD, f.fl, cD.el, nofun, by omega, fun y hy => hy⟩
        rintro σ' G5 ⟨bl, xs, rfl, c5, eV5, hb5, nbl, ebl, hxne, lxs, hxs⟩
        clear c4 eV4 hb4
        -- its making
        refine ⟨_, rfl, d, _, rfl, c5.hd, by decide, by decide, fun r x b' c' h0' h1' => ⟨_, _, rfl, rfl, _, rfl, by omega, by omega, fun D nD => ?_⟩⟩
        obtain ⟨k, rfl⟩ := Int.eq_ofNat_of_zero_le h0'
        have sd : SameX d G5 (upd G5 d (.lst [.int x, .int b', .int c'])) := (SameX.refl d G5).atd
        have c6 := c5.step f sd (dice_new x b' c')
        have eV6 := sd _ _ (dice_ne f.fd f.flv) eV5
        have hb6 : ∀ a ∈ bs, Lev H l rl lv (leaf :: rest) (j + 2) (upd G5 d (.lst [.int x, .int b', .int c'])) a := fun a ha => (hb5 a ha).step f sd
        have ebl6 := sd _ _ (dice_ne f.fd nbl) ebl
        have hDd : D ≠ d := dice_ne c6.hd nD
        have e2k : ((2 : Int) + (k : Int)).toNat = k + 2 := by omega
        rw [e2k]
        refine lc_range (lo := 0) (fun jj GG => ∃ fs : List Str, GG D = some (.lst (fs.map V.str)) ∧ fs.length = jj ∧ (∀ p ∈ fs, p ∈ leaf :: rest) ∧ SameX d (upd G5 d (.lst [.int x, .int b', .int c'])) GG ∧ DiceAt GG d)
          ⟨[], upd_same, rfl, nofun, (SameX.refl d _).new nD, dice_upd c6.hd hDd⟩ (fun jj GG hjj hP => ?_) (fun GG hP => ?_)
        · obtain ⟨fs, eD, lf, hf, sx, hdG⟩ := hP
          refine ⟨rfl, _, rfl, _, rfl, d, .ref bl, _, rfl, hdG, .inl ⟨bl, rfl, dice_ne f.fd nbl, .inl (.inl (.inl (sx _ _ (dice_ne f.fd nbl) ebl6)))⟩, (fun h => hxne (List.map_eq_nil_iff.mp h)), by rw [List.length_map]; omega, fun v x b c hv => ?_⟩
          obtain ⟨pp, hpp, rfl⟩ := List.mem_map.mp hv
          refine ⟨fs.map V.str, by rw [upd_ne hDd]; exact eD, ?_, fs ++ [pp], ?_, by rw [List.length_append, lf]; rfl, fun y hy => ?_, ?_, dice_upd (dice_new _ _ _) hDd⟩
          · rw [List.length_map]
            omega
          · rw [upd_same, List.map_append]
            rfl
          · rw [List.mem_append, List.mem_singleton] at hy
            rcases hy with hy | rfl
            · exact hf y hy
            · exact hxs _ hpp
          · exact sx.atd.at nD
        · obtain ⟨fs, eD, lf, hf, sx, hdG⟩ := hP
          refine ⟨D, fs, rfl, .inl (.inl eD), by omega, fun zs' sp hperm hsrt nsp => ?_⟩
          refine ⟨sp, _, rfl, .inl (.inl upd_same), fun t H3 ht nt heq => ?_⟩
          have sm : Same GG H3 := fun b u e => by
            rw [heq b (ne_of_none (same_new (Same.refl GG) nsp b u e) nt)]
            exact same_new (Same.refl GG) nsp b u e
          obtain ⟨x3, b3, c3, ed⟩ := id hdG
          have hK4 := (c6.step f sx hdG).step f (SameX.of sm) ⟨x3, b3, c3, sm _ _ ed⟩
          have lz := hperm.length_eq
          have pz : ∀ p ∈ zs', p ∈ leaf :: rest := fun p hp => hf p (hperm.mem_iff.mp hp)
          have eV7 := sm _ _ (sx _ _ (dice_ne f.fd f.flv) eV6)
          have hb7 : ∀ a ∈ bs, Lev H l rl lv (leaf :: rest) (j + 2) H3 a := fun a ha => ((hb6 a ha).step f sx).step f (SameX.of sm)
          obtain ⟨el7, er7, ⟨kvs, M, e1, e2, e3, e4⟩, sx7, hd7⟩ := hK4
          have nz : z ∉ keysOf M := fun q => take_not ndn hzn (e3.sub z q)
          have lkv : kvs.length < sizeLine := by
            rw [e2.len]
            have h1 := sub_len e3.nd e3.sub
            rw [List.length_take] at h1
            unfold keysOf at h1
            rw [List.length_map] at h1
            exact Nat.lt_of_le_of_lt (show _ ≤ 10 by omega) (by decide)
          refine ⟨_, rfl, _, rfl, mk, _, rfl, .inl ⟨kvs, Sum.inr z, e1, rfl, lkv, rfl⟩, ?_⟩
          have nmd : ∀ {a : Addr} {ys : List V}, H3 a = some (.lst ys) → a ≠ mk := fun e q => by rw [q, e1] at e; cases e
          have zl : z ≠ leaf := fun q => by
            have h := List.nodup_cons.mp ndn
            rw [q] at hz
            exact h.1 (List.mem_of_getElem? hz)
          refine ⟨_, _, bs, rfl, ⟨by rw [upd_ne (nmd el7)]; exact el7, by rw [upd_ne (nmd er7)]; exact er7, ⟨_, M ++ [(z, zs')], upd_same, ?_, e3.put ndn hzn hsrt (by omega) (by omega) pz, ?_⟩, sx7.at nmk, dice_upd hd7 (dice_ne f.fd f.fmk)⟩, by rw [upd_ne (nmd eV7)]; exact eV7, by omega, b2, fun _ => b1, fun a ha => ?_⟩
          · exact (e2.put nz ht).same fun a xs h => h.at fun o e => by
              rw [upd_ne (h.ne e1 (fun _ => nofun))]
              exact e
          · have ek : keysOf (M ++ [(z, zs')]) = keysOf M ++ [z] := by unfold keysOf; rw [List.map_append]; rfl
            rw [ek, List.mem_append, List.mem_singleton]
            rintro (q | q)
            · exact e4 q
            · exact zl q.symm
          · obtain ⟨q1, q2, q3, q4, zs1, q5, q6⟩ := hb7 a ha
            exact ⟨q1, q2, q3, q4, zs1, by rw [upd_ne (nmd q5)]; exact q5, q6⟩
      · obtain ⟨y5, y6, bs, rfl, c, eV, b1, b2, b3, hb⟩ := h
        rw [List.length_map] at c b2 hb
        have l6' : rest.length ≤ 5 := by rw [List.length_cons] at l6; omega
        refine ⟨rl, y5, y6, bs, rfl, f, c, eV, b1, by omega, fun a ha => ?_⟩
        obtain ⟨q1, q2, q3, q4, zs, q5, q6, q7, q8⟩ := hb a ha
        exact ⟨q1, q2, q3, q4, zs, q5, q6, by omega, q8⟩
    rintro σ' G3 ⟨rl, y5, y6, bs, rfl, f, c3, eV3, b1, b2, hb3⟩
    clear el2 elv2 es2 emk2 sx2 hd2
    have hlen : (leaf :: rest).length = rest.length + 1 := rfl
    -- perhaps a making of the leaf
    refine ⟨fun σ' G => ∃ (y5 y6 : Option V) (kvs : List (Key × V)) (M : Mak), σ' = [some (.ref d), some (.int 6), some (.ref l), some (.ref lv), some (.ref mk), y5, y6, none] ∧ G l = some (.lst ((leaf :: rest).map V.str)) ∧ G mk = some (.dK kvs) ∧ MakAt G kvs M ∧ Vld leaf M ∧ SameX d H G ∧ DiceAt G d, ?_, ?_⟩
    · refine ⟨_, rfl, d, _, rfl, c3.hd, by decide, by decide, fun r0 x0 b0 c0 h00 h01 => ?_⟩
      have sd0 : SameX d G3 (upd G3 d (.lst [.int x0, .int b0, .int c0])) := (SameX.refl d G3).atd
      have c5 := c3.step f sd0 (dice_new x0 b0 c0)
      have eV5 := sd0 _ _ (dice_ne f.fd f.flv) eV3
      have hb5 : ∀ a ∈ bs, Lev H l rl lv (leaf :: rest) 7 (upd G3 d (.lst [.int x0, .int b0, .int c0])) a := fun a ha => (hb3 a ha).step f sd0
      generalize upd G3 d (.lst [.int x0, .int b0, .int c0]) = G5 at c5 eV5 hb5
      refine ⟨_, _, rfl, rfl, ?_⟩
      refine ⟨_, rfl, ?_⟩
      refine ite2 (fun e => ?_) (fun e => ?_)
      · obtain ⟨a9, hat9, hmem9⟩ := atI_end (l := bs.map V.ref) (by rw [List.length_map]; exact b1)
        obtain ⟨bl, hbl, rfl⟩ := List.mem_map.mp hmem9
        obtain ⟨nbl, _, _, _, xs, ebl, hxne, lxs, hxs⟩ := hb5 bl hbl
        refine ⟨_, rfl, d, _, rfl, c5.hd, by decide, by decide, fun r x b' c' h0' h1' => ⟨_, _, rfl, rfl, _, rfl, by omega, by omega, fun D nD => ?_⟩⟩
        obtain ⟨k, rfl⟩ := Int.eq_ofNat_of_zero_le h0'
        have sd : SameX d G5 (upd G5 d (.lst [.int x, .int b', .int c'])) := (SameX.refl d G5).atd
        have c6 := c5.step f sd (dice_new x b' c')
        have eV6 := sd _ _ (dice_ne f.fd f.flv) eV5
        have ebl6 := sd _ _ (dice_ne f.fd nbl) ebl
        have hDd : D ≠ d := dice_ne c6.hd nD
        have e2k : ((2 : Int) + (k : Int)).toNat = k + 2 := by omega
        rw [e2k]
        refine lc_range (lo := 0) (fun jj GG => ∃ fs : List Str, GG D = some (.lst (fs.map V.str)) ∧ fs.length = jj ∧ (∀ p ∈ fs, p ∈ leaf :: rest) ∧ SameX d (upd G5 d (.lst [.int x, .int b', .int c'])) GG ∧ DiceAt GG d)
          ⟨[], upd_same, rfl, nofun, (SameX.refl d _).new nD, dice_upd c6.hd hDd⟩ (fun jj GG hjj hP => ?_) (fun GG hP => ?_)
        · obtain ⟨fs, eD, lf, hf, sx, hdG⟩ := hP
          refine ⟨rfl, _, rfl, _, rfl, _, rfl, lv, _, _, _, rfl, rfl, .inl (.inl (sx _ _ (dice_ne f.fd f.flv) eV6)), hat9, d, .ref bl, _, rfl, hdG, .inl ⟨bl, rfl, dice_ne f.fd nbl, .inl (.inl (.inl (sx _ _ (dice_ne f.fd nbl) ebl6)))⟩, (fun h => hxne (List.map_eq_nil_iff.mp h)), by rw [List.length_map]; omega, fun v x b c hv => ?_⟩
          obtain ⟨pp, hpp, rfl⟩ := List.mem_map.mp hv
          refine ⟨fs.map V.str, by rw [upd_ne hDd]; exact eD, ?_, fs ++ [pp], ?_, by rw [List.length_append, lf]; rfl, fun y hy => ?_, ?_, dice_upd (dice_new _ _ _) hDd⟩
          · rw [List.length_map]
            omega
          · rw [upd_same, List.map_append]
            rfl
          · rw [List.mem_append, List.mem_singleton] at hy
            rcases hy with hy | rfl
            · exact hf y hy
            · exact hxs _ hpp
          · exact sx.atd.at nD
        · obtain ⟨fs, eD, lf, hf, sx, hdG⟩ := hP
          refine ⟨D, fs, rfl, .inl (.inl eD), by omega, fun zs' sp hperm hsrt nsp => ?_⟩
          refine ⟨sp, _, rfl, .inl (.inl upd_same), fun t H3 ht nt heq => ?_⟩
          have sm : Same GG H3 := fun b u e => by
            rw [heq b (ne_of_none (same_new (Same.refl GG) nsp b u e) nt)]
            exact same_new (Same.refl GG) nsp b u e
          obtain ⟨x3, b3, c3, ed⟩ := id hdG
          have hK4 := (c6.step f sx hdG).step f (SameX.of sm) ⟨x3, b3, c3, sm _ _ ed⟩
          have lz := hperm.length_eq
          have pz : ∀ p ∈ zs', p ∈ leaf :: rest := fun p hp => hf p (hperm.mem_iff.mp hp)
          obtain ⟨el7, er7, ⟨kvs, M, e1, e2, e3, e4⟩, sx7, hd7⟩ := hK4
          rw [← hlen] at e3
          have lkv : kvs.length < sizeLine := by
            rw [e2.len]
            have h1 := sub_len e3.nd e3.sub
            rw [List.length_take] at h1
            unfold keysOf at h1
            rw [List.length_map] at h1
            exact Nat.lt_of_le_of_lt (show _ ≤ 10 by omega) (by decide)
          refine ⟨_, rfl, _, rfl, l, _, _, _, rfl, rfl, .inl (.inl el7), atI_nat (j := 0) rfl, mk, _, rfl, .inl ⟨kvs, Sum.inr leaf, e1, rfl, lkv, rfl⟩, ?_⟩
          have nmd : ∀ {a : Addr} {ys : List V}, H3 a = some (.lst ys) → a ≠ mk := fun e q => by rw [q, e1] at e; cases e
          refine ⟨_, _, _, M ++ [(leaf, zs')], rfl, by rw [upd_ne (nmd el7)]; exact el7, upd_same, ?_, vld_more e3 e4 List.mem_cons_self hin l6 hsrt (by omega) (by omega) pz, sx7.at nmk, dice_upd hd7 (dice_ne f.fd f.fmk)⟩
          exact (e2.put e4 ht).same fun a xs h => h.at fun o e => by
              rw [upd_ne (h.ne e1 (fun _ => nofun))]
              exact e
      · obtain ⟨el7, er7, ⟨kvs, M, e1, e2, e3, e4⟩, sx7, hd7⟩ := c5
        rw [← hlen] at e3
        exact ⟨_, _, kvs, M, rfl, el7, e1, e2, e3.vld List.mem_cons_self hin l6, sx7, hd7⟩
    rintro σ' G4 ⟨y5, y6, kvs, M, rfl, el4, e1, e2, hV, sx4, hd4⟩
    refine ⟨_, rfl, l, _, _, _, rfl, rfl, .inl (.inl el4), atI_nat (j := 0) rfl, _, rfl, by show 2 ≤ sizeLine; omega, fun p np => ?_⟩
    have s5 := same_new (o := .lst [.str leaf, .ref mk]) (Same.refl G4) np
    exact q p mk leaf kvs M _ ⟨upd_same, s5 _ _ e1, e2.same (fun _ _ h => h.mono s5), hV⟩ (sx4.new np) (dice_upd hd4 (dice_ne hd4 np))
end
end Kl

set_option maxRecDepth 100000
set_option maxHeartbeats 4000000
/-! ### own rule: t[::-1], t a tuple -/
namespace HT
open PySem PySem.Spec PyProof.Rows
theorem adjust_rev (n : Nat) : Builtin.Slice.sliceAdjust none none (-1) (n : Int) = ((n : Int) - 1, -1) := by
  unfold Builtin.Slice.sliceAdjust
  simp
theorem places_rev (n : Nat) : Builtin.Slice.slicePlaces ((n : Int) - 1) (-1) (-1) = n := by
  unfold Builtin.Slice.slicePlaces
  simp
  split <;> omega
theorem fm_congr {α β : Type} {f g : α → Option β} : ∀ {l : List α}, (∀ x ∈ l, f x = g x) → l.filterMap f = l.filterMap g
  | [], _ => rfl
  | x :: l, h => by
    rw [List.filterMap_cons, List.filterMap_cons, h x List.mem_cons_self, fm_congr fun y hy => h y (List.mem_cons_of_mem _ hy)]
theorem pick_rev (xs : Array Value) : ((List.range xs.size).filterMap fun (m : Nat) => xs[(((xs.size : Int) - 1) + (m : Int) * (-1)).toNat]?).toArray = xs.toList.reverse.toArray := by
  have h := pick_gen xs.toList.reverse.toArray 0 xs.size
  rw [List.drop_zero, List.take_of_length_le (by simp)] at h
  rw [show xs.toList.reverse.toArray = xs.toList.reverse.toArray.toList.toArray by simp, ← h]
  refine congrArg List.toArray (fm_congr fun m hm => ?_)
  have hm' := List.mem_range.mp hm
  have e1 : (((xs.size : Int) - 1) + (m : Int) * (-1)).toNat = xs.size - 1 - m := by omega
  have e2 : (((0 : Nat) : Int) + (m : Int) * 1).toNat = m := by omega
  rw [e1, e2]
  simp [List.getElem?_reverse, hm']
section
variable {prog : Program} {w : World} {A : Around} {E : Value → Shared → Prop} {s : Shared}
theorem sliceApplied_rev {sl : Addr} {vs : Value} {n : Nat} {Q : Int × Int × Nat → Shared → Prop} (hs : s.heap.IsSliceOf sl .none .none vs) (ps : IsPart vs (some (-1)))
    (h : Q ((n : Int) - 1, -1, n) s) : wpAny (model prog w) A (Builtin.Slice.sliceApplied (.ref sl) (pure (n : Int))) Q E s := by
  obtain ⟨os, hos, hcs, hds⟩ := id hs
  unfold Builtin.Slice.sliceApplied Builtin.Slice.sliceFields
  refine wpAny_bind (wpAny_bind (wpAny_field hos hds (x := .none) rfl (wpAny_bind (wpAny_field hos hds (x := .none) rfl (wpAny_bind (wpAny_field hos hds (x := vs) rfl (wpAny_pure ?_)))))))
  refine wpAny_bind (slicePart_ ps ?_)
  show wpAny _ _ (if ((-1 : Int) == 0) = true then _ else _) _ _ s
  rw [if_neg (by decide)]
  refine wpAny_bind (slicePart_none (wpAny_bind (slicePart_none (wpAny_bind (wpAny_pure ?_)))))
  show wpAny _ _ (match Builtin.Slice.sliceAdjust none none (-1) (n : Int) with | (lo, hi) => pure (lo, (-1 : Int), Builtin.Slice.slicePlaces lo hi (-1))) _ _ s
  rw [adjust_rev n]
  show wpAny _ _ (pure (((n : Int) - 1), (-1 : Int), Builtin.Slice.slicePlaces ((n : Int) - 1) (-1) (-1))) _ _ s
  rw [places_rev]
  exact wpAny_pure h
theorem getItem_tuple_rev {t sl : Addr} {items : Array Value} {vs : Value} {Q : Value → Shared → Prop} (ht : IsTup s.heap t items) (hs : s.heap.IsSliceOf sl .none .none vs) (ps : IsPart vs (some (-1)))
    (h : Q (.ref s.heap.objs.size) { s with heap := s.heap.push { cls := .type "tuple", data := .seq items.toList.reverse.toArray } })
    (hsz : items.size ≤ sizeLine) : wpAny (model prog w) A (getItem (.ref t) (.ref sl)) Q E s := by
  have htake : sizeOk (.seq items.toList.reverse.toArray) := by
    show items.toList.reverse.toArray.size ≤ sizeLine
    rw [List.size_toArray, List.length_reverse, Array.length_toList]
    exact hsz
  obtain ⟨os, hos, hcs, hds⟩ := id hs
  have hTs : s.TypeIs (.ref sl) "slice" := ⟨os, hos, hcs⟩
  unfold getItem
  try with_reducible refine wpAny_holding ?_
  first | refine wpAny_bind (wpAny_pure ?_) | skip
  refine wpAny_bind (wpAny_sequenceKey ht.typeIs (by decide) ?_)
  refine wpAny_bind (wpAny_callSpecial?_slot (name := Str.ofString "__getitem__") ht.typeIs PyProof.Rows.slot_tuple_getitem
    (wpAny_call_entry PyProof.Rows.slot_tuple_getitem ht.typeIs entry_tuple_getitem ?_ (args_tuple_getitem _ _)))
  show wpAny _ _ (Builtin.Tuple.tupleItemsOf (.ref t) >>= _) _ _ s
  refine wpAny_bind (tupleItemsOf_ ht ?_)
  refine wpAny_bind (wpAny_typeOf hTs ?_)
  rw [if_pos (by decide)]
  refine wpAny_bind (sliceApplied_rev hs ps ?_)
  have hno : ¬ ((((items.size : Int) - 1) == 0 && (-1 : Int) == 1 && (items.size == items.size)) = true) := by
    intro q
    rw [Bool.and_eq_true, Bool.and_eq_true] at q
    exact absurd q.1.2 (by decide)
  show wpAny _ _ (if (((items.size : Int) - 1) == 0 && (-1 : Int) == 1 && (items.size == items.size)) = true then _ else _) _ _ s
  rw [if_neg hno, pick_rev]
  first
    | exact wpAny_bind (m := Builtin.Tuple.tupleExact _) (wpAny_newObj_type (wpAny_pure ⟨_, rfl, wpAny_pure h⟩) htake)
    | exact wpAny_bind (m := Builtin.Tuple.tupleExact _) (wpAny_newObj_type (wpAny_bind (wpAny_pure (wpAny_pure ⟨_, rfl, wpAny_pure h⟩))) htake)
    | exact wpAny_bind (wpAny_bind (m := Builtin.Tuple.tupleExact _) (wpAny_newObj_type (wpAny_pure (wpAny_pure ⟨_, rfl, wpAny_pure h⟩)) htake))
    | exact wpAny_bind (wpAny_bind (m := Builtin.Tuple.tupleExact _) (wpAny_newObj_type (wpAny_pure ⟨_, rfl, wpAny_pure h⟩) htake))
end
end HT
namespace L2
open PySem PySem.Spec PyProof.Rows
section
variable {X : Cx}
def tRevT (K : PySem.W.Frag) (te : TE) : TE := fun σ H Q => te σ H fun x H1 => ∃ a xs, x = .ref a ∧ SqT K H1 a xs ∧ ∀ p, H1 p = none → Q (.ref p) (upd H1 p (.tup xs.reverse))
theorem pe_revT {e : Expr} {te : TE} {k : Nat} {p1 p2 p3 pos : Pos} (he : PE X e te) : PE X (.Subscript e (.Slice none none (some (.UnaryOp .USub (.Constant (.int 1) k p1) p2)) p3) pos) (tRevT X.K te) := by
  refine ⟨fun pins s σ H Q I h => ?_⟩
  refine Subscript_ (thn (he.run pins s σ H _ I h) fun v s1 ⟨x, H1, I1, r1, q1⟩ => ?_)
  obtain ⟨a, xs, ex, hx, q⟩ := q1
  subst ex
  cases r1
  have hst : PO X (some (.UnaryOp .USub (.Constant (.int 1) k p1) p2)) (tPart (tUn (rU fun i => .int (-i)) (tC (.int 1)))) := po_some (pe_un un_neg pe_int)
  refine wpAny_Slice (thn (po_none.run pins s1 σ H1 (fun o H2 => o = none ∧ H2 = H1) I1 ⟨rfl, rfl⟩) fun vl s2 ⟨l, H2, I2, pl, el, e2⟩ => ?_)
  subst el e2
  refine thn (po_none.run pins s2 σ H2 (fun o H3 => o = none ∧ H3 = H2) I2 ⟨rfl, rfl⟩) fun vu s3 ⟨u, H3, I3, pu, eu, e3⟩ => ?_
  subst eu e3
  refine thn (hst.run pins s3 σ H3 (fun o H4 => o = some (-1) ∧ H4 = H3) I3 ⟨1, rfl, -1, rfl, rfl, rfl⟩) fun vs s4 ⟨o, H4, I4, ps, eo, e4⟩ => ?_
  subst eo e4
  have I5 : Inv X pins σ H4 { s4 with heap := s4.heap.push { cls := .type "slice", data := .fields #[vl, vu, vs] } } := I4.kept (t' := s4.toks) fun b ob q => Heap.get?_push_of_some _ q
  obtain ⟨its, r, ht, hz⟩ := I5.tuple hx
  have hlen := r.length
  show wpAny (model X.prog X.w) X.A (subscriptTail e (.Slice none none (some (.UnaryOp .USub (.Constant (.int 1) k p1) p2)) p3) (.ref a) (.ref s4.heap.objs.size)) (EP X pins σ Q) X.xe { s4 with heap := s4.heap.push { cls := .type "slice", data := .fields #[vl, vu, vs] } }
  refine tail_any (ops := [.ref a, .ref s4.heap.objs.size]) ht.typeIs (PyProof.Rows.slot_tuple_getitem.lookup) ?_ (by with_unfolding_all rfl)
  cases pl
  cases pu
  refine HT.getItem_tuple_rev ht (Heap.IsSliceOf.new _ .none .none vs) ps ?_ (by rw [List.size_toArray]; omega)
  refine ⟨.ref _, _, I5.laid (t' := s4.toks) (o := .tup xs.reverse) (fun b ob q => Heap.get?_push_of_some _ q) (Nat.le_refl _) ?_, rfl, q _ (I5.hok.fresh (Nat.le_refl _))⟩
  refine ⟨by rw [List.length_reverse]; exact hz, _, r.reverse, ?_⟩
  exact ⟨_, Heap.get?_push_size _ rfl, rfl, _, rfl⟩
end
end L2

set_option maxRecDepth 100000
set_option maxHeartbeats 4000000
namespace Kl
open PySem PySem.Spec PyProof.Rows L2 Gx Mx RZ
/-- one item that the law puts into ways -/
abbrev OkI (d : PyData) : Prop := (∃ z, d = .str z ∧ PyData.strOk z = true) ∨ d = .none ∨ (∃ i, d = .int i) ∨ ∃ z, d = .tuple (tD [z]) ∧ PyData.strOk z = true
/-- what is_way may be asked -/
def ValOk (K : PySem.W.Frag) (H : Hp) (v : V) : Prop := NoTup K H v ∨ ∃ (wy : Addr) (us : List V) (ds : List PyData), v = .ref wy ∧ H wy = some (.tup us) ∧ DpAll K H us ds ∧ Itm2 ds ∧ us.length ≤ 64
theorem valok_of {K : PySem.W.Frag} {G : Hp} {p : Addr} {us : List V} {ds : List PyData} {ys : List Str} {dn : PyData} (hY : ∀ y ∈ ys, PyData.strOk y = true) (hn : OkI dn) (e : G p = some (.tup us)) (dp : DpAll K G us ds) (it : ∀ d ∈ ds, d ∈ tD ys ∨ d = dn) (l : us.length ≤ 64) : ValOk K G (.ref p) := by
  refine .inr ⟨p, us, ds, rfl, e, dp, fun d hd => ?_, l⟩
  rcases it d hd with h | h
  · obtain ⟨y, hy, rfl⟩ := List.mem_map.mp h
    exact .inl ⟨y, rfl, hY y hy⟩
  · rw [h]
    exact hn
section
variable {P : Program} {w : World} {K : PySem.W.Frag} {mg : Str → Option Value} {base : Heap}
/-! ### _law_near -/
def spNear (K : PySem.W.Frag) : Sp := fun vs H Q _ => ∃ (d ow mk wy : Addr) (leaf : Str) (kvs : List (Key × V)) (M : Mak) (ys : List Str), vs = [.ref d, .ref ow, .ref wy] ∧ DiceAt H d ∧ Own H ow mk leaf kvs M ∧ H wy = some (.tup (ys.map V.str)) ∧ ys ≠ [] ∧ ys.length ≤ 63 ∧ (∀ y ∈ ys, PyData.strOk y = true) ∧
  ∀ val H', SameX d H H' → DiceAt H' d → ValOk K H' val → Q val H'
theorem ok_near {f : Addr} {fd : FuncData} (F : Fun K "_law_near" "_law_near" s_law_near f fd) (T : Top K mg) : FnOk P w K mg base CX0 3 f fd ["_law_dice_here", "_law_own", "_law_way"] (spNear K) := by
  have cr : Cal P w K mg base 2 "_law_roll" ["_law_dice_here", "_law_total"] spRoll := (T.d_law_roll.cal fun f fd F => ok_roll F T).mono (by decide)
  have cp : Cal P w K mg base 2 "_law_pick" ["_law_dice_here", "_law_items"] (spPick K) := T.d_law_pick.cal fun f fd F => ok_pick F T
  have ca : Cal P w K mg base 2 "_law_all_names" ["_law_own"] spAllN := (T.d_law_all_names.cal fun f fd F => ok_allN F T).mono (by decide)
  refine F.ok sc_law_near (fun vs H Q E h => ?_) (fun cdv A outer s H vs Q E hr h => ?_)
  · obtain ⟨d, ow, mk, wy, leaf, kvs, M, ys, rfl, _⟩ := h
    rfl
  · obtain ⟨d, ow, mk, wy, leaf, kvs, M, ys, rfl, hd, hO, ewy, hne, hl, hY, q⟩ := h
    have hu := hu_of hr
    refine ⟨_, pss_cut (ps_par (i := 3) (j := 4) rfl sc_law_near.nd rfl rfl (by decide) rfl rfl (pa_cons (pe_cal cr hr (by rfl) (pa_cons (pv 0) (pa_cons pe_int pa_nil))) (pa_cons (pe_cal cr hr (by rfl) (pa_cons (pv 0) (pa_cons (pe_callB call_len_seq (by rfl) T.b_len PySem.boot_len (pa_cons (pv 2) pa_nil)) pa_nil))) pa_nil)) (by kernel_rfl))
      (pss_cut (ps_set (i := 5) sc_law_near.nd rfl (.inl rfl) (pe_cal cp hr (by rfl) (pa_cons (pv 0) (pa_cons (pe_op op_cat (pe_cal ca hr (by rfl) (pa_cons (pv 1) pa_nil))
          (pe_lst (pa_cons pe_str (pa_cons pe_str (pa_cons pe_non (pa_cons pe_int (pa_cons (pe_tup (pa_cons (pe_ix ix_list (pv 1) pe_int (fun _ _ => rfl)) pa_nil)) pa_nil))))))) pa_nil))))
      (pss_cons (ps_if (pt_cmpR op_lt (pv 3) pe_int (nomark _)) (pss_one (ps_ret (pe_op op_catC (pe_op op_catC (pe_slice sl_tupC (pv 2) po_none (po_some (pv 4))) (pe_tup (pa_cons (pv 5) pa_nil))) (pe_slice sl_tupC (pv 2) (po_some (pe_op op_add (pv 4) pe_int)) po_none)))) pss_nil)
      (pss_cons (ps_if (pt_cmpR op_eq (pv 3) pe_int (nomark _)) (pss_one (ps_ret (pe_op op_catC (pe_slice sl_tupC (pv 2) po_none (po_some (pv 4))) (pe_slice sl_tupC (pv 2) (po_some (pe_op op_add (pv 4) pe_int)) po_none)))) pss_nil)
      (pss_cons (ps_if (pt_cmpR op_eq (pv 3) pe_int (nomark _)) (pss_one (ps_ret (pe_op op_catC (pe_op op_catC (pe_slice sl_tupC (pv 2) po_none (po_some (pv 4))) (pe_tup (pa_cons (pv 5) pa_nil))) (pe_slice sl_tupC (pv 2) (po_some (pv 4)) po_none)))) pss_nil)
      (pss_cons (ps_if (pt_cmpR op_eq (pv 3) pe_int (nomark _)) (pss_one (ps_ret (pe_op op_catC (pv 2) (pe_tup (pa_cons (pv 5) pa_nil))))) pss_nil)
      (pss_one (ps_ret (pe_ix ix_list (pe_lst (pa_cons (pe_slice sl_tupC (pv 2) po_none (po_some (pe_op op_add (pv 4) pe_int))) (pa_cons (pe_callTy call_list_of (by rfl) T.b_list (by decide +kernel) (pa_cons (pv 2) pa_nil)) (pa_cons (pe_revT (pv 2)) pa_nil)))) (pe_op op_sub (pv 3) pe_int) (fun _ _ => rfl))))))))), ?_⟩
    have big : 100000 ≤ sizeLine := by decide
    have lpos : 0 < ys.length := List.length_pos_iff.mpr hne
    -- the rolls
    refine ⟨fun σ' G => ∃ (sp : Int) (at' : Nat), σ' = [some (.ref d), some (.ref ow), some (.ref wy), some (.int sp), some (.int (at' : Nat)), none] ∧ 0 ≤ sp ∧ sp < 8 ∧ at' < ys.length ∧ SameX d H G ∧ DiceAt G d, ?_, ?_⟩
    · refine ⟨_, rfl, d, 8, rfl, hd, by decide, by decide, fun sp x1 b1 z1 sp0 sp1 => ?_⟩
      have sx1 : SameX d H (upd H d (.lst [.int x1, .int b1, .int z1])) := fun b o n e => by rw [upd_ne n]; exact e
      have hd1 := dice_new (H := H) (d := d) x1 b1 z1
      generalize upd H d (.lst [.int x1, .int b1, .int z1]) = G1 at sx1 hd1
      have ewy1 := sx1 _ _ (fun c => by obtain ⟨a, b, c', e⟩ := hd; rw [c, e] at ewy; cases ewy) ewy
      refine ⟨_, rfl, _, rfl, wy, _, rfl, .inr (.inl (.inl ewy1)), d, _, rfl, hd1, ?_, ?_, fun u x2 b2 z2 u0 u1 => ?_⟩
      · rw [List.length_map]
        omega
      · rw [List.length_map]
        exact log2_small (by omega)
      obtain ⟨un, rfl⟩ := Int.eq_ofNat_of_zero_le u0
      rw [List.length_map] at u1
      exact ⟨_, _, rfl, sp, un, rfl, sp0, sp1, by omega, fun b o n e => by rw [upd_ne n]; exact sx1 b o n e, dice_new x2 b2 z2⟩
    rintro σ' G1 ⟨sp, at', rfl, sp0, sp1, hat, sx1, hd1⟩
    have ned : ∀ {G : Hp} {a : Addr} {xs : List V}, DiceAt G d → G a = some (.tup xs) → a ≠ d := fun h e c => by
      obtain ⟨_, _, _, e2⟩ := h
      rw [c, e2] at e
      cases e
    have ewy1 := sx1 _ _ (ned hd ewy) ewy
    have hO1 : Own G1 ow mk leaf kvs M := by
      obtain ⟨a, b, c, e⟩ := id hd
      exact ⟨sx1 _ _ (fun z => by have h := hO.e; rw [z, e] at h; cases h) hO.e, sx1 _ _ (fun z => by have h := hO.emk; rw [z, e] at h; cases h) hO.emk, hO.at'.samex hd sx1, hO.v⟩
    -- an item
    refine ⟨fun σ' G => ∃ (nm : V) (dn : PyData), σ' = [some (.ref d), some (.ref ow), some (.ref wy), some (.int sp), some (.int (at' : Nat)), some nm] ∧ Dp K G nm dn ∧ OkI dn ∧ SameX d H G ∧ DiceAt G d, ?_, ?_⟩
    · refine ⟨_, rfl, _, rfl, ow, mk, leaf, kvs, M, rfl, hO1, fun p ns G2 hN s2 ep => ?_⟩
      have hO2 := hO1.same s2
      refine ⟨_, rfl, ow, _, _, _, rfl, rfl, .inl (.inl hO2.e), two0, by show 1 ≤ sizeLine; omega, fun tl ntl => ?_⟩
      have s3 := same_new (o := .tup [.str leaf]) (Same.refl G2) ntl
      have etl : (upd G2 tl (.tup [.str leaf])) tl = some (.tup [.str leaf]) := upd_same
      generalize upd G2 tl (.tup [.str leaf]) = G3 at s3 etl
      refine ⟨by show 5 ≤ sizeLine; omega, fun pl npl => ?_⟩
      have s4 := same_new (o := .lst [V.str "zz", V.str "", V.non, V.int 0, V.ref tl]) (Same.refl G3) npl
      have epl : (upd G3 pl (.lst [V.str "zz", V.str "", V.non, V.int 0, V.ref tl])) pl = some (.lst [V.str "zz", V.str "", V.non, V.int 0, V.ref tl]) := upd_same
      generalize upd G3 pl (.lst [V.str "zz", V.str "", V.non, V.int 0, V.ref tl]) = G4 at s4 epl
      have ep4 := s4 _ _ (s3 _ _ ep)
      have lns : ns.length ≤ 6 := hO.v.few ns hN.nd fun z hz => (hN.mem z).mp hz
      refine ⟨p, pl, _, _, rfl, rfl, ep4, epl, ?_, fun pc npc => ?_⟩
      · rw [List.length_map]
        show ns.length + 5 ≤ sizeLine
        omega
      have s5 := same_new (o := .lst (ns.map V.str ++ [V.str "zz", V.str "", V.non, V.int 0, V.ref tl])) (Same.refl G4) npc
      have epc : (upd G4 pc (.lst (ns.map V.str ++ [V.str "zz", V.str "", V.non, V.int 0, V.ref tl]))) pc = some (.lst (ns.map V.str ++ [V.str "zz", V.str "", V.non, V.int 0, V.ref tl])) := upd_same
      have hd4 : DiceAt G4 d := by
        obtain ⟨a, b, c, e⟩ := hd1
        exact ⟨a, b, c, s4 _ _ (s3 _ _ (s2 _ _ e))⟩
      have npd : pc ≠ d := dice_ne hd4 npc
      have hd5 : DiceAt (upd G4 pc (.lst (ns.map V.str ++ [V.str "zz", V.str "", V.non, V.int 0, V.ref tl]))) d := by
        obtain ⟨a, b, c, e⟩ := hd4
        exact ⟨a, b, c, s5 _ _ e⟩
      generalize upd G4 pc (.lst (ns.map V.str ++ [V.str "zz", V.str "", V.non, V.int 0, V.ref tl])) = G5 at s5 epc hd5
      have etl5 := s5 _ _ (s4 _ _ etl)
      have sx5 : SameX d H G5 := sx1.trans (SameX.of fun b o e => s5 _ _ (s4 _ _ (s3 _ _ (s2 _ _ e))))
      refine ⟨d, .ref pc, _, rfl, hd5, .inl ⟨pc, rfl, npd, .inl (.inl (.inl epc))⟩, by simp, ?_, fun nm x1 b1 z1 hv => ?_⟩
      · rw [List.length_append, List.length_map]
        show ns.length + 5 ≤ 100000
        omega
      have sx6 : SameX d G5 (upd G5 d (.lst [.int x1, .int b1, .int z1])) := fun b o n e => by rw [upd_ne n]; exact e
      have hd6 := dice_new (H := G5) (d := d) x1 b1 z1
      have etl6 := sx6 _ _ (ned hd5 etl5) etl5
      generalize upd G5 d (.lst [.int x1, .int b1, .int z1]) = G6 at sx6 hd6 etl6
      have fin : ∀ dn, Dp K G6 nm dn → OkI dn → _ := fun dn h1 h2 => (⟨nm, dn, rfl, h1, h2, sx5.trans sx6, hd6⟩ : ∃ (nm' : V) (dn : PyData), [some (.ref d), some (.ref ow), some (.ref wy), some (.int sp), some (.int (at' : Nat)), some nm] = [some (.ref d), some (.ref ow), some (.ref wy), some (.int sp), some (.int (at' : Nat)), some nm'] ∧ Dp K G6 nm' dn ∧ OkI dn ∧ SameX d H G6 ∧ DiceAt G6 d)
      rcases List.mem_append.mp hv with h | h
      · obtain ⟨z, hz, rfl⟩ := List.mem_map.mp h
        refine fin (.str z) (.str z) (.inl ⟨z, rfl, ?_⟩)
        rcases (hN.mem z).mp hz with rfl | h
        · exact pool_ok hO.v.lf
        · exact pool_ok (hO.v.keys z h)
      · rcases List.mem_cons.mp h with rfl | h
        · exact fin (.str "zz") (.str _) (.inl ⟨_, rfl, by decide +kernel⟩)
        rcases List.mem_cons.mp h with rfl | h
        · exact fin (.str "") (.str _) (.inl ⟨_, rfl, by decide +kernel⟩)
        rcases List.mem_cons.mp h with rfl | h
        · exact fin .none .non (.inr (.inl rfl))
        rcases List.mem_cons.mp h with rfl | h
        · exact fin (.int 0) (.int 0) (.inr (.inr (.inl ⟨0, rfl⟩)))
        rw [List.mem_singleton.mp h] at fin ⊢
        exact fin (.tuple (tD [leaf])) (.tup (.inl (.inl etl6)) (dp_texts [leaf])) (.inr (.inr (.inr ⟨leaf, rfl, pool_ok hO.v.lf⟩)))
    rintro σ' G ⟨nm, dn, rfl, hnm, hn, sx, hdG⟩
    have ewyG := sx _ _ (ned hd ewy) ewy
    have e1 : ((at' : Nat) : Int) + 1 = ((at' + 1 : Nat) : Int) := by omega
    have lW : (ys.map V.str).length = ys.length := List.length_map _
    have hWD : ∀ {G' : Hp}, DpAll K G' (ys.map V.str) (tD ys) := dp_texts ys
    have done : ∀ {G' : Hp} {p : Addr} {us : List V} {ds : List PyData}, Same G G' → G' p = some (.tup us) → DpAll K G' us ds → (∀ d ∈ ds, d ∈ tD ys ∨ d = dn) → us.length ≤ 64 → Q (.ref p) G' := fun s e dp it l => by
      refine q _ _ (sx.trans (SameX.of s)) ?_ (valok_of hY hn e dp it l)
      obtain ⟨a, b, c, e⟩ := hdG
      exact ⟨a, b, c, s _ _ e⟩
    have mT : ∀ {n : Nat} {x : PyData}, x ∈ (tD ys).take n → x ∈ tD ys := fun h => List.mem_of_mem_take h
    have mD : ∀ {n : Nat} {x : PyData}, x ∈ (tD ys).drop n → x ∈ tD ys := fun h => List.mem_of_mem_drop h
    have small : (200 : Nat) ≤ sizeLine := by omega
    have lT : ∀ n, ((ys.map V.str).take n).length ≤ 63 := fun n => by rw [List.length_take, lW]; omega
    have lD : ∀ n, ((ys.map V.str).drop n).length ≤ 63 := fun n => by rw [List.length_drop, lW]; omega
    have sumL : ((ys.map V.str).take at').length + ((ys.map V.str).drop (at' + 1)).length + 1 ≤ 63 := by rw [List.length_take, List.length_drop, lW]; omega
    have sumL2 : ((ys.map V.str).take at').length + ((ys.map V.str).drop at').length ≤ 63 := by rw [List.length_take, List.length_drop, lW]; omega
    refine ⟨_, rfl, _, _, rfl, rfl, _, rfl, ite2 (fun c => ?_) (fun c => ?_)⟩
    · refine ⟨_, rfl, _, rfl, _, rfl, wy, _, rfl, ewyG, fun p1 G1 s1 ep1 => ?_⟩
      rw [cut_to] at ep1
      refine ⟨_, rfl, by show 1 ≤ sizeLine; omega, fun p2 np2 => ?_⟩
      have s2 := same_new (o := .tup [nm]) (Same.refl G1) np2
      refine ⟨p1, p2, _, _, rfl, rfl, s2 _ _ ep1, upd_same, ?_, fun p3 G3 s3 ep3 => ?_⟩
      · have := lT at'
        show ((ys.map V.str).take at').length + 1 ≤ sizeLine
        omega
      have s03 : Same G G3 := fun b o e => s3 _ _ (s2 _ _ (s1 _ _ e))
      refine ⟨_, rfl, _, rfl, _, _, rfl, rfl, _, rfl, wy, _, rfl, s03 _ _ ewyG, fun p4 G4 s4 ep4 => ?_⟩
      rw [e1, cut_from] at ep4
      refine ⟨p3, p4, _, _, rfl, rfl, s4 _ _ ep3, ep4, ?_, fun p5 G5 s5 ep5 => ?_⟩
      · rw [List.length_append, List.length_singleton]
        omega
      have s05 : Same G G5 := fun b o e => s5 _ _ (s4 _ _ (s03 _ _ e))
      refine done (ds := (tD ys).take at' ++ [dn] ++ (tD ys).drop (at' + 1)) s05 ep5 (dp_app (dp_drop _ hWD) (dp_app (.cons (dp_same s05 _ _ hnm) .nil) (dp_take _ hWD))) (fun x hx => ?_) ?_
      · rcases List.mem_append.mp hx with h | h
        · rcases List.mem_append.mp h with h | h
          · exact .inl (mT h)
          · exact .inr (List.mem_singleton.mp h)
        · exact .inl (mD h)
      · rw [List.length_append, List.length_append, List.length_singleton]
        omega
    refine ⟨_, rfl, rfl, _, rfl, ite2 (fun c2 => ?_) (fun c2 => ?_)⟩
    · refine ⟨_, rfl, _, rfl, _, rfl, wy, _, rfl, ewyG, fun p1 G1 s1 ep1 => ?_⟩
      rw [cut_to] at ep1
      refine ⟨_, rfl, _, rfl, _, _, rfl, rfl, _, rfl, wy, _, rfl, s1 _ _ ewyG, fun p4 G4 s4 ep4 => ?_⟩
      rw [e1, cut_from] at ep4
      refine ⟨p1, p4, _, _, rfl, rfl, s4 _ _ ep1, ep4, by omega, fun p5 G5 s5 ep5 => ?_⟩
      have s05 : Same G G5 := fun b o e => s5 _ _ (s4 _ _ (s1 _ _ e))
      refine done (ds := (tD ys).take at' ++ (tD ys).drop (at' + 1)) s05 ep5 (dp_app (dp_drop _ hWD) (dp_take _ hWD)) (fun x hx => ?_) ?_
      · rcases List.mem_append.mp hx with h | h
        · exact .inl (mT h)
        · exact .inl (mD h)
      · rw [List.length_append]
        omega
    refine ⟨_, rfl, rfl, _, rfl, ite2 (fun c3 => ?_) (fun c3 => ?_)⟩
    · refine ⟨_, rfl, _, rfl, _, rfl, wy, _, rfl, ewyG, fun p1 G1 s1 ep1 => ?_⟩
      rw [cut_to] at ep1
      refine ⟨_, rfl, by show 1 ≤ sizeLine; omega, fun p2 np2 => ?_⟩
      have s2 := same_new (o := .tup [nm]) (Same.refl G1) np2
      refine ⟨p1, p2, _, _, rfl, rfl, s2 _ _ ep1, upd_same, ?_, fun p3 G3 s3 ep3 => ?_⟩
      · have := lT at'
        show ((ys.map V.str).take at').length + 1 ≤ sizeLine
        omega
      have s03 : Same G G3 := fun b o e => s3 _ _ (s2 _ _ (s1 _ _ e))
      refine ⟨_, rfl, _, rfl, _, rfl, wy, _, rfl, s03 _ _ ewyG, fun p4 G4 s4 ep4 => ?_⟩
      rw [cut_from] at ep4
      refine ⟨p3, p4, _, _, rfl, rfl, s4 _ _ ep3, ep4, ?_, fun p5 G5 s5 ep5 => ?_⟩
      · rw [List.length_append, List.length_singleton]
        omega
      have s05 : Same G G5 := fun b o e => s5 _ _ (s4 _ _ (s03 _ _ e))
      refine done (ds := (tD ys).take at' ++ [dn] ++ (tD ys).drop at') s05 ep5 (dp_app (dp_drop _ hWD) (dp_app (.cons (dp_same s05 _ _ hnm) .nil) (dp_take _ hWD))) (fun x hx => ?_) ?_
      · rcases List.mem_append.mp hx with h | h
        · rcases List.mem_append.mp h with h | h
          · exact .inl (mT h)
          · exact .inr (List.mem_singleton.mp h)
        · exact .inl (mD h)
      · rw [List.length_append, List.length_append, List.length_singleton]
        omega
    refine ⟨_, rfl, rfl, _, rfl, ite2 (fun c4 => ?_) (fun c4 => ?_)⟩
    · refine ⟨_, rfl, _, rfl, by show 1 ≤ sizeLine; omega, fun p2 np2 => ?_⟩
      have s2 := same_new (o := .tup [nm]) (Same.refl G) np2
      refine ⟨wy, p2, _, _, rfl, rfl, s2 _ _ ewyG, upd_same, ?_, fun p5 G5 s5 ep5 => ?_⟩
      · rw [lW]
        show ys.length + 1 ≤ sizeLine
        omega
      have s05 : Same G G5 := fun b o e => s5 _ _ (s2 _ _ e)
      refine done (ds := tD ys ++ [dn]) s05 ep5 (dp_app (.cons (dp_same s05 _ _ hnm) .nil) hWD) (fun x hx => ?_) ?_
      · rcases List.mem_append.mp hx with h | h
        · exact .inl h
        · exact .inr (List.mem_singleton.mp h)
      · rw [List.length_append, List.length_singleton, lW]
        omega
    -- a list of three
    refine ⟨_, rfl, _, rfl, _, _, rfl, rfl, _, rfl, wy, _, rfl, ewyG, fun p1 G1 s1 ep1 => ?_⟩
    rw [e1, cut_to] at ep1
    refine ⟨_, rfl, wy, _, rfl, .inr (.inl (.inl (s1 _ _ ewyG))), fun p2 np2 => ?_⟩
    have s2 := same_new (o := .lst (ys.map V.str)) (Same.refl G1) np2
    have ep2 : (upd G1 p2 (.lst (ys.map V.str))) p2 = some (.lst (ys.map V.str)) := upd_same
    generalize upd G1 p2 (.lst (ys.map V.str)) = G2 at s2 ep2
    refine ⟨_, rfl, wy, _, rfl, .inl (.inl (s2 _ _ (s1 _ _ ewyG))), fun p3 np3 => ?_⟩
    have s3 := same_new (o := .tup (ys.map V.str).reverse) (Same.refl G2) np3
    have ep3 : (upd G2 p3 (.tup (ys.map V.str).reverse)) p3 = some (.tup (ys.map V.str).reverse) := upd_same
    generalize upd G2 p3 (.tup (ys.map V.str).reverse) = G3 at s3 ep3
    refine ⟨by show 3 ≤ sizeLine; omega, fun p4 np4 => ?_⟩
    have s4 := same_new (o := .lst [V.ref p1, V.ref p2, V.ref p3]) (Same.refl G3) np4
    have ep4 : (upd G3 p4 (.lst [V.ref p1, V.ref p2, V.ref p3])) p4 = some (.lst [V.ref p1, V.ref p2, V.ref p3]) := upd_same
    generalize upd G3 p4 (.lst [V.ref p1, V.ref p2, V.ref p3]) = G4 at s4 ep4
    have s04 : Same G G4 := fun b o e => s4 _ _ (s3 _ _ (s2 _ _ (s1 _ _ e)))
    have ex : sp = 5 ∨ sp = 6 ∨ sp = 7 := by
      have n1 : ¬ sp < 2 := fun h => c (decide_eq_true h)
      have n2 : ¬ sp = 2 := fun h => c2 (by rw [h]; rfl)
      have n3 : ¬ sp = 3 := fun h => c3 (by rw [h]; rfl)
      have n4 : ¬ sp = 4 := fun h => c4 (by rw [h]; rfl)
      omega
    rcases ex with rfl | rfl | rfl
    · refine ⟨_, rfl, _, _, rfl, rfl, p4, _, 0, .ref p1, rfl, rfl, .inl (.inl ep4), atI_nat (j := 0) rfl, ?_⟩
      refine done (ds := (tD ys).take (at' + 1)) s04 (s4 _ _ (s3 _ _ (s2 _ _ ep1))) (dp_take _ hWD) (fun x hx => .inl (mT hx)) ?_
      have := lT (at' + 1)
      omega
    · refine ⟨_, rfl, _, _, rfl, rfl, p4, _, 1, .ref p2, rfl, rfl, .inl (.inl ep4), atI_nat (j := 1) rfl, ?_⟩
      refine q _ _ (sx.trans (SameX.of s04)) ?_ (.inl ⟨_, .base (.lst (s4 _ _ (s3 _ _ ep2))), kit_ty (by decide +kernel)⟩)
      obtain ⟨a, b, c, e⟩ := hdG
      exact ⟨a, b, c, s04 _ _ e⟩
    · refine ⟨_, rfl, _, _, rfl, rfl, p4, _, 2, .ref p3, rfl, rfl, .inl (.inl ep4), atI_nat (j := 2) rfl, ?_⟩
      refine done (us := (ys.map V.str).reverse) (ds := tD ys.reverse) s04 (s4 _ _ ep3) ?_ (fun x hx => .inl ?_) ?_
      · rw [← List.map_reverse]
        exact dp_texts _
      · obtain ⟨y, hy, rfl⟩ := List.mem_map.mp hx
        exact List.mem_map.mpr ⟨y, List.mem_reverse.mp hy, rfl⟩
      · rw [List.length_reverse, lW]
        omega
end
end Kl

set_option maxRecDepth 100000
set_option maxHeartbeats 4000000
namespace Kl
open PySem PySem.Spec PyProof.Rows L2 Gx Mx RZ
section
variable {P : Program} {w : World} {K : PySem.W.Frag} {mg : Str → Option Value} {base : Heap}
/-! ### what stays when the dice roll -/
theorem refs_ned {G : Hp} {d a : Addr} {as : List Addr} (hd : DiceAt G d) (e : G a = some (.lst (as.map V.ref))) : a ≠ d := fun z => by
  obtain ⟨p, q, r, h⟩ := hd
  rw [z, h] at e
  have e2 := HO.lst.inj (Option.some.inj e)
  cases as with
  | nil => cases e2
  | cons a as => cases (List.cons.inj e2).1
theorem KindsAt.dice {G G' : Hp} {C x md d : Addr} {leaf : Str} {M : Mak} {ns : List Str} (k : KindsAt C G x md leaf M ns) (hd : DiceAt G d) (s : SameX d G G') : KindsAt C G' x md leaf M ns := by
  obtain ⟨a, b, c', e⟩ := id hd
  have nt : ∀ xs, G d ≠ some (.tup xs) := fun xs z => by
    rw [e] at z
    cases z
  have nz : ∀ xs, ¬ TupZ G d xs := fun xs z => by
    obtain ⟨ob, _, q⟩ := z
    rw [e] at q
    cases q
  obtain ⟨_, _, _, h1, h2, _⟩ := id k
  exact k.keep s (fun z => by rw [z, e] at h1; cases h1) (fun z => by rw [z, e] at h2; cases h2) nt nz
theorem SetsAt.dice {G G' : Hp} {d : Addr} {leaf : Str} {M1 : Mak} {ts : List Addr} (h : SetsAt G leaf M1 ts) (hd : DiceAt G d) (s : SameX d G G') : SetsAt G' leaf M1 ts := fun i a e => by
  have h1 := h i a e
  obtain ⟨p, q, r, hh⟩ := hd
  exact s _ _ (fun z => by rw [z, hh] at h1; cases h1) h1
theorem PartsL.dice {G G' : Hp} {d : Addr} {kvs : List (Key × V)} {N : Mak} (h : PartsL G kvs N) (hd : DiceAt G d) (s : SameX d G G') : PartsL G' kvs N := by
  unfold PartsL at h ⊢
  obtain ⟨p, q, r, e⟩ := hd
  induction h with
  | nil => exact .nil
  | @cons kv m kvs N h _ ih =>
    obtain ⟨h1, a, h2, h3⟩ := h
    refine .cons ⟨h1, a, h2, s _ _ (fun z => ?_) h3⟩ ih
    rw [z, e] at h3
    have h4 := HO.lst.inj (Option.some.inj h3)
    cases c : m.2 with
    | nil => rw [c] at h4; cases h4
    | cons x l =>
      rw [c] at h4
      cases (List.cons.inj h4).1
theorem WaysAt.dice {G G' : Hp} {d : Addr} {leaf : Str} {M : Mak} {pl wl : Addr} (h : WaysAt G leaf M pl wl) (hd : DiceAt G d) (s : SameX d G G') : WaysAt G' leaf M pl wl := by
  obtain ⟨kvL, N, ws, h1, h2, h3, h4, h5, h6⟩ := h
  have nd : ∀ {a : Addr} {kv : List (Key × V)}, G a = some (.dK kv) → G' a = some (.dK kv) := fun h1 => s _ _ (fun z => by
    obtain ⟨p, q, r, e⟩ := hd
    rw [z, e] at h1
    cases h1) h1
  exact ⟨kvL, N, ws, nd h1, h2.dice hd s, h3, s _ _ (refs_ned hd h4) h4, h5, fun i a e => nd (h6 i a e)⟩
/-- what stays -/
structure RS (C R : Addr) (H : Hp) (d ow mk x kx md : Addr) (leaf : Str) (kvs : List (Key × V)) (M M1 : Mak) (ns : List Str) (L t : Nat) (G : Hp) : Prop where
  o : Own G ow mk leaf kvs M
  r : RanksAt C R G x kx md leaf M1 ns L t
  hd : DiceAt G d
  sx : SameX d H G
section
variable {C R : Addr} {H G G' : Hp} {d ow mk x kx md : Addr} {leaf : Str} {kvs : List (Key × V)} {M M1 : Mak} {ns : List Str} {L t : Nat}
theorem RS.same (h : RS C R H d ow mk x kx md leaf kvs M M1 ns L t G) (s : Same G G') : RS C R H d ow mk x kx md leaf kvs M M1 ns L t G' := by
  obtain ⟨a, b, c, e⟩ := h.hd
  exact ⟨h.o.same s, h.r.same s, ⟨a, b, c, s _ _ e⟩, h.sx.trans (SameX.of s)⟩
theorem RS.dice (h : RS C R H d ow mk x kx md leaf kvs M M1 ns L t G) (s : SameX d G G') (hd' : DiceAt G' d) : RS C R H d ow mk x kx md leaf kvs M M1 ns L t G' := by
  obtain ⟨p, q, r, e⟩ := id h.hd
  have nd : ∀ {a : Addr} {o : HO}, G a = some o → o ≠ .lst [.int p, .int q, .int r] → G' a = some o := fun h1 n => s _ _ (fun z => by rw [z, e] at h1; exact n (Option.some.inj h1).symm) h1
  have nl : ∀ {a : Addr} {as : List Addr}, G a = some (.lst (as.map V.ref)) → G' a = some (.lst (as.map V.ref)) := fun h1 => s _ _ (refs_ned h.hd h1) h1
  obtain ⟨dx, bl, pl, sl, wl, es, ds', h1, h2, h3, h4, h5, h6, h7, h8, h9⟩ := h.r
  exact ⟨⟨nd h.o.e (fun z => by cases z), nd h.o.emk (fun z => by cases z), h.o.at'.samex h.hd s, h.o.v⟩,
    ⟨dx, bl, pl, sl, wl, es, ds', nd h1 (fun z => by cases z), h2.dice h.hd s, nl h3, h4, h5.dice h.hd s, nl h6, h7, fun i a e' => nd (h8 i a e') (fun z => by cases z), h9.dice h.hd s⟩,
    hd', h.sx.trans s⟩
end
/-- .. and the law's sizes -/
structure SZ (G : Hp) (sz : Addr) (ss : List Addr) (leaf : Str) (M1 : Mak) : Prop where
  e : G sz = some (.lst (ss.map V.ref))
  l : ss.length = 64
  r : RowsAt G leaf M1 ss
theorem SZ.same {G G' : Hp} {sz : Addr} {ss : List Addr} {leaf : Str} {M1 : Mak} (h : SZ G sz ss leaf M1) (s : Same G G') : SZ G' sz ss leaf M1 := ⟨s _ _ h.e, h.l, h.r.same s⟩
theorem SZ.dice {G G' : Hp} {d sz : Addr} {ss : List Addr} {leaf : Str} {M1 : Mak} (h : SZ G sz ss leaf M1) (hd : DiceAt G d) (s : SameX d G G') : SZ G' sz ss leaf M1 :=
  ⟨s _ _ (refs_ned hd h.e) h.e, h.l, fun i b e => s _ _ (fun z => by
    obtain ⟨p, q, r, h1⟩ := hd
    have h2 := h.r i b e
    rw [z, h1] at h2
    cases h2) (h.r i b e)⟩
end
end Kl

set_option maxRecDepth 100000
set_option maxHeartbeats 4000000
namespace Kl
open PySem PySem.Spec PyProof.Rows L2 Gx Mx RZ
theorem siz_pos {leaf : Str} {N : Mak} (v : Nem N) : ∀ r z, z ∈ setR leaf N r → 0 < siz leaf N r z
  | 0, z, h => by
    rw [mem_zero.mp h, siz_zero]
    exact Nat.one_pos
  | r + 1, z, h => by
    obtain ⟨ps, h1, h2⟩ := (mem_succ v.nd).mp h
    rw [siz_succ v.nd h1 h2]
    cases ps with
    | nil => exact absurd rfl (v.ne _ (lookM_some h1))
    | cons p ps =>
      rw [List.map_cons, List.sum_cons]
      have := siz_pos v r p (h2 p List.mem_cons_self)
      omega
/-- what is no way -/
def NotW (K : PySem.W.Frag) (H : Hp) (leaf : Str) (M : Mak) (v : V) : Prop := NoTup K H v ∨ ∃ (wy : Addr) (us : List V) (ds : List PyData), v = .ref wy ∧ H wy = some (.tup us) ∧ DpAll K H us ds ∧ Itm ds ∧ us.length ≤ 403 ∧ ¬ Fits leaf M ds
section
variable {P : Program} {w : World} {K : PySem.W.Frag} {mg : Str → Option Value} {base : Heap}
/-! ### _law_right -/
def spRT : Sp := fun vs H Q _ => ∃ (d ow mk : Addr) (leaf : Str) (kvs : List (Key × V)) (M : Mak), vs = [.ref d, .ref ow] ∧ DiceAt H d ∧ Own H ow mk leaf kvs M ∧ ∀ H', SameX d H H' → DiceAt H' d → Q (.bl true) H'
theorem ok_rt {f : Addr} {fd : FuncData} (F : Fun K "_law_right" "_law_right" s_law_right f fd) (T : Top K mg) : FnG P w K mg base CX0 10 f fd ["_law_dice_here", "_law_own"] spRT := by
  obtain ⟨C, TC⟩ := T.c_Kinds
  obtain ⟨R, TR⟩ := T.c_Ranks
  obtain ⟨Co, XO, XC, te⟩ := T.p_InvalidOperation
  have cr : Cal P w K mg base 9 "_law_roll" ["_law_dice_here", "_law_total"] spRoll := (T.d_law_roll.cal fun f fd F => ok_roll F T).mono (by decide)
  have cp : Cal P w K mg base 9 "_law_pick" ["_law_dice_here", "_law_items"] (spPick K) := (T.d_law_pick.cal fun f fd F => ok_pick F T).mono (by decide)
  have cb : Cal P w K mg base 9 "_law_as_book" ["_law_own"] spAsB := (T.d_law_as_book.cal fun f fd F => ok_asB F T).mono (by decide)
  have cs : Cal P w K mg base 9 "_law_sizes" ["_law_plain", "_law_bound"] spSizes := (T.d_law_sizes.cal fun f fd F => ok_sizes F T).mono (by decide)
  have co : Cal P w K mg base 9 "_law_kinds_of" ["_law_own"] (spOfK C) := (T.d_law_kinds_of.cal fun f fd F => ok_ofK F T TC).mono (by decide)
  have cn : Cal P w K mg base 9 "_law_near" ["_law_dice_here", "_law_own", "_law_way"] (spNear K) := (T.d_law_near.cal fun f fd F => ok_near F T).mono (by decide)
  have cf : Cal P w K mg base 9 "_law_way_fits" ["_law_own", "_law_sizes_here", "_law_value"] (spWF K) := (T.d_law_way_fits.cal fun f fd F => ok_wf F T).mono (by decide)
  have rI : CalI P w K mg base R 8 ["self", "kinds"] (spRInit C R) := by
    obtain ⟨f, fd, m, F, b⟩ := TR.made
    exact CalI.mono (j := 4) ⟨f, fd, m, ok_rinit F T TC TR, b⟩ (by decide)
  have rAt : CalM P w K mg base R "kinds_at" 9 ["self", "rank"] (spRAt C R) := (TR.m_kinds_at.cal fun f fd F => ok_rat F T TR).mono (by decide)
  have rWays : CalM P w K mg base R "ways_to" 9 ["self", "name", "rank"] (spRWays C R) := (TR.m_ways_to.cal fun f fd F => ok_rways F T TC TR).mono (by decide)
  have rSome : CalM P w K mg base R "some_way" 9 ["self", "name", "rank", "number"] (spRSome C R) := (TR.m_some_way.cal fun f fd F => ok_rsome F T TC TR).mono (by decide)
  have rIs : CalM P w K mg base R "is_way" 9 ["self", "value"] (spIs K C R) := (TR.m_is_way.cal fun f fd F => ok_is F T TC TR).mono (by decide)
  have rKid : CalMX P w K mg base R "children_of" 9 ["self", "way"] (spKid K C R Co) := (TR.m_children_of.calX fun f fd F => ok_kid F T TC TR XO XC).up (by decide)
  have cw : CalG P w K mg base 9 "_law_way_right" ["_law_own", "_law_ranks", "_law_way"] (spWR C R) := T.d_law_way_right.calG fun f fd F => ok_wr F T TC TR XO XC
  have cc : CalG P w K mg base 9 "_law_no_children" ["_law_ranks", "_law_value"] (spNC K C R) := T.d_law_no_children.calG fun f fd F => ok_nc F T TC TR XO XC te
  refine okG F sc_law_right (fun vs H Q E h => ?_) (fun cdv A outer s H vs Q E hg hr h => ?_)
  · obtain ⟨d, ow, mk, leaf, kvs, M, rfl, _⟩ := h
    rfl
  · obtain ⟨d, ow, mk, leaf, kvs, M, rfl, hd, hO, q⟩ := h
    have hu := hu_of hr
    refine ⟨_, pss_cut (ps_par (i := 2) (j := 3) rfl sc_law_right.nd rfl rfl (by decide) rfl rfl (pa_cons (pe_makeC rI hr (by rfl) TR.gC (pa_cons (pe_cal co hr (by rfl) (pa_cons (pv 1) pa_nil)) pa_nil)) (pa_cons (pe_cal cs hr (by rfl) (pa_cons (pe_cal cb hr (by rfl) (pa_cons (pv 1) pa_nil)) (pa_cons pe_int pa_nil))) pa_nil)) (by kernel_rfl))
      (pss_cut (ps_for PassesOwn.never rfl (pi_range1 (by rfl) T.b_range (pa_cons pe_int pa_nil)) (pg_name (i := 4) sc_law_right.nd rfl (.inl rfl))
        (pss_cut (ps_set (i := 5) sc_law_right.nd rfl (.inl rfl) (pe_cal cr hr (by rfl) (pa_cons (pv 0) (pa_cons (pe_cal cp hr (by rfl) (pa_cons (pv 0) (pa_cons (pe_lst (pa_cons pe_int (pa_cons pe_int (pa_cons pe_int pa_nil)))) pa_nil))) pa_nil))))
        (pss_cut (ps_set (i := 6) sc_law_right.nd rfl (.inl rfl) (pe_methC (pl := _) (pv 2) TR.cl rAt hr (pa_cons (pv 5) pa_nil)))
        (pss_one (ps_if (pt_cmpR (op_neD hr.units) (pv 6) (pe_tup pa_nil) (by rfl))
          (pss_cut (ps_set (i := 7) sc_law_right.nd rfl (.inl rfl) (pe_cal cp hr (by rfl) (pa_cons (pv 0) (pa_cons (pv 6) pa_nil))))
          (pss_cut (ps_set (i := 8) sc_law_right.nd rfl (.inl rfl) (pe_methC (pl := _) (pv 2) TR.cl rSome hr (pa_cons (pv 7) (pa_cons (pv 5) (pa_cons (pe_cal cr hr (by rfl) (pa_cons (pv 0) (pa_cons (pe_methC (pl := _) (pv 2) TR.cl rWays hr (pa_cons (pv 7) (pa_cons (pv 5) pa_nil))) pa_nil))) pa_nil)))))
          (pss_cut (ps_if (pt_not (pt_val (pe_calG cw hg hr (by rfl) (pa_cons (pv 1) (pa_cons (pv 2) (pa_cons (pv 8) pa_nil)))))) (pss_one (ps_ret pe_bl)) pss_nil)
          (pss_one (ps_for PassesOwn.never rfl (pi_range1 (by rfl) T.b_range (pa_cons pe_int pa_nil)) (pg_name (i := 9) sc_law_right.nd rfl (.inl rfl))
            (pss_cut (ps_set (i := 10) sc_law_right.nd rfl (.inl rfl) (pe_cal cn hr (by rfl) (pa_cons (pv 0) (pa_cons (pv 1) (pa_cons (pv 8) pa_nil)))))
            (pss_cut (ps_set (i := 11) sc_law_right.nd rfl (.inl rfl) (pe_cal cf hr (by rfl) (pa_cons (pv 1) (pa_cons (pv 3) (pa_cons (pv 10) pa_nil)))))
            (pss_one (ps_if (PW.pt (pw_or (pt_cmpR op_ne (pe_callB (call_reprD hg hr.units) (by rfl) T.b_repr (by decide +kernel) (pa_cons (pe_methC (pl := _) (pv 2) TR.cl rIs hr (pa_cons (pv 10) pa_nil)) pa_nil))
                  (pe_callB (call_reprD hg hr.units) (by rfl) T.b_repr (by decide +kernel) (pa_cons (pv 11) pa_nil)) (nomark _))
                (pw_or1 (pt_cmpR op_eq (pv 11) (pe_calG cc hg hr (by rfl) (pa_cons (pv 2) (pa_cons (pv 10) pa_nil))) (nomark _))))) (pss_one (ps_ret pe_bl)) pss_nil))))))))) pss_nil)))))
      (pss_cut (ps_set (i := 12) sc_law_right.nd rfl (.inl rfl) (pe_cal cp hr (by rfl) (pa_cons (pv 0) (pa_cons (pe_lst (pa_cons (pe_tup pa_nil) (pa_cons pe_non (pa_cons (pe_ix ix_list (pv 1) pe_int (fun _ _ => rfl)) (pa_cons (pe_lst (pa_cons (pe_ix ix_list (pv 1) pe_int (fun _ _ => rfl)) pa_nil))
          (pa_cons pe_dnewK (pa_cons pe_int (pa_cons (pe_tup (pa_cons (pe_tup (pa_cons (pe_ix ix_list (pv 1) pe_int (fun _ _ => rfl)) pa_nil)) pa_nil)) (pa_cons (pv 2) pa_nil))))))))) pa_nil))))
      (pss_one (ps_ret (pe_and (pe_cmpR op_isBl (pe_methC (pl := _) (pv 2) TR.cl rIs hr (pa_cons (pv 12) pa_nil)) pe_bl (nomark _)) (pe_and (pe_calG cc hg hr (by rfl) (pa_cons (pv 2) (pa_cons (pv 12) pa_nil)))
          (pe_one (pe_cmpR (op_eqD hr.units) (pe_methX (pl := _) (E := fun _ => E0) (pv 2) TR.cl rKid hg hr (fun σ => neverAt σ) (pa_cons (pe_tup (pa_cons (pe_ix ix_list (pv 1) pe_int (fun _ _ => rfl)) pa_nil)) pa_nil)) (pe_tup pa_nil) (by rfl))))))))), ?_⟩
    have big : 100000 ≤ sizeLine := by decide
    have hV := hO.v
    have ned : ∀ {G : Hp} {a : Addr} {xs : List V}, DiceAt G d → G a = some (.tup xs) → a ≠ d := fun h e c => by
      obtain ⟨_, _, _, e2⟩ := h
      rw [c, e2] at e
      cases e
    -- ranks and sizes
    refine ⟨fun σ' G => ∃ (x kx md sz : Addr) (M1 : Mak) (ns : List Str) (L t : Nat) (ss : List Addr), σ' = [some (.ref d), some (.ref ow), some (.ref x), some (.ref sz), none, none, none, none, none, none, none, none, none] ∧ RS C R H d ow mk x kx md leaf kvs M M1 ns L t G ∧ SZ G sz ss leaf M1 ∧ OrdOf M M1 ∧ IsNames leaf (keysOf M) ns ∧ Turn leaf M1 L t, ?_, ?_⟩
    · refine ⟨_, rfl, ow, mk, leaf, kvs, M, rfl, hO, fun kx md M1 ns H1 hK hOr hN s1 => ?_⟩
      have hN1 : IsNames leaf (keysOf M1) ns := ⟨hN.srt, hN.nd, fun z => by rw [hN.mem, hOr.keys]⟩
      have f6 : Fin6 leaf M1 ns := ⟨hOr.vld hV, hOr.srt, hN1⟩
      refine fun x dx nx ndx nxx => ?_
      have s2 : Same H1 (upd (upd H1 dx (.own x)) x (.ins R dx [])) := fun b o e => by rw [upd_ne (ne_of_none e nx), upd_ne (ne_of_none e ndx)]; exact e
      refine ⟨x, dx, kx, md, leaf, M1, ns, rfl, upd_same, hK.same s2, f6, fun H2 L t hR hT keep => ⟨rfl, ?_⟩⟩
      have s3 : Same H1 H2 := fun b o e => keep b o (ne_of_none e nx) (s2 _ _ e)
      have s13 : Same H H2 := fun b o e => s3 _ _ (s1 _ _ e)
      have hO2 := hO.same s13
      refine ⟨_, rfl, ow, mk, leaf, rfl, hO2.e, fun pb G3 s4 npb epb => ?_⟩
      have hO3 := hO2.same s4
      refine ⟨pb, mk, leaf, kvs, M, M1, 63, rfl, by decide, epb, hO3.emk, hO3.at', hV, hOr, fun sz ss G4 s5 nsz esz lss hRow => ⟨_, _, rfl, x, kx, md, sz, M1, ns, L, t, ss, rfl, ?_, ⟨esz, lss, hRow⟩, hOr, hN, hT⟩⟩
      have s04 : Same H G4 := fun b o e => s5 _ _ (s4 _ _ (s13 _ _ e))
      obtain ⟨p0, q0, r0, ed⟩ := hd
      exact ⟨hO3.same s5, (hR.same s4).same s5, ⟨p0, q0, r0, s04 _ _ ed⟩, SameX.of s04⟩
    rintro σ' G0 ⟨x, kx, md, sz, M1, ns, L, t, ss, rfl, c0, z0, hOr, hN, hT⟩
    have v1 : Vld leaf M1 := hOr.vld hV
    have hN1 : IsNames leaf (keysOf M1) ns := ⟨hN.srt, hN.nd, fun z => by rw [hN.mem, hOr.keys]⟩
    have f6 : Fin6 leaf M1 ns := ⟨v1, hOr.srt, hN1⟩
    have isI : ∀ {G : Hp}, RanksAt C R G x kx md leaf M1 ns L t → ∃ (dx : Addr) (fs : List (Str × V)), G x = some (.ins R dx fs) ∧ (List.lookup ("is_way" : Str) fs = none ∧ List.lookup ("children_of" : Str) fs = none ∧ List.lookup ("kinds_at" : Str) fs = none ∧ List.lookup ("ways_to" : Str) fs = none ∧ List.lookup ("some_way" : Str) fs = none) := fun h => by
      obtain ⟨dx, _, _, _, _, _, _, hx, _⟩ := h
      refine ⟨dx, _, hx, ?_, ?_, ?_, ?_, ?_⟩ <;> exact rf_no _ _ _ _ _ _ (by decide) (by decide) (by decide) (by decide) (by decide) (by decide)
    -- three times
    refine ⟨fun σ' G => ∃ (y4 y5 y6 y7 y8 y9 y10 y11 : Option V), σ' = [some (.ref d), some (.ref ow), some (.ref x), some (.ref sz), y4, y5, y6, y7, y8, y9, y10, y11, none] ∧ RS C R H d ow mk x kx md leaf kvs M M1 ns L t G ∧ SZ G sz ss leaf M1, ?_, ?_⟩
    · refine ⟨_, rfl, by decide, by decide, ?_⟩
      refine for_range (lo := 0) (fun i σ' G => ∃ (y4 y5 y6 y7 y8 y9 y10 y11 : Option V), σ' = [some (.ref d), some (.ref ow), some (.ref x), some (.ref sz), y4, y5, y6, y7, y8, y9, y10, y11, none] ∧ RS C R H d ow mk x kx md leaf kvs M M1 ns L t G ∧ SZ G sz ss leaf M1) ⟨_, _, _, _, _, _, _, _, rfl, c0, z0⟩ (fun i σ' G hi hI => ?_) (fun σ' G hI => hI)
      obtain ⟨y4, y5, y6, y7, y8, y9, y10, y11, rfl, c1, z1⟩ := hI
      -- a rank
      refine ⟨fun σ' G' => ∃ r : Nat, σ' = [some (.ref d), some (.ref ow), some (.ref x), some (.ref sz), some (.int (0 + (i : Nat))), some (.int (r : Nat)), y6, y7, y8, y9, y10, y11, none] ∧ r ≤ 60 ∧ RS C R H d ow mk x kx md leaf kvs M M1 ns L t G' ∧ SZ G' sz ss leaf M1, ?_, ?_⟩
      · refine ⟨_, rfl, _, rfl, by show 3 ≤ sizeLine; omega, fun pl npl => ?_⟩
        have s2 := same_new (o := .lst [V.int 4, V.int 9, V.int 61]) (Same.refl G) npl
        have epl : (upd G pl (.lst [V.int 4, V.int 9, V.int 61])) pl = some (.lst [V.int 4, V.int 9, V.int 61]) := upd_same
        have npd : pl ≠ d := dice_ne c1.hd npl
        generalize upd G pl (.lst [V.int 4, V.int 9, V.int 61]) = G2 at s2 epl
        have c2 := c1.same s2
        have z2 := z1.same s2
        refine ⟨d, .ref pl, _, rfl, c2.hd, .inl ⟨pl, rfl, npd, .inl (.inl (.inl epl))⟩, by simp, by show 3 ≤ 100000; omega, fun v a b c' hv => ?_⟩
        have sx3 : SameX d G2 (upd G2 d (.lst [.int a, .int b, .int c'])) := fun b o n e => by rw [upd_ne n]; exact e
        have c3 := c2.dice sx3 (dice_new (H := G2) (d := d) a b c')
        have z3 := z2.dice c2.hd sx3
        generalize upd G2 d (.lst [.int a, .int b, .int c']) = G3 at c3 z3
        obtain ⟨tt, rfl, t0, t1⟩ : ∃ tt : Int, v = .int tt ∧ 0 < tt ∧ tt ≤ 61 := by
          rcases List.mem_cons.mp hv with rfl | hv
          · exact ⟨4, rfl, by decide, by decide⟩
          rcases List.mem_cons.mp hv with rfl | hv
          · exact ⟨9, rfl, by decide, by decide⟩
          rw [List.mem_singleton.mp hv]
          exact ⟨61, rfl, by decide, by decide⟩
        refine ⟨d, tt, rfl, c3.hd, t0, ?_, fun u a b c' u0 u1 => ?_⟩
        · obtain ⟨tn, rfl⟩ := Int.eq_ofNat_of_zero_le (Int.le_of_lt t0)
          exact log2_small (by omega)
        obtain ⟨un, rfl⟩ := Int.eq_ofNat_of_zero_le u0
        have sx4 : SameX d G3 (upd G3 d (.lst [.int a, .int b, .int c'])) := fun b o n e => by rw [upd_ne n]; exact e
        exact ⟨un, rfl, by omega, c3.dice sx4 (dice_new (H := G3) (d := d) a b c'), z3.dice c3.hd sx4⟩
      rintro σ' G1 ⟨r, rfl, hr60, c2, z2⟩
      -- the kinds there
      refine ⟨fun σ' G' => ∃ tp : Addr, σ' = [some (.ref d), some (.ref ow), some (.ref x), some (.ref sz), some (.int (0 + (i : Nat))), some (.int (r : Nat)), some (.ref tp), y7, y8, y9, y10, y11, none] ∧ G' = G1 ∧ G1 tp = some (.tup ((setR leaf M1 r).map V.str)), ?_, ?_⟩
      · obtain ⟨dx, fs, hx, _, _, l1, _, _⟩ := isI c2.r
        refine ⟨_, rfl, x, dx, fs, rfl, hx, l1, _, rfl, x, kx, md, leaf, M1, ns, L, t, (r : Nat), rfl, c2.r, hT, by omega, by unfold TEN60; omega, fun p ep => ⟨p, rfl, rfl, ?_⟩⟩
        rw [base_nat hT.lt, set_base hT] at ep
        exact ep
      rintro σ' G' ⟨tp, rfl, eG, etp⟩
      have eG' := eG.symm
      subst eG'
      refine ⟨_, rfl, by show 0 ≤ sizeLine; omega, fun e0 ne0 => ?_⟩
      have s3 := same_new (o := .tup []) (Same.refl G1) ne0
      have okS : SeqAt.shaped (.tuple (tD (setR leaf M1 r))) = true := shaped_textsT fun z hz => pool_ok (set_pool v1 r z hz)
      refine ⟨.tuple (tD (setR leaf M1 r)), .tuple (tD []), .tup (.inl (.inl (s3 _ _ etp))) (dp_texts _), .tup (.inl (.inl upd_same)) (dp_texts []), okS, shaped_textsT (fun z hz => nomatch hz), ?_⟩
      generalize upd G1 e0 (.tup []) = G2 at s3
      have c3 := c2.same s3
      have z3 := z2.same s3
      have etp3 := s3 _ _ etp
      rw [PyData.eqv, eqv_texts]
      refine ⟨_, rfl, ?_⟩
      by_cases hne : setR leaf M1 r = []
      · rw [decide_eq_true hne]
        show (if (!true) = true then _ else _)
        rw [if_neg (by decide)]
        exact ⟨_, _, _, _, _, _, _, _, rfl, c3, z3⟩
      rw [decide_eq_false hne]
      show (if (!false) = true then _ else _)
      rw [if_pos (by decide)]
      obtain ⟨dx0, bl0, pl0, sl0, wl0, es0, ds0, _, _, _, _, _, _, _, _, kvL, N, ws, _, _, hD, _, _, _⟩ := id c3.r
      have nem : Nem N := hD.nem v1
      -- one of them
      refine ⟨fun σ' G' => ∃ z : Str, σ' = [some (.ref d), some (.ref ow), some (.ref x), some (.ref sz), some (.int (0 + (i : Nat))), some (.int (r : Nat)), some (.ref tp), some (.str z), y8, y9, y10, y11, none] ∧ z ∈ setR leaf M1 r ∧ RS C R H d ow mk x kx md leaf kvs M M1 ns L t G' ∧ SZ G' sz ss leaf M1, ?_, ?_⟩
      · refine ⟨_, rfl, _, rfl, d, .ref tp, (setR leaf M1 r).map V.str, rfl, c3.hd, .inl ⟨tp, rfl, ned c3.hd etp3, .inr (.inl (.inl etp3))⟩, fun z => hne (List.map_eq_nil_iff.mp z), ?_, fun v a b c' hv => ?_⟩
        · rw [List.length_map]
          have := v1.few (setR leaf M1 r) (set_nd v1.nd r) (set_sub r)
          omega
        obtain ⟨z, hz, rfl⟩ := List.mem_map.mp hv
        have sx4 : SameX d G2 (upd G2 d (.lst [.int a, .int b, .int c'])) := fun b o n e => by rw [upd_ne n]; exact e
        exact ⟨z, rfl, hz, c3.dice sx4 (dice_new (H := G2) (d := d) a b c'), z3.dice c3.hd sx4⟩
      rintro σ' G3 ⟨z, rfl, hz, c4, z4⟩
      have hzN : z ∈ setR leaf N r := by rw [hD.sets]; exact hz
      have hzn : z ∈ ns := (f6.n.mem z).mpr (set_sub r z hz)
      have cnt : siz leaf N r z ≤ 3 ^ 60 := Nat.le_trans (siz_bound v1 hD r z) (Nat.pow_le_pow_right (by decide) hr60)
      have pos := siz_pos nem r z hzN
      -- a way
      refine ⟨fun σ' G' => ∃ (wy : Addr) (ys : List Str), σ' = [some (.ref d), some (.ref ow), some (.ref x), some (.ref sz), some (.int (0 + (i : Nat))), some (.int (r : Nat)), some (.ref tp), some (.str z), some (.ref wy), y9, y10, y11, none] ∧ RS C R H d ow mk x kx md leaf kvs M M1 ns L t G' ∧ SZ G' sz ss leaf M1 ∧ G' wy = some (.tup (ys.map V.str)) ∧ IsW leaf M1 r z ys, ?_, ?_⟩
      · obtain ⟨dx, fs, hx, _, _, _, l1, l2⟩ := isI c4.r
        refine ⟨_, rfl, x, dx, fs, rfl, hx, l2, _, rfl, _, rfl, _, rfl, _, rfl, x, dx, fs, rfl, hx, l1, _, rfl, _, rfl, x, kx, md, leaf, M1, ns, L, t, N, z, r, rfl, c4.r, f6, hD, hzn, by omega, ?_⟩
        refine ⟨d, _, rfl, c4.hd, by omega, ?_, fun u a b c' u0 u1 => ?_⟩
        · have h1 : (((siz leaf N r z : Nat) : Int)).natAbs < 2 ^ 640 := by
            rw [Int.natAbs_natCast]
            exact Nat.lt_of_le_of_lt cnt (by decide +kernel)
          exact Nat.lt_of_lt_of_le (PySem.Flt.log2_lt_of (by decide) h1) (by decide)
        obtain ⟨un, rfl⟩ := Int.eq_ofNat_of_zero_le u0
        have sx5 : SameX d G3 (upd G3 d (.lst [.int a, .int b, .int c'])) := fun b o n e => by rw [upd_ne n]; exact e
        have c5 := c4.dice sx5 (dice_new (H := G3) (d := d) a b c')
        have z5 := z4.dice c4.hd sx5
        have hn : un < siz leaf N r z := by omega
        have cnt2 : siz leaf N r z ≤ 42391158275216203514294433201 := Nat.le_trans cnt (by decide +kernel)
        refine ⟨x, kx, md, leaf, M1, ns, L, t, N, z, r, un, rfl, c5.r, f6, hD, hzn, by omega, hn, by unfold TEN60; omega, fun wy G6 s6 ewy => ?_⟩
        exact ⟨wy, _, rfl, c5.same s6, z5.same s6, ewy, wayF_isW v1 hD hn⟩
      rintro σ' G4 ⟨wy, ys, rfl, c5, z5, ewy, hW⟩
      have hY : ∀ y ∈ ys, PyData.strOk y = true := fun y hy => by
        obtain ⟨j, hj⟩ := List.getElem?_of_mem hy
        have hjl := (List.getElem?_eq_some_iff.mp hj).1
        rw [hW.len] at hjl
        exact pool_ok (set_pool v1 j y (hW.there v1 hz (r - j) j y (by omega) hj))
      -- it is right
      refine ⟨fun σ' G' => σ' = [some (.ref d), some (.ref ow), some (.ref x), some (.ref sz), some (.int (0 + (i : Nat))), some (.int (r : Nat)), some (.ref tp), some (.str z), some (.ref wy), y9, y10, y11, none] ∧ Same G4 G', ?_, ?_⟩
      · refine ⟨_, rfl, _, rfl, _, rfl, ow, mk, x, kx, md, wy, leaf, z, kvs, M, M1, ns, L, t, r, ys, rfl, by omega, c5.o, hOr, c5.r, f6, hT, ewy, hW, hz, fun G5 s5 => ⟨true, rfl, ?_⟩⟩
        show (if (!true) = true then _ else _)
        rw [if_neg (by decide)]
        exact ⟨rfl, s5⟩
      rintro σ' G5 ⟨rfl, s45⟩
      have c6 := c5.same s45
      have z6 := z5.same s45
      have ewy5 := s45 _ _ ewy
      -- four near ones
      refine ⟨_, rfl, by decide, by decide, ?_⟩
      refine for_range (lo := 0) (fun k σ' G => ∃ (y9 y10 y11 : Option V), σ' = [some (.ref d), some (.ref ow), some (.ref x), some (.ref sz), some (.int (0 + (i : Nat))), some (.int (r : Nat)), some (.ref tp), some (.str z), some (.ref wy), y9, y10, y11, none] ∧ RS C R H d ow mk x kx md leaf kvs M M1 ns L t G ∧ SZ G sz ss leaf M1 ∧ G wy = some (.tup (ys.map V.str)))
        ⟨_, _, _, rfl, c6, z6, ewy5⟩ (fun k σ' G hk hI => ?_) (fun σ' G hI => ?_)
      · obtain ⟨y9', y10', y11', rfl, c7, z7, ewy7⟩ := hI
        refine ⟨fun σ' G' => ∃ val : V, σ' = [some (.ref d), some (.ref ow), some (.ref x), some (.ref sz), some (.int (0 + (i : Nat))), some (.int (r : Nat)), some (.ref tp), some (.str z), some (.ref wy), some (.int (0 + (k : Nat))), some val, y11', none] ∧ RS C R H d ow mk x kx md leaf kvs M M1 ns L t G' ∧ SZ G' sz ss leaf M1 ∧ G' wy = some (.tup (ys.map V.str)) ∧ ValOk K G' val, ?_, ?_⟩
        · refine ⟨_, rfl, _, rfl, _, rfl, d, ow, mk, wy, leaf, kvs, M, ys, rfl, c7.hd, c7.o, ewy7, fun e => ?_, by rw [hW.len]; omega, hY, fun val G8 sx8 hd8 hv => ?_⟩
          · have := hW.len
            rw [e] at this
            cases this
          · exact ⟨val, rfl, c7.dice sx8 hd8, z7.dice c7.hd sx8, sx8 _ _ (ned c7.hd ewy7) ewy7, hv⟩
        rintro σ' G8 ⟨val, rfl, c8, z8, ewy8, hval⟩
        -- does it fit?
        refine ⟨fun σ' G' => ∃ b : Bool, σ' = [some (.ref d), some (.ref ow), some (.ref x), some (.ref sz), some (.int (0 + (i : Nat))), some (.int (r : Nat)), some (.ref tp), some (.str z), some (.ref wy), some (.int (0 + (k : Nat))), some val, some (.bl b), none] ∧ Same G8 G' ∧ ((b = false ∧ NoTup K G' val) ∨ ∃ (w2 : Addr) (us : List V) (ds : List PyData), val = .ref w2 ∧ G' w2 = some (.tup us) ∧ DpAll K G' us ds ∧ Itm2 ds ∧ us.length ≤ 64 ∧ (b = true ↔ Fits leaf M1 ds)), ?_, ?_⟩
        · refine ⟨_, rfl, _, rfl, _, rfl, ow, mk, sz, val, leaf, kvs, M, M1, ss, rfl, c8.o, hOr, z8.e, z8.l, z8.r, ?_⟩
          rcases hval with hno | ⟨w2, us, ds, rfl, e2, dp2, it2, l2⟩
          · exact .inl ⟨hno, false, rfl, Same.refl G8, .inl ⟨rfl, hno⟩⟩
          · exact .inr ⟨w2, us, ds, rfl, e2, dp2, it2, l2, fun b G' hb s => ⟨b, rfl, s, .inr ⟨w2, us, ds, rfl, s _ _ e2, dpAll_same s _ _ dp2, it2, l2, hb⟩⟩⟩
        rintro σ' G9 ⟨b, rfl, s9, hb⟩
        have c9 := c8.same s9
        have z9 := z8.same s9
        have ewy9 := s9 _ _ ewy8
        obtain ⟨dx, fs, hx, l1, l2, _, _, _⟩ := isI c9.r
        have shB : ∀ b : Bool, (PyData.bool b).shown.length ≤ sizeLine := fun b => by cases b <;> decide +kernel
        rcases hb with ⟨rfl, hno⟩ | ⟨w2, us, ds, rfl, e2, dp2, it2, l3, hb⟩
        · refine ⟨_, rfl, x, dx, fs, rfl, hx, l1, _, rfl, x, kx, md, leaf, M1, ns, L, t, val, rfl, c9.r, f6, hT, .inl ⟨hno, ?_⟩⟩
          refine ⟨_, .bool false, rfl, .bl false, rfl, rfl, Nat.zero_le _, shB false, ?_⟩
          refine ⟨_, rfl, _, .bool false, rfl, .bl false, rfl, rfl, Nat.zero_le _, shB false, ?_⟩
          generalize (PyData.bool false).shown = zz
          refine ⟨rfl, _, rfl, ?_⟩
          rw [decide_eq_true (rfl : V.str zz = V.str zz)]
          show (if (!true) = true then _ else _)
          rw [if_neg (by decide)]
          refine ⟨_, rfl, _, rfl, _, rfl, x, kx, md, leaf, M1, ns, L, t, val, rfl, c9.r, f6, hT, .inl ⟨hno, ?_⟩⟩
          refine ⟨rfl, _, rfl, ?_⟩
          rw [decide_eq_false (show ¬ V.bl false = V.bl true from fun e => by cases e)]
          show (if false = true then _ else _)
          rw [if_neg (by decide)]
          exact ⟨_, _, _, rfl, c9, z9, ewy9⟩
        · refine ⟨_, rfl, x, dx, fs, rfl, hx, l1, _, rfl, x, kx, md, leaf, M1, ns, L, t, .ref w2, rfl, c9.r, f6, hT, .inr ⟨w2, us, ds, rfl, e2, dp2, it2.itm, by omega, fun b2 G10 hb2 s10 => ?_⟩⟩
          have eb : b2 = b := by
            rw [Bool.eq_iff_iff, hb2, hb]
          subst eb
          refine ⟨_, .bool b2, rfl, .bl b2, rfl, rfl, Nat.zero_le _, shB b2, ?_⟩
          refine ⟨_, rfl, _, .bool b2, rfl, .bl b2, rfl, rfl, Nat.zero_le _, shB b2, ?_⟩
          generalize (PyData.bool b2).shown = zz
          refine ⟨rfl, _, rfl, ?_⟩
          rw [decide_eq_true (rfl : V.str zz = V.str zz)]
          show (if (!true) = true then _ else _)
          rw [if_neg (by decide)]
          have c10 := c9.same s10
          refine ⟨_, rfl, _, rfl, _, rfl, x, kx, md, leaf, M1, ns, L, t, .ref w2, rfl, c10.r, f6, hT, .inr ⟨w2, us, ds, rfl, s10 _ _ e2, dpAll_same s10 _ _ dp2, it2.itm, by omega, fun b3 G11 hb3 s11 => ?_⟩⟩
          have nb : ¬ V.bl b2 = V.bl b3 := fun e => by
            have e' : b2 = b3 := V.bl.inj e
            subst e'
            by_cases cF : Fits leaf M1 ds
            · exact absurd (hb2.mpr cF) (fun h => hb3.mp h cF)
            · exact cF (hb2.mp (hb3.mpr cF))
          refine ⟨rfl, _, rfl, ?_⟩
          rw [decide_eq_false nb]
          show (if false = true then _ else _)
          rw [if_neg (by decide)]
          exact ⟨_, _, _, rfl, c10.same s11, (z9.same s10).same s11, s11 _ _ (s10 _ _ ewy9)⟩
      · obtain ⟨y9', y10', y11', rfl, c7, z7, _⟩ := hI
        exact ⟨_, _, _, _, _, _, _, _, rfl, c7, z7⟩
    rintro σ' G1 ⟨y4, y5, y6, y7, y8, y9, y10, y11, rfl, c1, z1⟩
    -- an odd value
    refine ⟨fun σ' G => ∃ v : V, σ' = [some (.ref d), some (.ref ow), some (.ref x), some (.ref sz), y4, y5, y6, y7, y8, y9, y10, y11, some v] ∧ RS C R H d ow mk x kx md leaf kvs M M1 ns L t G ∧ NotW K G leaf M1 v, ?_, ?_⟩
    · have o1 := c1.o
      refine ⟨_, rfl, by show 0 ≤ sizeLine; omega, fun p1 n1 => ?_⟩
      have t1 := same_new (o := .tup []) (Same.refl G1) n1
      refine ⟨_, rfl, ow, _, _, _, rfl, rfl, .inl (.inl (t1 _ _ o1.e)), two0, _, rfl, ow, _, _, _, rfl, rfl, .inl (.inl (t1 _ _ o1.e)), two0, by show 1 ≤ sizeLine; omega, fun p2 n2 => ?_⟩
      have e1 : (upd G1 p1 (.tup [])) p1 = some (.tup []) := upd_same
      generalize upd G1 p1 (.tup []) = G2 at t1 n2 e1
      have t2 := same_new (o := .lst [V.str leaf]) (Same.refl G2) n2
      have e2 : (upd G2 p2 (.lst [V.str leaf])) p2 = some (.lst [V.str leaf]) := upd_same
      generalize upd G2 p2 (.lst [V.str leaf]) = G3 at t2 e2
      refine fun p3 n3 => ?_
      have t3 := same_new (o := .dK []) (Same.refl G3) n3
      have e3 : (upd G3 p3 (.dK [])) p3 = some (.dK []) := upd_same
      generalize upd G3 p3 (.dK []) = G4 at t3 e3
      have o4 := ((o1.same t1).same t2).same t3
      refine ⟨_, rfl, ow, _, _, _, rfl, rfl, .inl (.inl o4.e), two0, by show 1 ≤ sizeLine; omega, fun p4 n4 => ⟨by show 1 ≤ sizeLine; omega, fun p5 n5 => ?_⟩⟩
      have t4 := same_new (o := .tup [V.str leaf]) (Same.refl G4) n4
      have e4 : (upd G4 p4 (.tup [V.str leaf])) p4 = some (.tup [V.str leaf]) := upd_same
      generalize upd G4 p4 (.tup [V.str leaf]) = G5 at t4 e4 n5
      have t5 := same_new (o := .tup [V.ref p4]) (Same.refl G5) n5
      have e5 : (upd G5 p5 (.tup [V.ref p4])) p5 = some (.tup [V.ref p4]) := upd_same
      generalize upd G5 p5 (.tup [V.ref p4]) = G6 at t5 e5
      refine ⟨_, rfl, by show 8 ≤ sizeLine; omega, fun pl npl => ?_⟩
      have t6 := same_new (o := .lst [V.ref p1, V.non, V.str leaf, V.ref p2, V.ref p3, V.int 0, V.ref p5, V.ref x]) (Same.refl G6) npl
      have epl : (upd G6 pl (.lst [V.ref p1, V.non, V.str leaf, V.ref p2, V.ref p3, V.int 0, V.ref p5, V.ref x])) pl = some (.lst [V.ref p1, V.non, V.str leaf, V.ref p2, V.ref p3, V.int 0, V.ref p5, V.ref x]) := upd_same
      have t16 : Same G1 G6 := fun b o e => t5 _ _ (t4 _ _ (t3 _ _ (t2 _ _ (t1 _ _ e))))
      have npd : pl ≠ d := dice_ne (c1.same t16).hd npl
      generalize upd G6 pl (.lst [V.ref p1, V.non, V.str leaf, V.ref p2, V.ref p3, V.int 0, V.ref p5, V.ref x]) = G7 at t6 epl
      have c7 := (c1.same t16).same t6
      have f1 := t6 _ _ (t5 _ _ (t4 _ _ (t3 _ _ (t2 _ _ e1))))
      have f2 := t6 _ _ (t5 _ _ (t4 _ _ (t3 _ _ e2)))
      have f3 := t6 _ _ (t5 _ _ (t4 _ _ e3))
      have f4 := t6 _ _ (t5 _ _ e4)
      have f5 := t6 _ _ e5
      refine ⟨d, .ref pl, _, rfl, c7.hd, .inl ⟨pl, rfl, npd, .inl (.inl (.inl epl))⟩, by simp, by show 8 ≤ 100000; omega, fun v a b c' hv => ?_⟩
      have sx8 : SameX d G7 (upd G7 d (.lst [.int a, .int b, .int c'])) := fun b o n e => by rw [upd_ne n]; exact e
      have c8 := c7.dice sx8 (dice_new (H := G7) (d := d) a b c')
      have g1 := sx8 _ _ (ned c7.hd f1) f1
      have g4 := sx8 _ _ (ned c7.hd f4) f4
      have g5 := sx8 _ _ (ned c7.hd f5) f5
      have n2d : p2 ≠ d := fun z => by
        obtain ⟨_, _, _, e⟩ := c7.hd
        rw [z, e] at f2
        cases f2
      have n3d : p3 ≠ d := fun z => by
        obtain ⟨_, _, _, e⟩ := c7.hd
        rw [z, e] at f3
        cases f3
      have g2 := sx8 _ _ n2d f2
      have g3 := sx8 _ _ n3d f3
      generalize upd G7 d (.lst [.int a, .int b, .int c']) = G8 at c8 g1 g2 g3 g4 g5
      have fin : NotW K G8 leaf M1 v → _ := fun h => (⟨v, rfl, c8, h⟩ : ∃ v' : V, [some (.ref d), some (.ref ow), some (.ref x), some (.ref sz), y4, y5, y6, y7, y8, y9, y10, y11, some v] = [some (.ref d), some (.ref ow), some (.ref x), some (.ref sz), y4, y5, y6, y7, y8, y9, y10, y11, some v'] ∧ RS C R H d ow mk x kx md leaf kvs M M1 ns L t G8 ∧ NotW K G8 leaf M1 v')
      refine fin ?_
      rcases List.mem_cons.mp hv with rfl | hv
      · exact .inr ⟨p1, [], [], rfl, g1, .nil, nofun, Nat.zero_le _, fun h => by have := fits_first h; cases this⟩
      rcases List.mem_cons.mp hv with rfl | hv
      · exact .inl ⟨_, .base .non, kit_ty (by decide +kernel)⟩
      rcases List.mem_cons.mp hv with rfl | hv
      · exact .inl ⟨_, .base (.str leaf), kit_ty (by decide +kernel)⟩
      rcases List.mem_cons.mp hv with rfl | hv
      · exact .inl ⟨_, .base (.lst g2), kit_ty (by decide +kernel)⟩
      rcases List.mem_cons.mp hv with rfl | hv
      · exact .inl ⟨_, .base (.dK g3), kit_ty (by decide +kernel)⟩
      rcases List.mem_cons.mp hv with rfl | hv
      · exact .inl ⟨_, .base (.int 0), kit_ty (by decide +kernel)⟩
      rcases List.mem_cons.mp hv with rfl | hv
      · refine .inr ⟨p5, [.ref p4], [.tuple (tD [leaf])], rfl, g5, .cons (.tup (.inl (.inl g4)) (dp_texts [leaf])) .nil, fun d hd => ?_, by show 1 ≤ 403; omega, fun h => ?_⟩
        · rw [List.mem_singleton.mp hd]
          refine ⟨canLay_texts _ fun y hy => by rw [List.mem_singleton.mp hy]; exact pool_ok v1.lf, ?_⟩
          rw [PyData.depth]
          have := depth_texts [leaf]
          omega
        · have h1 := fits_first h
          cases Option.some.inj h1
      rw [List.mem_singleton.mp hv]
      obtain ⟨dx, fs, hx, _⟩ := isI c8.r
      exact .inl ⟨_, .base (.ins hx TR.cl TR.ca TR.cg TR.ct TR.ob), TR.kitR⟩
    rintro σ' G2 ⟨v, rfl, c2, hv⟩
    obtain ⟨dx, fs, hx, l1, l2, _, _, _⟩ := isI c2.r
    -- the end: the leaf alone has no children
    have fitL : Fits leaf M1 (tD [leaf]) := ⟨[leaf], 0, leaf, rfl, ⟨rfl, rfl, rfl, fun j y u _ h => by cases j <;> cases h⟩, mem_zero.mpr rfl⟩
    have itmL : Itm (tD [leaf]) := fun d hd => by
      rw [List.mem_singleton.mp hd]
      exact ⟨pool_ok v1.lf, Nat.zero_le _⟩
    rcases hv with hno | ⟨w2, us, ds, rfl, e2, dp2, it2, l3, nF⟩
    · refine ⟨_, rfl, x, dx, fs, rfl, hx, l1, _, rfl, x, kx, md, leaf, M1, ns, L, t, v, rfl, c2.r, f6, hT, .inl ⟨hno, ?_⟩⟩
      refine ⟨false, false, rfl, rfl, ?_⟩
      refine ⟨_, rfl, ?_⟩
      rw [decide_eq_true (rfl : false = false), if_pos rfl]
      refine ⟨_, rfl, _, rfl, x, kx, md, leaf, M1, ns, L, t, v, rfl, c2.r, f6, hT, .inl ⟨hno, ?_⟩⟩
      refine ⟨true, rfl, ?_⟩
      rw [if_pos rfl]
      obtain ⟨dx3, fs3, hx3, _, m2, _, _, _⟩ := isI c2.r
      refine ⟨_, rfl, x, dx3, fs3, rfl, hx3, m2, _, rfl, ow, _, _, _, rfl, rfl, .inl (.inl c2.o.e), two0, by show 1 ≤ sizeLine; omega, fun tl ntl => ?_⟩
      have u1 := same_new (o := .tup [V.str leaf]) (Same.refl _) ntl
      have cT := c2.same u1
      refine ⟨x, kx, md, leaf, M1, ns, L, t, .ref tl, rfl, cT.r, f6, hT, .inr ⟨tl, _, tD [leaf], rfl, upd_same, dp_texts [leaf], itmL, by show 1 ≤ 403; omega, fun hn => absurd fitL hn, fun ys r z e hW hz p LL G s ep hT2 hM => ?_⟩⟩
      rw [← tD_inj e] at hM
      have eLL : LL = [] := List.map_eq_nil_iff.mp hM
      rw [eLL] at ep
      refine ⟨by show 0 ≤ sizeLine; omega, fun e0 ne0 => ?_⟩
      have u2 := same_new (o := .tup []) (Same.refl G) ne0
      refine ⟨.tuple (tD []), .tuple (tD []), .tup (.inl (.inl (u2 _ _ ep))) (dp_texts []), .tup (.inl (.inl upd_same)) (dp_texts []), shaped_textsT (fun z hz => nomatch hz), shaped_textsT (fun z hz => nomatch hz), ?_⟩
      rw [PyData.eqv, eqv_texts, decide_eq_true rfl]
      have cE := (cT.same s).same u2
      exact q _ cE.sx cE.hd
    · refine ⟨_, rfl, x, dx, fs, rfl, hx, l1, _, rfl, x, kx, md, leaf, M1, ns, L, t, .ref w2, rfl, c2.r, f6, hT, .inr ⟨w2, us, ds, rfl, e2, dp2, it2, l3, fun b G3 hb s3 => ?_⟩⟩
      have eb : b = false := by
        cases b with
        | false => rfl
        | true => exact absurd (hb.mp rfl) nF
      subst eb
      have c3 := c2.same s3
      refine ⟨false, false, rfl, rfl, ?_⟩
      refine ⟨_, rfl, ?_⟩
      rw [decide_eq_true (rfl : false = false), if_pos rfl]
      refine ⟨_, rfl, _, rfl, x, kx, md, leaf, M1, ns, L, t, .ref w2, rfl, c3.r, f6, hT, .inr ⟨w2, us, ds, rfl, s3 _ _ e2, dpAll_same s3 _ _ dp2, it2, l3, fun b2 G4 hb2 s4 => ?_⟩⟩
      rw [hb2.mpr nF]
      have c4 := c3.same s4
      refine ⟨true, rfl, ?_⟩
      rw [if_pos rfl]
      obtain ⟨dx3, fs3, hx3, _, m2, _, _, _⟩ := isI c4.r
      refine ⟨_, rfl, x, dx3, fs3, rfl, hx3, m2, _, rfl, ow, _, _, _, rfl, rfl, .inl (.inl c4.o.e), two0, by show 1 ≤ sizeLine; omega, fun tl ntl => ?_⟩
      have u1 := same_new (o := .tup [V.str leaf]) (Same.refl _) ntl
      have cT := c4.same u1
      refine ⟨x, kx, md, leaf, M1, ns, L, t, .ref tl, rfl, cT.r, f6, hT, .inr ⟨tl, _, tD [leaf], rfl, upd_same, dp_texts [leaf], itmL, by show 1 ≤ 403; omega, fun hn => absurd fitL hn, fun ys r z e hW hz p LL G s ep hT2 hM => ?_⟩⟩
      rw [← tD_inj e] at hM
      have eLL : LL = [] := List.map_eq_nil_iff.mp hM
      rw [eLL] at ep
      refine ⟨by show 0 ≤ sizeLine; omega, fun e0 ne0 => ?_⟩
      have u2 := same_new (o := .tup []) (Same.refl G) ne0
      refine ⟨.tuple (tD []), .tuple (tD []), .tup (.inl (.inl (u2 _ _ ep))) (dp_texts []), .tup (.inl (.inl upd_same)) (dp_texts []), shaped_textsT (fun z hz => nomatch hz), shaped_textsT (fun z hz => nomatch hz), ?_⟩
      rw [PyData.eqv, eqv_texts, decide_eq_true rfl]
      have cE := (cT.same s).same u2
      exact q _ cE.sx cE.hd
end
end Kl

set_option maxRecDepth 100000
set_option maxHeartbeats 4000000
namespace Kl
open PySem PySem.Spec PyProof.Rows L2 Gx Mx
section
variable {P : Program} {w : World} {K : PySem.W.Frag} {mg : Str → Option Value} {base : Heap}
/-! ### the law -/
theorem sqL_samex {d a : Addr} {H H' : Hp} {xs : List V} (n : H d = none) (s : SameX d H H') (h : SqL K H a xs) : SqL K H' a xs := by
  rcases h with (h | ⟨o, h⟩) | h
  · exact .inl (.inl (s _ _ (ne_of_none h n) h))
  · exact .inl (.inr ⟨o, s _ _ (ne_of_none h n) h⟩)
  · exact .inr h
def spLaw (K : PySem.W.Frag) : Sp := fun vs H Q _ => ∃ (a : Addr) (ns : List Int), vs = [.ref a] ∧ SqL K H a (ns.map V.int) ∧ ns.length ≤ 63 ∧ ∀ H', Q (.bl true) H'
theorem ok_law {f : Addr} {fd : FuncData} (F : Fun K "law" "law" s_law f fd) (T : Top K mg) : FnG P w K mg base CX0 11 f fd ["_law_script"] (spLaw K) := by
  have cd : Cal P w K mg base 10 "_law_dice" ["_law_script", "_law_spot"] (spDice K) := (T.d_law_dice.cal fun f fd F => ok_dice F T).mono (by decide)
  have ck : Cal P w K mg base 10 "_law_drawn_kinds" ["_law_dice_here", "_law_most"] spDraw := (T.d_law_drawn_kinds.cal fun f fd F => ok_draw F T).mono (by decide)
  have ct : CalG P w K mg base 10 "_law_right" ["_law_dice_here", "_law_own"] spRT := T.d_law_right.calG fun f fd F => ok_rt F T
  refine okG F sc_law (fun vs H Q E h => ?_) (fun cdv A outer s H vs Q E hg hr h => ?_)
  · obtain ⟨a, ns, rfl, _⟩ := h
    rfl
  · obtain ⟨a, ns, rfl, hS, hlen, q⟩ := h
    refine ⟨_, pss_cut (ps_for PassesOwn.never rfl (pi_range1 (by rfl) T.b_range (pa_cons (pe_callB (call_max2 rfl) (by rfl) T.b_max (by decide +kernel) (pa_cons pe_int (pa_cons
          (pe_callB (call_min2 rfl) (by rfl) T.b_min (by decide +kernel) (pa_cons pe_int (pa_cons (pe_callB call_len_seq (by rfl) T.b_len PySem.boot_len (pa_cons (pv 0) pa_nil)) pa_nil))) pa_nil))) pa_nil))
          (pg_name (i := 1) sc_law.nd rfl (.inl rfl))
        (pss_cut (ps_set (i := 2) sc_law.nd rfl (.inl rfl) (pe_cal cd hr (by rfl) (pa_cons (pv 0) (pa_cons (pv 1) pa_nil))))
        (pss_one (ps_if (pt_not (pt_val (pe_calG ct hg hr (by rfl) (pa_cons (pv 2) (pa_cons (pe_cal ck hr (by rfl) (pa_cons (pv 2) (pa_cons pe_int pa_nil))) pa_nil))))) (pss_one (ps_ret pe_bl)) pss_nil))))
      (pss_one (ps_ret pe_bl)), ?_⟩
    have big : 100000 ≤ sizeLine := by decide
    refine ⟨fun σ' G => ∃ (y1 y2 : Option V), σ' = [some (.ref a), y1, y2] ∧ SqL K G a (ns.map V.int), ?_, ?_⟩
    · refine ⟨_, rfl, a, _, rfl, .inl hS, _, _, rfl, _, _, rfl, _, rfl, ?_, ?_, ?_⟩
      · split <;> split <;> omega
      · split <;> split <;> omega
      refine for_range (lo := 0) (fun i σ' G => ∃ (y1 y2 : Option V), σ' = [some (.ref a), y1, y2] ∧ SqL K G a (ns.map V.int)) ⟨_, _, rfl, hS⟩ (fun i σ' G hi hP => ?_) (fun σ' G hP => hP)
      obtain ⟨y1, y2, rfl, hSG⟩ := hP
      refine ⟨fun σ' G' => ∃ d : Addr, σ' = [some (.ref a), some (.int (i : Nat)), some (.ref d)] ∧ DiceAt G' d ∧ G d = none ∧ SameX d G G', ?_, ?_⟩
      · refine ⟨_, rfl, _, rfl, a, ns, i, ?_, hSG, hlen, ?_, fun d x0 b0 nd => ⟨d, ?_, ⟨x0, b0, 0, upd_same⟩, nd, fun b o n e => by rw [upd_ne n]; exact e⟩⟩
        · show [V.ref a, V.int (0 + (i : Int))] = _
          rw [Int.zero_add]
        · have : i < 4 := by
            revert hi
            split <;> split <;> omega
          omega
        · show _ = _
          rw [show (0 : Int) + (i : Int) = (i : Int) from Int.zero_add _]
          rfl
      rintro σ' G' ⟨d, rfl, hd, nd, sx⟩
      refine ⟨_, rfl, _, rfl, d, rfl, hd, fun ow mk leaf kvs M G2 hO sx2 hd2 => ?_⟩
      refine ⟨d, ow, mk, leaf, kvs, M, rfl, hd2, hO, fun G3 sx3 hd3 => ⟨_, rfl, ?_⟩⟩
      show (if (!true) = true then _ else _)
      rw [if_neg (by decide)]
      exact ⟨_, _, rfl, sqL_samex nd ((sx.trans sx2).trans sx3) hSG⟩
    rintro σ' G1 ⟨y1, y2, rfl, hS1⟩
    exact q G1
end
end Kl

set_option maxRecDepth 100000
set_option maxHeartbeats 4000000
namespace Kl
open PySem PySem.Spec PyProof.Rows L2 Gx
/-! ### the end -/
/-! ### the end -/
theorem all_mk {l : PySem.W.OpenLaw} {w : World} {K : PySem.W.Frag} {h : Heap} {mg : Str → Option Value} {fa : Addr} (X : K.In h) (G : h.Ns mainGlobals mg) (hfa : mg "law" = some (.ref fa))
    {Cy0 : Addr} {nmy0 qny0 : Str} {Ny0 : Addr} {bsy0 bmy0 : List Value} {hdy0 : Bool} {sny0 : List Str} {suby0 : List Value} {aby0 : Bool} {coly0 : Option Bool} {ddy0 : Option Addr} {k0y0 k1y0 k2y0 k3y0 k5y0 : Option Value}
    {f0 : Addr} {od0 an0 : Option Addr} {sl0 : Array (Option Value)} {oc0 kV0 dc0 pm0 cd0 ct0 : Value}
    {f1 : Addr} {od1 an1 : Option Addr} {sl1 : Array (Option Value)} {oc1 kV1 dc1 pm1 cd1 ct1 : Value}
    {f2 : Addr} {od2 an2 : Option Addr} {sl2 : Array (Option Value)} {oc2 kV2 dc2 pm2 cd2 ct2 : Value}
    {f3 : Addr} {od3 an3 : Option Addr} {sl3 : Array (Option Value)} {oc3 kV3 dc3 pm3 cd3 ct3 : Value}
    {f4 : Addr} {od4 an4 : Option Addr} {sl4 : Array (Option Value)} {oc4 kV4 dc4 pm4 cd4 ct4 : Value}
    {f5 : Addr} {od5 an5 : Option Addr} {sl5 : Array (Option Value)} {oc5 kV5 dc5 pm5 cd5 ct5 : Value}
    {f6 : Addr} {od6 an6 : Option Addr} {sl6 : Array (Option Value)} {oc6 kV6 dc6 pm6 cd6 ct6 : Value}
    {f7 : Addr} {od7 an7 : Option Addr} {sl7 : Array (Option Value)} {oc7 kV7 dc7 pm7 cd7 ct7 : Value}
    {f8 : Addr} {od8 an8 : Option Addr} {sl8 : Array (Option Value)} {oc8 kV8 dc8 pm8 cd8 ct8 : Value}
    {f9 : Addr} {od9 an9 : Option Addr} {sl9 : Array (Option Value)} {oc9 kV9 dc9 pm9 cd9 ct9 : Value}
    {f10 : Addr} {od10 an10 : Option Addr} {sl10 : Array (Option Value)} {oc10 kV10 dc10 pm10 cd10 ct10 : Value}
    {f11 : Addr} {od11 an11 : Option Addr} {sl11 : Array (Option Value)} {oc11 kV11 dc11 pm11 cd11 ct11 : Value}
    {f12 : Addr} {od12 an12 : Option Addr} {sl12 : Array (Option Value)} {oc12 kV12 dc12 pm12 cd12 ct12 : Value}
    {f13 : Addr} {od13 an13 : Option Addr} {sl13 : Array (Option Value)} {oc13 kV13 dc13 pm13 cd13 ct13 : Value}
    {f14 : Addr} {od14 an14 : Option Addr} {sl14 : Array (Option Value)} {oc14 kV14 dc14 pm14 cd14 ct14 : Value}
    {f15 : Addr} {od15 an15 : Option Addr} {sl15 : Array (Option Value)} {oc15 kV15 dc15 pm15 cd15 ct15 : Value}
    {f16 : Addr} {od16 an16 : Option Addr} {sl16 : Array (Option Value)} {oc16 kV16 dc16 pm16 cd16 ct16 : Value}
    {f17 : Addr} {od17 an17 : Option Addr} {sl17 : Array (Option Value)} {oc17 kV17 dc17 pm17 cd17 ct17 : Value}
    {f18 : Addr} {od18 an18 : Option Addr} {sl18 : Array (Option Value)} {oc18 kV18 dc18 pm18 cd18 ct18 : Value}
    {f19 : Addr} {od19 an19 : Option Addr} {sl19 : Array (Option Value)} {oc19 kV19 dc19 pm19 cd19 ct19 : Value}
    {f20 : Addr} {od20 an20 : Option Addr} {sl20 : Array (Option Value)} {oc20 kV20 dc20 pm20 cd20 ct20 : Value}
    {f21 : Addr} {od21 an21 : Option Addr} {sl21 : Array (Option Value)} {oc21 kV21 dc21 pm21 cd21 ct21 : Value}
    {f22 : Addr} {od22 an22 : Option Addr} {sl22 : Array (Option Value)} {oc22 kV22 dc22 pm22 cd22 ct22 : Value}
    {f23 : Addr} {od23 an23 : Option Addr} {sl23 : Array (Option Value)} {oc23 kV23 dc23 pm23 cd23 ct23 : Value}
    {f24 : Addr} {od24 an24 : Option Addr} {sl24 : Array (Option Value)} {oc24 kV24 dc24 pm24 cd24 ct24 : Value}
    {f25 : Addr} {od25 an25 : Option Addr} {sl25 : Array (Option Value)} {oc25 kV25 dc25 pm25 cd25 ct25 : Value}
    {f26 : Addr} {od26 an26 : Option Addr} {sl26 : Array (Option Value)} {oc26 kV26 dc26 pm26 cd26 ct26 : Value}
    {f27 : Addr} {od27 an27 : Option Addr} {sl27 : Array (Option Value)} {oc27 kV27 dc27 pm27 cd27 ct27 : Value}
    {f28 : Addr} {od28 an28 : Option Addr} {sl28 : Array (Option Value)} {oc28 kV28 dc28 pm28 cd28 ct28 : Value}
    {f29 : Addr} {od29 an29 : Option Addr} {sl29 : Array (Option Value)} {oc29 kV29 dc29 pm29 cd29 ct29 : Value}
    {f30 : Addr} {od30 an30 : Option Addr} {sl30 : Array (Option Value)} {oc30 kV30 dc30 pm30 cd30 ct30 : Value}
    {f31 : Addr} {od31 an31 : Option Addr} {sl31 : Array (Option Value)} {oc31 kV31 dc31 pm31 cd31 ct31 : Value}
    {f32 : Addr} {od32 an32 : Option Addr} {sl32 : Array (Option Value)} {oc32 kV32 dc32 pm32 cd32 ct32 : Value}
    {f33 : Addr} {od33 an33 : Option Addr} {sl33 : Array (Option Value)} {oc33 kV33 dc33 pm33 cd33 ct33 : Value}
    {CoKinds : Addr}
    {fM0Kinds : Addr} {odM0Kinds anM0Kinds : Option Addr} {slM0Kinds : Array (Option Value)} {ocM0Kinds kVM0Kinds dcM0Kinds pmM0Kinds cdM0Kinds ctM0Kinds : Value}
    {fM2Kinds : Addr} {odM2Kinds anM2Kinds : Option Addr} {slM2Kinds : Array (Option Value)} {ocM2Kinds kVM2Kinds dcM2Kinds pmM2Kinds cdM2Kinds ctM2Kinds : Value}
    {qM2Kinds : Addr} {rsM2Kinds : List Value}
    {fM3Kinds : Addr} {odM3Kinds anM3Kinds : Option Addr} {slM3Kinds : Array (Option Value)} {ocM3Kinds kVM3Kinds dcM3Kinds pmM3Kinds cdM3Kinds ctM3Kinds : Value}
    {qM3Kinds : Addr} {rsM3Kinds : List Value}
    {fM4Kinds : Addr} {odM4Kinds anM4Kinds : Option Addr} {slM4Kinds : Array (Option Value)} {ocM4Kinds kVM4Kinds dcM4Kinds pmM4Kinds cdM4Kinds ctM4Kinds : Value}
    {qM4Kinds : Addr} {rsM4Kinds : List Value}
    {fM6Kinds : Addr} {odM6Kinds anM6Kinds : Option Addr} {slM6Kinds : Array (Option Value)} {ocM6Kinds kVM6Kinds dcM6Kinds pmM6Kinds cdM6Kinds ctM6Kinds : Value}
    {fM7Kinds : Addr} {odM7Kinds anM7Kinds : Option Addr} {slM7Kinds : Array (Option Value)} {ocM7Kinds kVM7Kinds dcM7Kinds pmM7Kinds cdM7Kinds ctM7Kinds : Value}
    {fM9Kinds : Addr} {odM9Kinds anM9Kinds : Option Addr} {slM9Kinds : Array (Option Value)} {ocM9Kinds kVM9Kinds dcM9Kinds pmM9Kinds cdM9Kinds ctM9Kinds : Value}
    {fM10Kinds : Addr} {odM10Kinds anM10Kinds : Option Addr} {slM10Kinds : Array (Option Value)} {ocM10Kinds kVM10Kinds dcM10Kinds pmM10Kinds cdM10Kinds ctM10Kinds : Value}
    {fM12Kinds : Addr} {odM12Kinds anM12Kinds : Option Addr} {slM12Kinds : Array (Option Value)} {ocM12Kinds kVM12Kinds dcM12Kinds pmM12Kinds cdM12Kinds ctM12Kinds : Value}
    {fM13Kinds : Addr} {odM13Kinds anM13Kinds : Option Addr} {slM13Kinds : Array (Option Value)} {ocM13Kinds kVM13Kinds dcM13Kinds pmM13Kinds cdM13Kinds ctM13Kinds : Value}
    {fM14Kinds : Addr} {odM14Kinds anM14Kinds : Option Addr} {slM14Kinds : Array (Option Value)} {ocM14Kinds kVM14Kinds dcM14Kinds pmM14Kinds cdM14Kinds ctM14Kinds : Value}
    {CoRanks : Addr}
    {fM0Ranks : Addr} {odM0Ranks anM0Ranks : Option Addr} {slM0Ranks : Array (Option Value)} {ocM0Ranks kVM0Ranks dcM0Ranks pmM0Ranks cdM0Ranks ctM0Ranks : Value}
    {fM1Ranks : Addr} {odM1Ranks anM1Ranks : Option Addr} {slM1Ranks : Array (Option Value)} {ocM1Ranks kVM1Ranks dcM1Ranks pmM1Ranks cdM1Ranks ctM1Ranks : Value}
    {qM1Ranks : Addr} {rsM1Ranks : List Value}
    {fM2Ranks : Addr} {odM2Ranks anM2Ranks : Option Addr} {slM2Ranks : Array (Option Value)} {ocM2Ranks kVM2Ranks dcM2Ranks pmM2Ranks cdM2Ranks ctM2Ranks : Value}
    {qM2Ranks : Addr} {rsM2Ranks : List Value}
    {fM3Ranks : Addr} {odM3Ranks anM3Ranks : Option Addr} {slM3Ranks : Array (Option Value)} {ocM3Ranks kVM3Ranks dcM3Ranks pmM3Ranks cdM3Ranks ctM3Ranks : Value}
    {qM3Ranks : Addr} {rsM3Ranks : List Value}
    {fM4Ranks : Addr} {odM4Ranks anM4Ranks : Option Addr} {slM4Ranks : Array (Option Value)} {ocM4Ranks kVM4Ranks dcM4Ranks pmM4Ranks cdM4Ranks ctM4Ranks : Value}
    {fM5Ranks : Addr} {odM5Ranks anM5Ranks : Option Addr} {slM5Ranks : Array (Option Value)} {ocM5Ranks kVM5Ranks dcM5Ranks pmM5Ranks cdM5Ranks ctM5Ranks : Value}
    {fM6Ranks : Addr} {odM6Ranks anM6Ranks : Option Addr} {slM6Ranks : Array (Option Value)} {ocM6Ranks kVM6Ranks dcM6Ranks pmM6Ranks cdM6Ranks ctM6Ranks : Value}
    {fM7Ranks : Addr} {odM7Ranks anM7Ranks : Option Addr} {slM7Ranks : Array (Option Value)} {ocM7Ranks kVM7Ranks dcM7Ranks pmM7Ranks cdM7Ranks ctM7Ranks : Value}
    {fM8Ranks : Addr} {odM8Ranks anM8Ranks : Option Addr} {slM8Ranks : Array (Option Value)} {ocM8Ranks kVM8Ranks dcM8Ranks pmM8Ranks cdM8Ranks ctM8Ranks : Value}
    {fM10Ranks : Addr} {odM10Ranks anM10Ranks : Option Addr} {slM10Ranks : Array (Option Value)} {ocM10Ranks kVM10Ranks dcM10Ranks pmM10Ranks cdM10Ranks ctM10Ranks : Value}
    {fM11Ranks : Addr} {odM11Ranks anM11Ranks : Option Addr} {slM11Ranks : Array (Option Value)} {ocM11Ranks kVM11Ranks dcM11Ranks pmM11Ranks cdM11Ranks ctM11Ranks : Value}
    {fM12Ranks : Addr} {odM12Ranks anM12Ranks : Option Addr} {slM12Ranks : Array (Option Value)} {ocM12Ranks kVM12Ranks dcM12Ranks pmM12Ranks cdM12Ranks ctM12Ranks : Value}
    {fM13Ranks : Addr} {odM13Ranks anM13Ranks : Option Addr} {slM13Ranks : Array (Option Value)} {ocM13Ranks kVM13Ranks dcM13Ranks pmM13Ranks cdM13Ranks ctM13Ranks : Value}
    {fM14Ranks : Addr} {odM14Ranks anM14Ranks : Option Addr} {slM14Ranks : Array (Option Value)} {ocM14Ranks kVM14Ranks dcM14Ranks pmM14Ranks cdM14Ranks ctM14Ranks : Value}
    {t0 : Tok}
    {t1 : Tok}
    {t2 : Tok}
    {t3 : Tok}
    {t4 : Tok}
    (gy0 : PySem.W.nsIn K mainGlobals "InvalidOperation" = some (some (.ref Cy0))) (hy0 : K.lookup Cy0 = some (excClassObj nmy0 qny0 Cy0 Ny0 bsy0 bmy0 hdy0 sny0 suby0 aby0 coly0 ddy0 k0y0 k1y0 k2y0 k3y0 k5y0 "ValueError.__new__")) (ty0 : PySem.W.excTail [.type "ValueError", .type "Exception", .type "BaseException", .type "object"] bmy0 = true) (iy0 : PySem.W.findIn K (.ref Cy0) "__init__" = some (some (.builtin "ValueError.__init__"))) (ky0 : PySem.W.keepIn K (.ref Cy0) = true) (by0 : PySem.W.subIn K (.ref Cy0) (.type "BaseException") = some true) (wy0 : PySem.W.typeIn K (.ref Cy0) = some (.type "type")) (xy0 : PySem.W.isClsIn K Cy0 = true) (ry0 : PySem.W.subIn K (.ref Cy0) (.ref Cy0) = some true) (zy0 : xclsB K Cy0 = true)
    (a0 : PySem.W.nsIn K mainGlobals "_wall" = some (some (.ref f0))) (l0 : K.lookup f0 = some ⟨oc0, od0, .func (PySem.W.fnOf "_wall" "_wall" (defArgs s_wall) (defBody s_wall) (defScope s_wall) .none kV0 dc0 pm0 an0 cd0 ct0), sl0⟩) (c0 : PySem.W.codeIn K cd0 "_wall" = true) (k0 : PySem.W.keepIn K (.ref f0) = true)
    (a1 : PySem.W.nsIn K mainGlobals "is_integer" = some (some (.ref f1))) (l1 : K.lookup f1 = some ⟨oc1, od1, .func (PySem.W.fnOf "is_integer" "is_integer" (defArgs s_is_integer) (defBody s_is_integer) (defScope s_is_integer) .none kV1 dc1 pm1 an1 cd1 ct1), sl1⟩) (c1 : PySem.W.codeIn K cd1 "is_integer" = true) (k1 : PySem.W.keepIn K (.ref f1) = true)
    (a2 : PySem.W.nsIn K mainGlobals "is_count" = some (some (.ref f2))) (l2 : K.lookup f2 = some ⟨oc2, od2, .func (PySem.W.fnOf "is_count" "is_count" (defArgs s_is_count) (defBody s_is_count) (defScope s_is_count) .none kV2 dc2 pm2 an2 cd2 ct2), sl2⟩) (c2 : PySem.W.codeIn K cd2 "is_count" = true) (k2 : PySem.W.keepIn K (.ref f2) = true)
    (a3 : PySem.W.nsIn K mainGlobals "is_name" = some (some (.ref f3))) (l3 : K.lookup f3 = some ⟨oc3, od3, .func (PySem.W.fnOf "is_name" "is_name" (defArgs s_is_name) (defBody s_is_name) (defScope s_is_name) .none kV3 dc3 pm3 an3 cd3 ct3), sl3⟩) (c3 : PySem.W.codeIn K cd3 "is_name" = true) (k3 : PySem.W.keepIn K (.ref f3) = true)
    (a4 : PySem.W.nsIn K mainGlobals "is_sorted" = some (some (.ref f4))) (l4 : K.lookup f4 = some ⟨oc4, od4, .func (PySem.W.fnOf "is_sorted" "is_sorted" (defArgs s_is_sorted) (defBody s_is_sorted) (defScope s_is_sorted) .none kV4 dc4 pm4 an4 cd4 ct4), sl4⟩) (c4 : PySem.W.codeIn K cd4 "is_sorted" = true) (k4 : PySem.W.keepIn K (.ref f4) = true)
    (a5 : PySem.W.nsIn K mainGlobals "_is_making" = some (some (.ref f5))) (l5 : K.lookup f5 = some ⟨oc5, od5, .func (PySem.W.fnOf "_is_making" "_is_making" (defArgs s_is_making) (defBody s_is_making) (defScope s_is_making) .none kV5 dc5 pm5 an5 cd5 ct5), sl5⟩) (c5 : PySem.W.codeIn K cd5 "_is_making" = true) (k5 : PySem.W.keepIn K (.ref f5) = true)
    (a6 : PySem.W.nsIn K mainGlobals "_all_names" = some (some (.ref f6))) (l6 : K.lookup f6 = some ⟨oc6, od6, .func (PySem.W.fnOf "_all_names" "_all_names" (defArgs s_all_names) (defBody s_all_names) (defScope s_all_names) .none kV6 dc6 pm6 an6 cd6 ct6), sl6⟩) (c6 : PySem.W.codeIn K cd6 "_all_names" = true) (k6 : PySem.W.keepIn K (.ref f6) = true)
    (a7 : PySem.W.nsIn K mainGlobals "_are_kinds" = some (some (.ref f7))) (l7 : K.lookup f7 = some ⟨oc7, od7, .func (PySem.W.fnOf "_are_kinds" "_are_kinds" (defArgs s_are_kinds) (defBody s_are_kinds) (defScope s_are_kinds) .none kV7 dc7 pm7 an7 cd7 ct7), sl7⟩) (c7 : PySem.W.codeIn K cd7 "_are_kinds" = true) (k7 : PySem.W.keepIn K (.ref f7) = true)
    (a8 : PySem.W.nsIn K mainGlobals "_check_rank" = some (some (.ref f8))) (l8 : K.lookup f8 = some ⟨oc8, od8, .func (PySem.W.fnOf "_check_rank" "_check_rank" (defArgs s_check_rank) (defBody s_check_rank) (defScope s_check_rank) .none kV8 dc8 pm8 an8 cd8 ct8), sl8⟩) (c8 : PySem.W.codeIn K cd8 "_check_rank" = true) (k8 : PySem.W.keepIn K (.ref f8) = true)
    (a9 : PySem.W.nsIn K mainGlobals "_check_place" = some (some (.ref f9))) (l9 : K.lookup f9 = some ⟨oc9, od9, .func (PySem.W.fnOf "_check_place" "_check_place" (defArgs s_check_place) (defBody s_check_place) (defScope s_check_place) .none kV9 dc9 pm9 an9 cd9 ct9), sl9⟩) (c9 : PySem.W.codeIn K cd9 "_check_place" = true) (k9 : PySem.W.keepIn K (.ref f9) = true)
    (a10 : PySem.W.nsIn K mainGlobals "_kinds_above" = some (some (.ref f10))) (l10 : K.lookup f10 = some ⟨oc10, od10, .func (PySem.W.fnOf "_kinds_above" "_kinds_above" (defArgs s_kinds_above) (defBody s_kinds_above) (defScope s_kinds_above) .none kV10 dc10 pm10 an10 cd10 ct10), sl10⟩) (c10 : PySem.W.codeIn K cd10 "_kinds_above" = true) (k10 : PySem.W.keepIn K (.ref f10) = true)
    (a11 : PySem.W.nsIn K mainGlobals "_kinds_by_rank" = some (some (.ref f11))) (l11 : K.lookup f11 = some ⟨oc11, od11, .func (PySem.W.fnOf "_kinds_by_rank" "_kinds_by_rank" (defArgs s_kinds_by_rank) (defBody s_kinds_by_rank) (defScope s_kinds_by_rank) .none kV11 dc11 pm11 an11 cd11 ct11), sl11⟩) (c11 : PySem.W.codeIn K cd11 "_kinds_by_rank" = true) (k11 : PySem.W.keepIn K (.ref f11) = true)
    (a12 : PySem.W.nsIn K mainGlobals "sums_above" = some (some (.ref f12))) (l12 : K.lookup f12 = some ⟨oc12, od12, .func (PySem.W.fnOf "sums_above" "sums_above" (defArgs s_sums_above) (defBody s_sums_above) (defScope s_sums_above) .none kV12 dc12 pm12 an12 cd12 ct12), sl12⟩) (c12 : PySem.W.codeIn K cd12 "sums_above" = true) (k12 : PySem.W.keepIn K (.ref f12) = true)
    (a13 : PySem.W.nsIn K mainGlobals "sums_by_rank" = some (some (.ref f13))) (l13 : K.lookup f13 = some ⟨oc13, od13, .func (PySem.W.fnOf "sums_by_rank" "sums_by_rank" (defArgs s_sums_by_rank) (defBody s_sums_by_rank) (defScope s_sums_by_rank) .none kV13 dc13 pm13 an13 cd13 ct13), sl13⟩) (c13 : PySem.W.codeIn K cd13 "sums_by_rank" = true) (k13 : PySem.W.keepIn K (.ref f13) = true)
    (a14 : PySem.W.nsIn K mainGlobals "_ways_below" = some (some (.ref f14))) (l14 : K.lookup f14 = some ⟨oc14, od14, .func (PySem.W.fnOf "_ways_below" "_ways_below" (defArgs s_ways_below) (defBody s_ways_below) (defScope s_ways_below) .none kV14 dc14 pm14 an14 cd14 ct14), sl14⟩) (c14 : PySem.W.codeIn K cd14 "_ways_below" = true) (k14 : PySem.W.keepIn K (.ref f14) = true)
    (a15 : PySem.W.nsIn K mainGlobals "_ways_onward" = some (some (.ref f15))) (l15 : K.lookup f15 = some ⟨oc15, od15, .func (PySem.W.fnOf "_ways_onward" "_ways_onward" (defArgs s_ways_onward) (defBody s_ways_onward) (defScope s_ways_onward) .none kV15 dc15 pm15 an15 cd15 ct15), sl15⟩) (c15 : PySem.W.codeIn K cd15 "_ways_onward" = true) (k15 : PySem.W.keepIn K (.ref f15) = true)
    (a16 : PySem.W.nsIn K mainGlobals "_way_numbered" = some (some (.ref f16))) (l16 : K.lookup f16 = some ⟨oc16, od16, .func (PySem.W.fnOf "_way_numbered" "_way_numbered" (defArgs s_way_numbered) (defBody s_way_numbered) (defScope s_way_numbered) .none kV16 dc16 pm16 an16 cd16 ct16), sl16⟩) (c16 : PySem.W.codeIn K cd16 "_way_numbered" = true) (k16 : PySem.W.keepIn K (.ref f16) = true)
    (a17 : PySem.W.nsIn K mainGlobals "_law_dice" = some (some (.ref f17))) (l17 : K.lookup f17 = some ⟨oc17, od17, .func (PySem.W.fnOf "_law_dice" "_law_dice" (defArgs s_law_dice) (defBody s_law_dice) (defScope s_law_dice) .none kV17 dc17 pm17 an17 cd17 ct17), sl17⟩) (c17 : PySem.W.codeIn K cd17 "_law_dice" = true) (k17 : PySem.W.keepIn K (.ref f17) = true)
    (a18 : PySem.W.nsIn K mainGlobals "_law_roll" = some (some (.ref f18))) (l18 : K.lookup f18 = some ⟨oc18, od18, .func (PySem.W.fnOf "_law_roll" "_law_roll" (defArgs s_law_roll) (defBody s_law_roll) (defScope s_law_roll) .none kV18 dc18 pm18 an18 cd18 ct18), sl18⟩) (c18 : PySem.W.codeIn K cd18 "_law_roll" = true) (k18 : PySem.W.keepIn K (.ref f18) = true)
    (a19 : PySem.W.nsIn K mainGlobals "_law_pick" = some (some (.ref f19))) (l19 : K.lookup f19 = some ⟨oc19, od19, .func (PySem.W.fnOf "_law_pick" "_law_pick" (defArgs s_law_pick) (defBody s_law_pick) (defScope s_law_pick) .none kV19 dc19 pm19 an19 cd19 ct19), sl19⟩) (c19 : PySem.W.codeIn K cd19 "_law_pick" = true) (k19 : PySem.W.keepIn K (.ref f19) = true)
    (a20 : PySem.W.nsIn K mainGlobals "_law_mixed" = some (some (.ref f20))) (l20 : K.lookup f20 = some ⟨oc20, od20, .func (PySem.W.fnOf "_law_mixed" "_law_mixed" (defArgs s_law_mixed) (defBody s_law_mixed) (defScope s_law_mixed) .none kV20 dc20 pm20 an20 cd20 ct20), sl20⟩) (c20 : PySem.W.codeIn K cd20 "_law_mixed" = true) (k20 : PySem.W.keepIn K (.ref f20) = true)
    (a21 : PySem.W.nsIn K mainGlobals "_law_sizes" = some (some (.ref f21))) (l21 : K.lookup f21 = some ⟨oc21, od21, .func (PySem.W.fnOf "_law_sizes" "_law_sizes" (defArgs s_law_sizes) (defBody s_law_sizes) (defScope s_law_sizes) .none kV21 dc21 pm21 an21 cd21 ct21), sl21⟩) (c21 : PySem.W.codeIn K cd21 "_law_sizes" = true) (k21 : PySem.W.keepIn K (.ref f21) = true)
    (a22 : PySem.W.nsIn K mainGlobals "_law_without" = some (some (.ref f22))) (l22 : K.lookup f22 = some ⟨oc22, od22, .func (PySem.W.fnOf "_law_without" "_law_without" (defArgs s_law_without) (defBody s_law_without) (defScope s_law_without) .none kV22 dc22 pm22 an22 cd22 ct22), sl22⟩) (c22 : PySem.W.codeIn K cd22 "_law_without" = true) (k22 : PySem.W.keepIn K (.ref f22) = true)
    (a23 : PySem.W.nsIn K mainGlobals "_law_children" = some (some (.ref f23))) (l23 : K.lookup f23 = some ⟨oc23, od23, .func (PySem.W.fnOf "_law_children" "_law_children" (defArgs s_law_children) (defBody s_law_children) (defScope s_law_children) .none kV23 dc23 pm23 an23 cd23 ct23), sl23⟩) (c23 : PySem.W.codeIn K cd23 "_law_children" = true) (k23 : PySem.W.keepIn K (.ref f23) = true)
    (a24 : PySem.W.nsIn K mainGlobals "_law_drawn_kinds" = some (some (.ref f24))) (l24 : K.lookup f24 = some ⟨oc24, od24, .func (PySem.W.fnOf "_law_drawn_kinds" "_law_drawn_kinds" (defArgs s_law_drawn_kinds) (defBody s_law_drawn_kinds) (defScope s_law_drawn_kinds) .none kV24 dc24 pm24 an24 cd24 ct24), sl24⟩) (c24 : PySem.W.codeIn K cd24 "_law_drawn_kinds" = true) (k24 : PySem.W.keepIn K (.ref f24) = true)
    (a25 : PySem.W.nsIn K mainGlobals "_law_kinds_of" = some (some (.ref f25))) (l25 : K.lookup f25 = some ⟨oc25, od25, .func (PySem.W.fnOf "_law_kinds_of" "_law_kinds_of" (defArgs s_law_kinds_of) (defBody s_law_kinds_of) (defScope s_law_kinds_of) .none kV25 dc25 pm25 an25 cd25 ct25), sl25⟩) (c25 : PySem.W.codeIn K cd25 "_law_kinds_of" = true) (k25 : PySem.W.keepIn K (.ref f25) = true)
    (a26 : PySem.W.nsIn K mainGlobals "_law_as_book" = some (some (.ref f26))) (l26 : K.lookup f26 = some ⟨oc26, od26, .func (PySem.W.fnOf "_law_as_book" "_law_as_book" (defArgs s_law_as_book) (defBody s_law_as_book) (defScope s_law_as_book) .none kV26 dc26 pm26 an26 cd26 ct26), sl26⟩) (c26 : PySem.W.codeIn K cd26 "_law_as_book" = true) (k26 : PySem.W.keepIn K (.ref f26) = true)
    (a27 : PySem.W.nsIn K mainGlobals "_law_all_names" = some (some (.ref f27))) (l27 : K.lookup f27 = some ⟨oc27, od27, .func (PySem.W.fnOf "_law_all_names" "_law_all_names" (defArgs s_law_all_names) (defBody s_law_all_names) (defScope s_law_all_names) .none kV27 dc27 pm27 an27 cd27 ct27), sl27⟩) (c27 : PySem.W.codeIn K cd27 "_law_all_names" = true) (k27 : PySem.W.keepIn K (.ref f27) = true)
    (a28 : PySem.W.nsIn K mainGlobals "_law_way_fits" = some (some (.ref f28))) (l28 : K.lookup f28 = some ⟨oc28, od28, .func (PySem.W.fnOf "_law_way_fits" "_law_way_fits" (defArgs s_law_way_fits) (defBody s_law_way_fits) (defScope s_law_way_fits) .none kV28 dc28 pm28 an28 cd28 ct28), sl28⟩) (c28 : PySem.W.codeIn K cd28 "_law_way_fits" = true) (k28 : PySem.W.keepIn K (.ref f28) = true)
    (a29 : PySem.W.nsIn K mainGlobals "_law_no_children" = some (some (.ref f29))) (l29 : K.lookup f29 = some ⟨oc29, od29, .func (PySem.W.fnOf "_law_no_children" "_law_no_children" (defArgs s_law_no_children) (defBody s_law_no_children) (defScope s_law_no_children) .none kV29 dc29 pm29 an29 cd29 ct29), sl29⟩) (c29 : PySem.W.codeIn K cd29 "_law_no_children" = true) (k29 : PySem.W.keepIn K (.ref f29) = true)
    (a30 : PySem.W.nsIn K mainGlobals "_law_way_right" = some (some (.ref f30))) (l30 : K.lookup f30 = some ⟨oc30, od30, .func (PySem.W.fnOf "_law_way_right" "_law_way_right" (defArgs s_law_way_right) (defBody s_law_way_right) (defScope s_law_way_right) .none kV30 dc30 pm30 an30 cd30 ct30), sl30⟩) (c30 : PySem.W.codeIn K cd30 "_law_way_right" = true) (k30 : PySem.W.keepIn K (.ref f30) = true)
    (a31 : PySem.W.nsIn K mainGlobals "_law_near" = some (some (.ref f31))) (l31 : K.lookup f31 = some ⟨oc31, od31, .func (PySem.W.fnOf "_law_near" "_law_near" (defArgs s_law_near) (defBody s_law_near) (defScope s_law_near) .none kV31 dc31 pm31 an31 cd31 ct31), sl31⟩) (c31 : PySem.W.codeIn K cd31 "_law_near" = true) (k31 : PySem.W.keepIn K (.ref f31) = true)
    (a32 : PySem.W.nsIn K mainGlobals "_law_right" = some (some (.ref f32))) (l32 : K.lookup f32 = some ⟨oc32, od32, .func (PySem.W.fnOf "_law_right" "_law_right" (defArgs s_law_right) (defBody s_law_right) (defScope s_law_right) .none kV32 dc32 pm32 an32 cd32 ct32), sl32⟩) (c32 : PySem.W.codeIn K cd32 "_law_right" = true) (k32 : PySem.W.keepIn K (.ref f32) = true)
    (a33 : PySem.W.nsIn K mainGlobals "law" = some (some (.ref f33))) (l33 : K.lookup f33 = some ⟨oc33, od33, .func (PySem.W.fnOf "law" "law" (defArgs s_law) (defBody s_law) (defScope s_law) .none kV33 dc33 pm33 an33 cd33 ct33), sl33⟩) (c33 : PySem.W.codeIn K cd33 "law" = true) (k33 : PySem.W.keepIn K (.ref f33) = true)
    (goKinds : PySem.W.nsIn K mainGlobals "Kinds" = some (some (.ref CoKinds)))
    (pgoKinds : PySem.W.plainGet K CoKinds Str.empty = true)
    (hdoKinds : PySem.W.hasDictIn K CoKinds = true)
    (pooKinds : PySem.W.plainOver K CoKinds = true)
    (saoKinds : PySem.W.findIn K (.ref CoKinds) "__setattr__" = some (some (.builtin "object.__setattr__")))
    (mkoKinds : PySem.W.makesIn K CoKinds = true)
    (kcoKinds : PySem.W.keepIn K (.ref CoKinds) = true)
    (neoKinds : PySem.W.findIn K (.ref CoKinds) "__ne__" = some (some (.builtin "object.__ne__")))
    (oboKinds : PySem.W.mroIn K CoKinds (.type "object") = some true)
    (kioKinds : PySem.W.kitOne K (.ref CoKinds) (.ref CoKinds) = some true)
    (ktoKinds : PySem.W.kitOne K (.type "tuple") (.ref CoKinds) = some false)
    (kdoKinds : PySem.W.kitOne K (.type "dict") (.ref CoKinds) = some false)
    (kroKinds : PySem.W.kitOne K (.ref CoKinds) (.type "tuple") = some false)
    (caoKinds : PySem.W.findIn K (.ref CoKinds) "__class__" = some (some (.builtin "object.__class__")))
    (cgoKinds : PySem.W.specialIn K (.builtin "object.__class__") "__get__" = some (some (.builtin "getset_descriptor.__get__")))
    (ctoKinds : PySem.W.takesIn K (.builtin "object.__class__") = some true)
    (n_leafoKinds : PySem.W.findIn K (.ref CoKinds) "_leaf" = some none)
    (n_makingsoKinds : PySem.W.findIn K (.ref CoKinds) "_makings" = some none)
    (n_namesoKinds : PySem.W.findIn K (.ref CoKinds) "_names" = some none)
    (atM0Kinds : PySem.W.findIn K (.ref CoKinds) "__init__" = some (some (.ref fM0Kinds)))
    (ifM0Kinds : PySem.W.isFn K (.ref fM0Kinds) = true)
    (lM0Kinds : K.lookup fM0Kinds = some ⟨ocM0Kinds, odM0Kinds, .func (PySem.W.fnOf "__init__" "Kinds.__init__" (defArgs s_Kinds_init) (defBody s_Kinds_init) (defScope s_Kinds_init) .none kVM0Kinds dcM0Kinds pmM0Kinds anM0Kinds cdM0Kinds ctM0Kinds), slM0Kinds⟩)
    (cM0Kinds : PySem.W.codeIn K cdM0Kinds "Kinds.__init__" = true)
    (kM0Kinds : PySem.W.keepIn K (.ref fM0Kinds) = true)
    (atM2Kinds : PySem.W.findIn K (.ref CoKinds) "leaf" = some (some (.ref qM2Kinds)))
    (geM2Kinds : PySem.W.specialIn K (.ref qM2Kinds) "__get__" = some (some (.builtin "property.__get__")))
    (taM2Kinds : PySem.W.takesIn K (.ref qM2Kinds) = some true)
    (reM2Kinds : PySem.W.recIn K qM2Kinds "property" = some (.ref fM2Kinds :: rsM2Kinds))
    (lM2Kinds : K.lookup fM2Kinds = some ⟨ocM2Kinds, odM2Kinds, .func (PySem.W.fnOf "leaf" "Kinds.leaf" (defArgs s_Kinds_leaf) (defBody s_Kinds_leaf) (defScope s_Kinds_leaf) .none kVM2Kinds dcM2Kinds pmM2Kinds anM2Kinds cdM2Kinds ctM2Kinds), slM2Kinds⟩)
    (cM2Kinds : PySem.W.codeIn K cdM2Kinds "Kinds.leaf" = true)
    (kM2Kinds : PySem.W.keepIn K (.ref fM2Kinds) = true)
    (atM3Kinds : PySem.W.findIn K (.ref CoKinds) "makings" = some (some (.ref qM3Kinds)))
    (geM3Kinds : PySem.W.specialIn K (.ref qM3Kinds) "__get__" = some (some (.builtin "property.__get__")))
    (taM3Kinds : PySem.W.takesIn K (.ref qM3Kinds) = some true)
    (reM3Kinds : PySem.W.recIn K qM3Kinds "property" = some (.ref fM3Kinds :: rsM3Kinds))
    (lM3Kinds : K.lookup fM3Kinds = some ⟨ocM3Kinds, odM3Kinds, .func (PySem.W.fnOf "makings" "Kinds.makings" (defArgs s_Kinds_makings) (defBody s_Kinds_makings) (defScope s_Kinds_makings) .none kVM3Kinds dcM3Kinds pmM3Kinds anM3Kinds cdM3Kinds ctM3Kinds), slM3Kinds⟩)
    (cM3Kinds : PySem.W.codeIn K cdM3Kinds "Kinds.makings" = true)
    (kM3Kinds : PySem.W.keepIn K (.ref fM3Kinds) = true)
    (atM4Kinds : PySem.W.findIn K (.ref CoKinds) "names" = some (some (.ref qM4Kinds)))
    (geM4Kinds : PySem.W.specialIn K (.ref qM4Kinds) "__get__" = some (some (.builtin "property.__get__")))
    (taM4Kinds : PySem.W.takesIn K (.ref qM4Kinds) = some true)
    (reM4Kinds : PySem.W.recIn K qM4Kinds "property" = some (.ref fM4Kinds :: rsM4Kinds))
    (lM4Kinds : K.lookup fM4Kinds = some ⟨ocM4Kinds, odM4Kinds, .func (PySem.W.fnOf "names" "Kinds.names" (defArgs s_Kinds_names) (defBody s_Kinds_names) (defScope s_Kinds_names) .none kVM4Kinds dcM4Kinds pmM4Kinds anM4Kinds cdM4Kinds ctM4Kinds), slM4Kinds⟩)
    (cM4Kinds : PySem.W.codeIn K cdM4Kinds "Kinds.names" = true)
    (kM4Kinds : PySem.W.keepIn K (.ref fM4Kinds) = true)
    (atM6Kinds : PySem.W.findIn K (.ref CoKinds) "users" = some (some (.ref fM6Kinds)))
    (ifM6Kinds : PySem.W.isFn K (.ref fM6Kinds) = true)
    (lM6Kinds : K.lookup fM6Kinds = some ⟨ocM6Kinds, odM6Kinds, .func (PySem.W.fnOf "users" "Kinds.users" (defArgs s_Kinds_users) (defBody s_Kinds_users) (defScope s_Kinds_users) .none kVM6Kinds dcM6Kinds pmM6Kinds anM6Kinds cdM6Kinds ctM6Kinds), slM6Kinds⟩)
    (cM6Kinds : PySem.W.codeIn K cdM6Kinds "Kinds.users" = true)
    (kM6Kinds : PySem.W.keepIn K (.ref fM6Kinds) = true)
    (atM7Kinds : PySem.W.findIn K (.ref CoKinds) "losers" = some (some (.ref fM7Kinds)))
    (ifM7Kinds : PySem.W.isFn K (.ref fM7Kinds) = true)
    (lM7Kinds : K.lookup fM7Kinds = some ⟨ocM7Kinds, odM7Kinds, .func (PySem.W.fnOf "losers" "Kinds.losers" (defArgs s_Kinds_losers) (defBody s_Kinds_losers) (defScope s_Kinds_losers) .none kVM7Kinds dcM7Kinds pmM7Kinds anM7Kinds cdM7Kinds ctM7Kinds), slM7Kinds⟩)
    (cM7Kinds : PySem.W.codeIn K cdM7Kinds "Kinds.losers" = true)
    (kM7Kinds : PySem.W.keepIn K (.ref fM7Kinds) = true)
    (atM9Kinds : PySem.W.findIn K (.ref CoKinds) "__contains__" = some (some (.ref fM9Kinds)))
    (ifM9Kinds : PySem.W.isFn K (.ref fM9Kinds) = true)
    (lM9Kinds : K.lookup fM9Kinds = some ⟨ocM9Kinds, odM9Kinds, .func (PySem.W.fnOf "__contains__" "Kinds.__contains__" (defArgs s_Kinds_contains) (defBody s_Kinds_contains) (defScope s_Kinds_contains) .none kVM9Kinds dcM9Kinds pmM9Kinds anM9Kinds cdM9Kinds ctM9Kinds), slM9Kinds⟩)
    (cM9Kinds : PySem.W.codeIn K cdM9Kinds "Kinds.__contains__" = true)
    (kM9Kinds : PySem.W.keepIn K (.ref fM9Kinds) = true)
    (atM10Kinds : PySem.W.findIn K (.ref CoKinds) "__getitem__" = some (some (.ref fM10Kinds)))
    (ifM10Kinds : PySem.W.isFn K (.ref fM10Kinds) = true)
    (lM10Kinds : K.lookup fM10Kinds = some ⟨ocM10Kinds, odM10Kinds, .func (PySem.W.fnOf "__getitem__" "Kinds.__getitem__" (defArgs s_Kinds_getitem) (defBody s_Kinds_getitem) (defScope s_Kinds_getitem) .none kVM10Kinds dcM10Kinds pmM10Kinds anM10Kinds cdM10Kinds ctM10Kinds), slM10Kinds⟩)
    (cM10Kinds : PySem.W.codeIn K cdM10Kinds "Kinds.__getitem__" = true)
    (kM10Kinds : PySem.W.keepIn K (.ref fM10Kinds) = true)
    (atM12Kinds : PySem.W.findIn K (.ref CoKinds) "__len__" = some (some (.ref fM12Kinds)))
    (ifM12Kinds : PySem.W.isFn K (.ref fM12Kinds) = true)
    (lM12Kinds : K.lookup fM12Kinds = some ⟨ocM12Kinds, odM12Kinds, .func (PySem.W.fnOf "__len__" "Kinds.__len__" (defArgs s_Kinds_len) (defBody s_Kinds_len) (defScope s_Kinds_len) .none kVM12Kinds dcM12Kinds pmM12Kinds anM12Kinds cdM12Kinds ctM12Kinds), slM12Kinds⟩)
    (cM12Kinds : PySem.W.codeIn K cdM12Kinds "Kinds.__len__" = true)
    (kM12Kinds : PySem.W.keepIn K (.ref fM12Kinds) = true)
    (atM13Kinds : PySem.W.findIn K (.ref CoKinds) "__eq__" = some (some (.ref fM13Kinds)))
    (ifM13Kinds : PySem.W.isFn K (.ref fM13Kinds) = true)
    (lM13Kinds : K.lookup fM13Kinds = some ⟨ocM13Kinds, odM13Kinds, .func (PySem.W.fnOf "__eq__" "Kinds.__eq__" (defArgs s_Kinds_eq) (defBody s_Kinds_eq) (defScope s_Kinds_eq) .none kVM13Kinds dcM13Kinds pmM13Kinds anM13Kinds cdM13Kinds ctM13Kinds), slM13Kinds⟩)
    (cM13Kinds : PySem.W.codeIn K cdM13Kinds "Kinds.__eq__" = true)
    (kM13Kinds : PySem.W.keepIn K (.ref fM13Kinds) = true)
    (atM14Kinds : PySem.W.findIn K (.ref CoKinds) "__str__" = some (some (.ref fM14Kinds)))
    (ifM14Kinds : PySem.W.isFn K (.ref fM14Kinds) = true)
    (lM14Kinds : K.lookup fM14Kinds = some ⟨ocM14Kinds, odM14Kinds, .func (PySem.W.fnOf "__str__" "Kinds.__str__" (defArgs s_Kinds_str) (defBody s_Kinds_str) (defScope s_Kinds_str) .none kVM14Kinds dcM14Kinds pmM14Kinds anM14Kinds cdM14Kinds ctM14Kinds), slM14Kinds⟩)
    (cM14Kinds : PySem.W.codeIn K cdM14Kinds "Kinds.__str__" = true)
    (kM14Kinds : PySem.W.keepIn K (.ref fM14Kinds) = true)
    (goRanks : PySem.W.nsIn K mainGlobals "Ranks" = some (some (.ref CoRanks)))
    (pgoRanks : PySem.W.plainGet K CoRanks Str.empty = true)
    (hdoRanks : PySem.W.hasDictIn K CoRanks = true)
    (pooRanks : PySem.W.plainOver K CoRanks = true)
    (saoRanks : PySem.W.findIn K (.ref CoRanks) "__setattr__" = some (some (.builtin "object.__setattr__")))
    (mkoRanks : PySem.W.makesIn K CoRanks = true)
    (kcoRanks : PySem.W.keepIn K (.ref CoRanks) = true)
    (neoRanks : PySem.W.findIn K (.ref CoRanks) "__ne__" = some (some (.builtin "object.__ne__")))
    (oboRanks : PySem.W.mroIn K CoRanks (.type "object") = some true)
    (kioRanks : PySem.W.kitOne K (.ref CoRanks) (.ref CoRanks) = some true)
    (ktoRanks : PySem.W.kitOne K (.type "tuple") (.ref CoRanks) = some false)
    (kdoRanks : PySem.W.kitOne K (.type "dict") (.ref CoRanks) = some false)
    (kroRanks : PySem.W.kitOne K (.ref CoRanks) (.type "tuple") = some false)
    (caoRanks : PySem.W.findIn K (.ref CoRanks) "__class__" = some (some (.builtin "object.__class__")))
    (cgoRanks : PySem.W.specialIn K (.builtin "object.__class__") "__get__" = some (some (.builtin "getset_descriptor.__get__")))
    (ctoRanks : PySem.W.takesIn K (.builtin "object.__class__") = some true)
    (n_kindsoRanks : PySem.W.findIn K (.ref CoRanks) "_kinds" = some none)
    (n_parts_ofoRanks : PySem.W.findIn K (.ref CoRanks) "_parts_of" = some none)
    (n_sizesoRanks : PySem.W.findIn K (.ref CoRanks) "_sizes" = some none)
    (n_waysoRanks : PySem.W.findIn K (.ref CoRanks) "_ways" = some none)
    (n_by_rankoRanks : PySem.W.findIn K (.ref CoRanks) "_by_rank" = some none)
    (n_turnoRanks : PySem.W.findIn K (.ref CoRanks) "_turn" = some none)
    (atM0Ranks : PySem.W.findIn K (.ref CoRanks) "__init__" = some (some (.ref fM0Ranks)))
    (ifM0Ranks : PySem.W.isFn K (.ref fM0Ranks) = true)
    (lM0Ranks : K.lookup fM0Ranks = some ⟨ocM0Ranks, odM0Ranks, .func (PySem.W.fnOf "__init__" "Ranks.__init__" (defArgs s_Ranks_init) (defBody s_Ranks_init) (defScope s_Ranks_init) .none kVM0Ranks dcM0Ranks pmM0Ranks anM0Ranks cdM0Ranks ctM0Ranks), slM0Ranks⟩)
    (cM0Ranks : PySem.W.codeIn K cdM0Ranks "Ranks.__init__" = true)
    (kM0Ranks : PySem.W.keepIn K (.ref fM0Ranks) = true)
    (atM1Ranks : PySem.W.findIn K (.ref CoRanks) "kinds" = some (some (.ref qM1Ranks)))
    (geM1Ranks : PySem.W.specialIn K (.ref qM1Ranks) "__get__" = some (some (.builtin "property.__get__")))
    (taM1Ranks : PySem.W.takesIn K (.ref qM1Ranks) = some true)
    (reM1Ranks : PySem.W.recIn K qM1Ranks "property" = some (.ref fM1Ranks :: rsM1Ranks))
    (lM1Ranks : K.lookup fM1Ranks = some ⟨ocM1Ranks, odM1Ranks, .func (PySem.W.fnOf "kinds" "Ranks.kinds" (defArgs s_Ranks_kinds) (defBody s_Ranks_kinds) (defScope s_Ranks_kinds) .none kVM1Ranks dcM1Ranks pmM1Ranks anM1Ranks cdM1Ranks ctM1Ranks), slM1Ranks⟩)
    (cM1Ranks : PySem.W.codeIn K cdM1Ranks "Ranks.kinds" = true)
    (kM1Ranks : PySem.W.keepIn K (.ref fM1Ranks) = true)
    (atM2Ranks : PySem.W.findIn K (.ref CoRanks) "turn" = some (some (.ref qM2Ranks)))
    (geM2Ranks : PySem.W.specialIn K (.ref qM2Ranks) "__get__" = some (some (.builtin "property.__get__")))
    (taM2Ranks : PySem.W.takesIn K (.ref qM2Ranks) = some true)
    (reM2Ranks : PySem.W.recIn K qM2Ranks "property" = some (.ref fM2Ranks :: rsM2Ranks))
    (lM2Ranks : K.lookup fM2Ranks = some ⟨ocM2Ranks, odM2Ranks, .func (PySem.W.fnOf "turn" "Ranks.turn" (defArgs s_Ranks_turn) (defBody s_Ranks_turn) (defScope s_Ranks_turn) .none kVM2Ranks dcM2Ranks pmM2Ranks anM2Ranks cdM2Ranks ctM2Ranks), slM2Ranks⟩)
    (cM2Ranks : PySem.W.codeIn K cdM2Ranks "Ranks.turn" = true)
    (kM2Ranks : PySem.W.keepIn K (.ref fM2Ranks) = true)
    (atM3Ranks : PySem.W.findIn K (.ref CoRanks) "period" = some (some (.ref qM3Ranks)))
    (geM3Ranks : PySem.W.specialIn K (.ref qM3Ranks) "__get__" = some (some (.builtin "property.__get__")))
    (taM3Ranks : PySem.W.takesIn K (.ref qM3Ranks) = some true)
    (reM3Ranks : PySem.W.recIn K qM3Ranks "property" = some (.ref fM3Ranks :: rsM3Ranks))
    (lM3Ranks : K.lookup fM3Ranks = some ⟨ocM3Ranks, odM3Ranks, .func (PySem.W.fnOf "period" "Ranks.period" (defArgs s_Ranks_period) (defBody s_Ranks_period) (defScope s_Ranks_period) .none kVM3Ranks dcM3Ranks pmM3Ranks anM3Ranks cdM3Ranks ctM3Ranks), slM3Ranks⟩)
    (cM3Ranks : PySem.W.codeIn K cdM3Ranks "Ranks.period" = true)
    (kM3Ranks : PySem.W.keepIn K (.ref fM3Ranks) = true)
    (atM4Ranks : PySem.W.findIn K (.ref CoRanks) "base_of" = some (some (.ref fM4Ranks)))
    (ifM4Ranks : PySem.W.isFn K (.ref fM4Ranks) = true)
    (lM4Ranks : K.lookup fM4Ranks = some ⟨ocM4Ranks, odM4Ranks, .func (PySem.W.fnOf "base_of" "Ranks.base_of" (defArgs s_Ranks_base_of) (defBody s_Ranks_base_of) (defScope s_Ranks_base_of) .none kVM4Ranks dcM4Ranks pmM4Ranks anM4Ranks cdM4Ranks ctM4Ranks), slM4Ranks⟩)
    (cM4Ranks : PySem.W.codeIn K cdM4Ranks "Ranks.base_of" = true)
    (kM4Ranks : PySem.W.keepIn K (.ref fM4Ranks) = true)
    (atM5Ranks : PySem.W.findIn K (.ref CoRanks) "kinds_at" = some (some (.ref fM5Ranks)))
    (ifM5Ranks : PySem.W.isFn K (.ref fM5Ranks) = true)
    (lM5Ranks : K.lookup fM5Ranks = some ⟨ocM5Ranks, odM5Ranks, .func (PySem.W.fnOf "kinds_at" "Ranks.kinds_at" (defArgs s_Ranks_kinds_at) (defBody s_Ranks_kinds_at) (defScope s_Ranks_kinds_at) .none kVM5Ranks dcM5Ranks pmM5Ranks anM5Ranks cdM5Ranks ctM5Ranks), slM5Ranks⟩)
    (cM5Ranks : PySem.W.codeIn K cdM5Ranks "Ranks.kinds_at" = true)
    (kM5Ranks : PySem.W.keepIn K (.ref fM5Ranks) = true)
    (atM6Ranks : PySem.W.findIn K (.ref CoRanks) "size_of" = some (some (.ref fM6Ranks)))
    (ifM6Ranks : PySem.W.isFn K (.ref fM6Ranks) = true)
    (lM6Ranks : K.lookup fM6Ranks = some ⟨ocM6Ranks, odM6Ranks, .func (PySem.W.fnOf "size_of" "Ranks.size_of" (defArgs s_Ranks_size_of) (defBody s_Ranks_size_of) (defScope s_Ranks_size_of) .none kVM6Ranks dcM6Ranks pmM6Ranks anM6Ranks cdM6Ranks ctM6Ranks), slM6Ranks⟩)
    (cM6Ranks : PySem.W.codeIn K cdM6Ranks "Ranks.size_of" = true)
    (kM6Ranks : PySem.W.keepIn K (.ref fM6Ranks) = true)
    (atM7Ranks : PySem.W.findIn K (.ref CoRanks) "ways_to" = some (some (.ref fM7Ranks)))
    (ifM7Ranks : PySem.W.isFn K (.ref fM7Ranks) = true)
    (lM7Ranks : K.lookup fM7Ranks = some ⟨ocM7Ranks, odM7Ranks, .func (PySem.W.fnOf "ways_to" "Ranks.ways_to" (defArgs s_Ranks_ways_to) (defBody s_Ranks_ways_to) (defScope s_Ranks_ways_to) .none kVM7Ranks dcM7Ranks pmM7Ranks anM7Ranks cdM7Ranks ctM7Ranks), slM7Ranks⟩)
    (cM7Ranks : PySem.W.codeIn K cdM7Ranks "Ranks.ways_to" = true)
    (kM7Ranks : PySem.W.keepIn K (.ref fM7Ranks) = true)
    (atM8Ranks : PySem.W.findIn K (.ref CoRanks) "some_way" = some (some (.ref fM8Ranks)))
    (ifM8Ranks : PySem.W.isFn K (.ref fM8Ranks) = true)
    (lM8Ranks : K.lookup fM8Ranks = some ⟨ocM8Ranks, odM8Ranks, .func (PySem.W.fnOf "some_way" "Ranks.some_way" (defArgs s_Ranks_some_way) (defBody s_Ranks_some_way) (defScope s_Ranks_some_way) .none kVM8Ranks dcM8Ranks pmM8Ranks anM8Ranks cdM8Ranks ctM8Ranks), slM8Ranks⟩)
    (cM8Ranks : PySem.W.codeIn K cdM8Ranks "Ranks.some_way" = true)
    (kM8Ranks : PySem.W.keepIn K (.ref fM8Ranks) = true)
    (atM10Ranks : PySem.W.findIn K (.ref CoRanks) "is_way" = some (some (.ref fM10Ranks)))
    (ifM10Ranks : PySem.W.isFn K (.ref fM10Ranks) = true)
    (lM10Ranks : K.lookup fM10Ranks = some ⟨ocM10Ranks, odM10Ranks, .func (PySem.W.fnOf "is_way" "Ranks.is_way" (defArgs s_Ranks_is_way) (defBody s_Ranks_is_way) (defScope s_Ranks_is_way) .none kVM10Ranks dcM10Ranks pmM10Ranks anM10Ranks cdM10Ranks ctM10Ranks), slM10Ranks⟩)
    (cM10Ranks : PySem.W.codeIn K cdM10Ranks "Ranks.is_way" = true)
    (kM10Ranks : PySem.W.keepIn K (.ref fM10Ranks) = true)
    (atM11Ranks : PySem.W.findIn K (.ref CoRanks) "children_of" = some (some (.ref fM11Ranks)))
    (ifM11Ranks : PySem.W.isFn K (.ref fM11Ranks) = true)
    (lM11Ranks : K.lookup fM11Ranks = some ⟨ocM11Ranks, odM11Ranks, .func (PySem.W.fnOf "children_of" "Ranks.children_of" (defArgs s_Ranks_children_of) (defBody s_Ranks_children_of) (defScope s_Ranks_children_of) .none kVM11Ranks dcM11Ranks pmM11Ranks anM11Ranks cdM11Ranks ctM11Ranks), slM11Ranks⟩)
    (cM11Ranks : PySem.W.codeIn K cdM11Ranks "Ranks.children_of" = true)
    (kM11Ranks : PySem.W.keepIn K (.ref fM11Ranks) = true)
    (atM12Ranks : PySem.W.findIn K (.ref CoRanks) "__len__" = some (some (.ref fM12Ranks)))
    (ifM12Ranks : PySem.W.isFn K (.ref fM12Ranks) = true)
    (lM12Ranks : K.lookup fM12Ranks = some ⟨ocM12Ranks, odM12Ranks, .func (PySem.W.fnOf "__len__" "Ranks.__len__" (defArgs s_Ranks_len) (defBody s_Ranks_len) (defScope s_Ranks_len) .none kVM12Ranks dcM12Ranks pmM12Ranks anM12Ranks cdM12Ranks ctM12Ranks), slM12Ranks⟩)
    (cM12Ranks : PySem.W.codeIn K cdM12Ranks "Ranks.__len__" = true)
    (kM12Ranks : PySem.W.keepIn K (.ref fM12Ranks) = true)
    (atM13Ranks : PySem.W.findIn K (.ref CoRanks) "__eq__" = some (some (.ref fM13Ranks)))
    (ifM13Ranks : PySem.W.isFn K (.ref fM13Ranks) = true)
    (lM13Ranks : K.lookup fM13Ranks = some ⟨ocM13Ranks, odM13Ranks, .func (PySem.W.fnOf "__eq__" "Ranks.__eq__" (defArgs s_Ranks_eq) (defBody s_Ranks_eq) (defScope s_Ranks_eq) .none kVM13Ranks dcM13Ranks pmM13Ranks anM13Ranks cdM13Ranks ctM13Ranks), slM13Ranks⟩)
    (cM13Ranks : PySem.W.codeIn K cdM13Ranks "Ranks.__eq__" = true)
    (kM13Ranks : PySem.W.keepIn K (.ref fM13Ranks) = true)
    (atM14Ranks : PySem.W.findIn K (.ref CoRanks) "__str__" = some (some (.ref fM14Ranks)))
    (ifM14Ranks : PySem.W.isFn K (.ref fM14Ranks) = true)
    (lM14Ranks : K.lookup fM14Ranks = some ⟨ocM14Ranks, odM14Ranks, .func (PySem.W.fnOf "__str__" "Ranks.__str__" (defArgs s_Ranks_str) (defBody s_Ranks_str) (defScope s_Ranks_str) .none kVM14Ranks dcM14Ranks pmM14Ranks anM14Ranks cdM14Ranks ctM14Ranks), slM14Ranks⟩)
    (cM14Ranks : PySem.W.codeIn K cdM14Ranks "Ranks.__str__" = true)
    (kM14Ranks : PySem.W.keepIn K (.ref fM14Ranks) = true)
    (m0 : PySem.W.nsIn K mainGlobals "MAX_LETTERS" = some (some (.int 8 t0)))
    (m1 : PySem.W.nsIn K mainGlobals "_TOO_LONG" = some (some (.int 1000000000000000000000000000000000000000000000000000000000000 t1)))
    (m2 : PySem.W.nsIn K mainGlobals "MAX_KINDS" = some (some (.int 6 t2)))
    (m3 : PySem.W.nsIn K mainGlobals "MAX_PARTS" = some (some (.int 3 t3)))
    (m4 : PySem.W.nsIn K mainGlobals "MAX_RANK" = some (some (.int 402 t4)))
    (z0 : PySem.W.nsIn K mainGlobals "IndexError" = some none)
    (z1 : PySem.W.nsIn K mainGlobals "KeyError" = some none)
    (z2 : PySem.W.nsIn K mainGlobals "OverflowError" = some none)
    (z3 : PySem.W.nsIn K mainGlobals "TypeError" = some none)
    (z4 : PySem.W.nsIn K mainGlobals "ValueError" = some none)
    (z5 : PySem.W.nsIn K mainGlobals "abs" = some none)
    (z6 : PySem.W.nsIn K mainGlobals "all" = some none)
    (z7 : PySem.W.nsIn K mainGlobals "bool" = some none)
    (z8 : PySem.W.nsIn K mainGlobals "classmethod" = some none)
    (z9 : PySem.W.nsIn K mainGlobals "dict" = some none)
    (z10 : PySem.W.nsIn K mainGlobals "enumerate" = some none)
    (z11 : PySem.W.nsIn K mainGlobals "int" = some none)
    (z12 : PySem.W.nsIn K mainGlobals "isinstance" = some none)
    (z13 : PySem.W.nsIn K mainGlobals "len" = some none)
    (z14 : PySem.W.nsIn K mainGlobals "list" = some none)
    (z15 : PySem.W.nsIn K mainGlobals "max" = some none)
    (z16 : PySem.W.nsIn K mainGlobals "min" = some none)
    (z17 : PySem.W.nsIn K mainGlobals "property" = some none)
    (z18 : PySem.W.nsIn K mainGlobals "range" = some none)
    (z19 : PySem.W.nsIn K mainGlobals "repr" = some none)
    (z20 : PySem.W.nsIn K mainGlobals "set" = some none)
    (z21 : PySem.W.nsIn K mainGlobals "sorted" = some none)
    (z22 : PySem.W.nsIn K mainGlobals "str" = some none)
    (z23 : PySem.W.nsIn K mainGlobals "sum" = some none)
    (z24 : PySem.W.nsIn K mainGlobals "tuple" = some none)
    (z25 : PySem.W.nsIn K mainGlobals "zip" = some none) :
    ∃ fd : FuncData, (∀ (s : Shared) (v : Value), BindsTo s fd ⟨[v], []⟩ [("_law_script", v)]) ∧ ∀ base : Heap, K.In base → base.Ns mainGlobals mg → FnG l.prog w K mg base CX0 11 fa fd ["_law_script"] (spLaw K) := by
  have e := hfa.symm.trans (PySem.W.mg_of X G a33)
  cases e
  have T : Top K mg := {
    p_InvalidOperation := ⟨Cy0, ⟨PySem.W.mg_of X G gy0, ⟨_, _, _, _, _, _, _, _, _, _, _, _, _, _, _, _, hy0, ty0⟩, iy0, ky0⟩, xclsB_ok zy0, exm_own by0 xy0 wy0 ry0⟩
    d_wall := ⟨_, _, fun_mk l0 c0 k0, (fun_mk (st := s_wall) l0 c0 k0).binds (ps := ["k"]) fun _ _ _ _ _ _ us hl => match us, hl with | [_], _ => rfl, PySem.W.mg_of X G a0⟩
    d_is_integer := ⟨_, _, fun_mk l1 c1 k1, (fun_mk (st := s_is_integer) l1 c1 k1).binds (ps := ["value"]) fun _ _ _ _ _ _ us hl => match us, hl with | [_], _ => rfl, PySem.W.mg_of X G a1⟩
    d_is_count := ⟨_, _, fun_mk l2 c2 k2, (fun_mk (st := s_is_count) l2 c2 k2).binds (ps := ["value"]) fun _ _ _ _ _ _ us hl => match us, hl with | [_], _ => rfl, PySem.W.mg_of X G a2⟩
    d_is_name := ⟨_, _, fun_mk l3 c3 k3, (fun_mk (st := s_is_name) l3 c3 k3).binds (ps := ["value"]) fun _ _ _ _ _ _ us hl => match us, hl with | [_], _ => rfl, PySem.W.mg_of X G a3⟩
    d_is_sorted := ⟨_, _, fun_mk l4 c4 k4, kbn_of fun us ws h1 h2 => match us, ws, h1, h2 with | [_], [_], _, _ => by first | rfl | with_unfolding_all rfl, PySem.W.mg_of X G a4⟩
    d_is_making := ⟨_, _, fun_mk l5 c5 k5, (fun_mk (st := s_is_making) l5 c5 k5).binds (ps := ["value"]) fun _ _ _ _ _ _ us hl => match us, hl with | [_], _ => rfl, PySem.W.mg_of X G a5⟩
    d_all_names := ⟨_, _, fun_mk l6 c6 k6, (fun_mk (st := s_all_names) l6 c6 k6).binds (ps := ["leaf", "makings"]) fun _ _ _ _ _ _ us hl => match us, hl with | [_, _], _ => rfl, PySem.W.mg_of X G a6⟩
    d_are_kinds := ⟨_, _, fun_mk l7 c7 k7, (fun_mk (st := s_are_kinds) l7 c7 k7).binds (ps := ["leaf", "makings"]) fun _ _ _ _ _ _ us hl => match us, hl with | [_, _], _ => rfl, PySem.W.mg_of X G a7⟩
    d_check_rank := ⟨_, _, fun_mk l8 c8 k8, (fun_mk (st := s_check_rank) l8 c8 k8).binds (ps := ["rank"]) fun _ _ _ _ _ _ us hl => match us, hl with | [_], _ => rfl, PySem.W.mg_of X G a8⟩
    d_check_place := ⟨_, _, fun_mk l9 c9 k9, (fun_mk (st := s_check_place) l9 c9 k9).binds (ps := ["kinds", "name", "rank"]) fun _ _ _ _ _ _ us hl => match us, hl with | [_, _, _], _ => rfl, PySem.W.mg_of X G a9⟩
    d_kinds_above := ⟨_, _, fun_mk l10 c10 k10, (fun_mk (st := s_kinds_above) l10 c10 k10).binds (ps := ["makings", "existing"]) fun _ _ _ _ _ _ us hl => match us, hl with | [_, _], _ => rfl, PySem.W.mg_of X G a10⟩
    d_kinds_by_rank := ⟨_, _, fun_mk l11 c11 k11, (fun_mk (st := s_kinds_by_rank) l11 c11 k11).binds (ps := ["kinds"]) fun _ _ _ _ _ _ us hl => match us, hl with | [_], _ => rfl, PySem.W.mg_of X G a11⟩
    d_sums_above := ⟨_, _, fun_mk l12 c12 k12, (fun_mk (st := s_sums_above) l12 c12 k12).binds (ps := ["parts_of", "below"]) fun _ _ _ _ _ _ us hl => match us, hl with | [_, _], _ => rfl, PySem.W.mg_of X G a12⟩
    d_sums_by_rank := ⟨_, _, fun_mk l13 c13 k13, (fun_mk (st := s_sums_by_rank) l13 c13 k13).binds (ps := ["leaf", "parts_of", "ranks"]) fun _ _ _ _ _ _ us hl => match us, hl with | [_, _, _], _ => rfl, PySem.W.mg_of X G a13⟩
    d_ways_below := ⟨_, _, fun_mk l14 c14 k14, (fun_mk (st := s_ways_below) l14 c14 k14).binds (ps := ["parts_of", "above"]) fun _ _ _ _ _ _ us hl => match us, hl with | [_, _], _ => rfl, PySem.W.mg_of X G a14⟩
    d_ways_onward := ⟨_, _, fun_mk l15 c15 k15, (fun_mk (st := s_ways_onward) l15 c15 k15).binds (ps := ["parts_of", "names", "rank"]) fun _ _ _ _ _ _ us hl => match us, hl with | [_, _, _], _ => rfl, PySem.W.mg_of X G a15⟩
    d_way_numbered := ⟨_, _, fun_mk l16 c16 k16, (fun_mk (st := s_way_numbered) l16 c16 k16).binds (ps := ["kinds", "onward", "number"]) fun _ _ _ _ _ _ us hl => match us, hl with | [_, _, _], _ => rfl, PySem.W.mg_of X G a16⟩
    d_law_dice := ⟨_, _, fun_mk l17 c17 k17, (fun_mk (st := s_law_dice) l17 c17 k17).binds (ps := ["_law_script", "_law_spot"]) fun _ _ _ _ _ _ us hl => match us, hl with | [_, _], _ => rfl, PySem.W.mg_of X G a17⟩
    d_law_roll := ⟨_, _, fun_mk l18 c18 k18, (fun_mk (st := s_law_roll) l18 c18 k18).binds (ps := ["_law_dice_here", "_law_total"]) fun _ _ _ _ _ _ us hl => match us, hl with | [_, _], _ => rfl, PySem.W.mg_of X G a18⟩
    d_law_pick := ⟨_, _, fun_mk l19 c19 k19, (fun_mk (st := s_law_pick) l19 c19 k19).binds (ps := ["_law_dice_here", "_law_items"]) fun _ _ _ _ _ _ us hl => match us, hl with | [_, _], _ => rfl, PySem.W.mg_of X G a19⟩
    d_law_mixed := ⟨_, _, fun_mk l20 c20 k20, (fun_mk (st := s_law_mixed) l20 c20 k20).binds (ps := ["_law_dice_here", "_law_items"]) fun _ _ _ _ _ _ us hl => match us, hl with | [_, _], _ => rfl, PySem.W.mg_of X G a20⟩
    d_law_sizes := ⟨_, _, fun_mk l21 c21 k21, (fun_mk (st := s_law_sizes) l21 c21 k21).binds (ps := ["_law_plain", "_law_bound"]) fun _ _ _ _ _ _ us hl => match us, hl with | [_, _], _ => rfl, PySem.W.mg_of X G a21⟩
    d_law_without := ⟨_, _, fun_mk l22 c22 k22, (fun_mk (st := s_law_without) l22 c22 k22).binds (ps := ["_law_pool", "_law_parts"]) fun _ _ _ _ _ _ us hl => match us, hl with | [_, _], _ => rfl, PySem.W.mg_of X G a22⟩
    d_law_children := ⟨_, _, fun_mk l23 c23 k23, (fun_mk (st := s_law_children) l23 c23 k23).binds (ps := ["_law_plain", "_law_way"]) fun _ _ _ _ _ _ us hl => match us, hl with | [_, _], _ => rfl, PySem.W.mg_of X G a23⟩
    d_law_drawn_kinds := ⟨_, _, fun_mk l24 c24 k24, (fun_mk (st := s_law_drawn_kinds) l24 c24 k24).binds (ps := ["_law_dice_here", "_law_most"]) fun _ _ _ _ _ _ us hl => match us, hl with | [_, _], _ => rfl, PySem.W.mg_of X G a24⟩
    d_law_kinds_of := ⟨_, _, fun_mk l25 c25 k25, (fun_mk (st := s_law_kinds_of) l25 c25 k25).binds (ps := ["_law_own"]) fun _ _ _ _ _ _ us hl => match us, hl with | [_], _ => rfl, PySem.W.mg_of X G a25⟩
    d_law_as_book := ⟨_, _, fun_mk l26 c26 k26, (fun_mk (st := s_law_as_book) l26 c26 k26).binds (ps := ["_law_own"]) fun _ _ _ _ _ _ us hl => match us, hl with | [_], _ => rfl, PySem.W.mg_of X G a26⟩
    d_law_all_names := ⟨_, _, fun_mk l27 c27 k27, (fun_mk (st := s_law_all_names) l27 c27 k27).binds (ps := ["_law_own"]) fun _ _ _ _ _ _ us hl => match us, hl with | [_], _ => rfl, PySem.W.mg_of X G a27⟩
    d_law_way_fits := ⟨_, _, fun_mk l28 c28 k28, (fun_mk (st := s_law_way_fits) l28 c28 k28).binds (ps := ["_law_own", "_law_sizes_here", "_law_value"]) fun _ _ _ _ _ _ us hl => match us, hl with | [_, _, _], _ => rfl, PySem.W.mg_of X G a28⟩
    d_law_no_children := ⟨_, _, fun_mk l29 c29 k29, (fun_mk (st := s_law_no_children) l29 c29 k29).binds (ps := ["_law_ranks", "_law_value"]) fun _ _ _ _ _ _ us hl => match us, hl with | [_, _], _ => rfl, PySem.W.mg_of X G a29⟩
    d_law_way_right := ⟨_, _, fun_mk l30 c30 k30, (fun_mk (st := s_law_way_right) l30 c30 k30).binds (ps := ["_law_own", "_law_ranks", "_law_way"]) fun _ _ _ _ _ _ us hl => match us, hl with | [_, _, _], _ => rfl, PySem.W.mg_of X G a30⟩
    d_law_near := ⟨_, _, fun_mk l31 c31 k31, (fun_mk (st := s_law_near) l31 c31 k31).binds (ps := ["_law_dice_here", "_law_own", "_law_way"]) fun _ _ _ _ _ _ us hl => match us, hl with | [_, _, _], _ => rfl, PySem.W.mg_of X G a31⟩
    d_law_right := ⟨_, _, fun_mk l32 c32 k32, (fun_mk (st := s_law_right) l32 c32 k32).binds (ps := ["_law_dice_here", "_law_own"]) fun _ _ _ _ _ _ us hl => match us, hl with | [_, _], _ => rfl, PySem.W.mg_of X G a32⟩
    c_Kinds := ⟨CoKinds, { gC := PySem.W.mg_of X G goKinds, cl := ⟨pgoKinds, hdoKinds, pooKinds, saoKinds⟩, ne := neoKinds, ob := oboKinds, kit := kioKinds, kitT := ktoKinds, kitD := kdoKinds, ca := caoKinds, cg := cgoKinds, ct := ctoKinds, kitR := kroKinds, n_leaf := n_leafoKinds, n_makings := n_makingsoKinds, n_names := n_namesoKinds, made := ⟨_, _, ⟨mkoKinds, atM0Kinds, ifM0Kinds, kcoKinds⟩, fun_mk (st := s_Kinds_init) lM0Kinds cM0Kinds kM0Kinds, (fun_mk (st := s_Kinds_init) lM0Kinds cM0Kinds kM0Kinds).binds (ps := ["self", "leaf", "makings"]) fun _ _ _ _ _ _ us hl => match us, hl with | [_, _, _], _ => rfl⟩, p_leaf := ⟨_, _, _, ⟨atM2Kinds, geM2Kinds, taM2Kinds, ⟨_, reM2Kinds⟩⟩, fun_mk (st := s_Kinds_leaf) lM2Kinds cM2Kinds kM2Kinds, (fun_mk (st := s_Kinds_leaf) lM2Kinds cM2Kinds kM2Kinds).binds (ps := ["self"]) fun _ _ _ _ _ _ us hl => match us, hl with | [_], _ => rfl⟩, p_makings := ⟨_, _, _, ⟨atM3Kinds, geM3Kinds, taM3Kinds, ⟨_, reM3Kinds⟩⟩, fun_mk (st := s_Kinds_makings) lM3Kinds cM3Kinds kM3Kinds, (fun_mk (st := s_Kinds_makings) lM3Kinds cM3Kinds kM3Kinds).binds (ps := ["self"]) fun _ _ _ _ _ _ us hl => match us, hl with | [_], _ => rfl⟩, p_names := ⟨_, _, _, ⟨atM4Kinds, geM4Kinds, taM4Kinds, ⟨_, reM4Kinds⟩⟩, fun_mk (st := s_Kinds_names) lM4Kinds cM4Kinds kM4Kinds, (fun_mk (st := s_Kinds_names) lM4Kinds cM4Kinds kM4Kinds).binds (ps := ["self"]) fun _ _ _ _ _ _ us hl => match us, hl with | [_], _ => rfl⟩, m_users := ⟨_, _, fun_mk (st := s_Kinds_users) lM6Kinds cM6Kinds kM6Kinds, ⟨atM6Kinds, ifM6Kinds, kM6Kinds⟩, ((fun_mk (st := s_Kinds_users) lM6Kinds cM6Kinds kM6Kinds).binds (ps := ["self", "name"]) fun _ _ _ _ _ _ us hl => match us, hl with | [_, _], _ => rfl), fn_in lM6Kinds⟩, m_losers := ⟨_, _, fun_mk (st := s_Kinds_losers) lM7Kinds cM7Kinds kM7Kinds, ⟨atM7Kinds, ifM7Kinds, kM7Kinds⟩, ((fun_mk (st := s_Kinds_losers) lM7Kinds cM7Kinds kM7Kinds).binds (ps := ["self", "name", "winner"]) fun _ _ _ _ _ _ us hl => match us, hl with | [_, _, _], _ => rfl), fn_in lM7Kinds⟩, m_contains := ⟨_, _, fun_mk (st := s_Kinds_contains) lM9Kinds cM9Kinds kM9Kinds, ⟨atM9Kinds, ifM9Kinds, kM9Kinds⟩, ((fun_mk (st := s_Kinds_contains) lM9Kinds cM9Kinds kM9Kinds).binds (ps := ["self", "value"]) fun _ _ _ _ _ _ us hl => match us, hl with | [_, _], _ => rfl), fn_in lM9Kinds⟩, m_getitem := ⟨_, _, fun_mk (st := s_Kinds_getitem) lM10Kinds cM10Kinds kM10Kinds, ⟨atM10Kinds, ifM10Kinds, kM10Kinds⟩, ((fun_mk (st := s_Kinds_getitem) lM10Kinds cM10Kinds kM10Kinds).binds (ps := ["self", "name"]) fun _ _ _ _ _ _ us hl => match us, hl with | [_, _], _ => rfl), fn_in lM10Kinds⟩, m_len := ⟨_, _, fun_mk (st := s_Kinds_len) lM12Kinds cM12Kinds kM12Kinds, ⟨atM12Kinds, ifM12Kinds, kM12Kinds⟩, ((fun_mk (st := s_Kinds_len) lM12Kinds cM12Kinds kM12Kinds).binds (ps := ["self"]) fun _ _ _ _ _ _ us hl => match us, hl with | [_], _ => rfl), fn_in lM12Kinds⟩, m_eq := ⟨_, _, fun_mk (st := s_Kinds_eq) lM13Kinds cM13Kinds kM13Kinds, ⟨atM13Kinds, ifM13Kinds, kM13Kinds⟩, ((fun_mk (st := s_Kinds_eq) lM13Kinds cM13Kinds kM13Kinds).binds (ps := ["self", "other"]) fun _ _ _ _ _ _ us hl => match us, hl with | [_, _], _ => rfl), fn_in lM13Kinds⟩, m_str := ⟨_, _, fun_mk (st := s_Kinds_str) lM14Kinds cM14Kinds kM14Kinds, ⟨atM14Kinds, ifM14Kinds, kM14Kinds⟩, ((fun_mk (st := s_Kinds_str) lM14Kinds cM14Kinds kM14Kinds).binds (ps := ["self"]) fun _ _ _ _ _ _ us hl => match us, hl with | [_], _ => rfl), fn_in lM14Kinds⟩ }⟩
    c_Ranks := ⟨CoRanks, { gC := PySem.W.mg_of X G goRanks, cl := ⟨pgoRanks, hdoRanks, pooRanks, saoRanks⟩, ne := neoRanks, ob := oboRanks, kit := kioRanks, kitT := ktoRanks, kitD := kdoRanks, ca := caoRanks, cg := cgoRanks, ct := ctoRanks, kitR := kroRanks, n_kinds := n_kindsoRanks, n_parts_of := n_parts_ofoRanks, n_sizes := n_sizesoRanks, n_ways := n_waysoRanks, n_by_rank := n_by_rankoRanks, n_turn := n_turnoRanks, made := ⟨_, _, ⟨mkoRanks, atM0Ranks, ifM0Ranks, kcoRanks⟩, fun_mk (st := s_Ranks_init) lM0Ranks cM0Ranks kM0Ranks, (fun_mk (st := s_Ranks_init) lM0Ranks cM0Ranks kM0Ranks).binds (ps := ["self", "kinds"]) fun _ _ _ _ _ _ us hl => match us, hl with | [_, _], _ => rfl⟩, p_kinds := ⟨_, _, _, ⟨atM1Ranks, geM1Ranks, taM1Ranks, ⟨_, reM1Ranks⟩⟩, fun_mk (st := s_Ranks_kinds) lM1Ranks cM1Ranks kM1Ranks, (fun_mk (st := s_Ranks_kinds) lM1Ranks cM1Ranks kM1Ranks).binds (ps := ["self"]) fun _ _ _ _ _ _ us hl => match us, hl with | [_], _ => rfl⟩, p_turn := ⟨_, _, _, ⟨atM2Ranks, geM2Ranks, taM2Ranks, ⟨_, reM2Ranks⟩⟩, fun_mk (st := s_Ranks_turn) lM2Ranks cM2Ranks kM2Ranks, (fun_mk (st := s_Ranks_turn) lM2Ranks cM2Ranks kM2Ranks).binds (ps := ["self"]) fun _ _ _ _ _ _ us hl => match us, hl with | [_], _ => rfl⟩, p_period := ⟨_, _, _, ⟨atM3Ranks, geM3Ranks, taM3Ranks, ⟨_, reM3Ranks⟩⟩, fun_mk (st := s_Ranks_period) lM3Ranks cM3Ranks kM3Ranks, (fun_mk (st := s_Ranks_period) lM3Ranks cM3Ranks kM3Ranks).binds (ps := ["self"]) fun _ _ _ _ _ _ us hl => match us, hl with | [_], _ => rfl⟩, m_base_of := ⟨_, _, fun_mk (st := s_Ranks_base_of) lM4Ranks cM4Ranks kM4Ranks, ⟨atM4Ranks, ifM4Ranks, kM4Ranks⟩, ((fun_mk (st := s_Ranks_base_of) lM4Ranks cM4Ranks kM4Ranks).binds (ps := ["self", "rank"]) fun _ _ _ _ _ _ us hl => match us, hl with | [_, _], _ => rfl), fn_in lM4Ranks⟩, m_kinds_at := ⟨_, _, fun_mk (st := s_Ranks_kinds_at) lM5Ranks cM5Ranks kM5Ranks, ⟨atM5Ranks, ifM5Ranks, kM5Ranks⟩, ((fun_mk (st := s_Ranks_kinds_at) lM5Ranks cM5Ranks kM5Ranks).binds (ps := ["self", "rank"]) fun _ _ _ _ _ _ us hl => match us, hl with | [_, _], _ => rfl), fn_in lM5Ranks⟩, m_size_of := ⟨_, _, fun_mk (st := s_Ranks_size_of) lM6Ranks cM6Ranks kM6Ranks, ⟨atM6Ranks, ifM6Ranks, kM6Ranks⟩, ((fun_mk (st := s_Ranks_size_of) lM6Ranks cM6Ranks kM6Ranks).binds (ps := ["self", "name", "rank"]) fun _ _ _ _ _ _ us hl => match us, hl with | [_, _, _], _ => rfl), fn_in lM6Ranks⟩, m_ways_to := ⟨_, _, fun_mk (st := s_Ranks_ways_to) lM7Ranks cM7Ranks kM7Ranks, ⟨atM7Ranks, ifM7Ranks, kM7Ranks⟩, ((fun_mk (st := s_Ranks_ways_to) lM7Ranks cM7Ranks kM7Ranks).binds (ps := ["self", "name", "rank"]) fun _ _ _ _ _ _ us hl => match us, hl with | [_, _, _], _ => rfl), fn_in lM7Ranks⟩, m_some_way := ⟨_, _, fun_mk (st := s_Ranks_some_way) lM8Ranks cM8Ranks kM8Ranks, ⟨atM8Ranks, ifM8Ranks, kM8Ranks⟩, ((fun_mk (st := s_Ranks_some_way) lM8Ranks cM8Ranks kM8Ranks).binds (ps := ["self", "name", "rank", "number"]) fun _ _ _ _ _ _ us hl => match us, hl with | [_, _, _, _], _ => rfl), fn_in lM8Ranks⟩, m_is_way := ⟨_, _, fun_mk (st := s_Ranks_is_way) lM10Ranks cM10Ranks kM10Ranks, ⟨atM10Ranks, ifM10Ranks, kM10Ranks⟩, ((fun_mk (st := s_Ranks_is_way) lM10Ranks cM10Ranks kM10Ranks).binds (ps := ["self", "value"]) fun _ _ _ _ _ _ us hl => match us, hl with | [_, _], _ => rfl), fn_in lM10Ranks⟩, m_children_of := ⟨_, _, fun_mk (st := s_Ranks_children_of) lM11Ranks cM11Ranks kM11Ranks, ⟨atM11Ranks, ifM11Ranks, kM11Ranks⟩, ((fun_mk (st := s_Ranks_children_of) lM11Ranks cM11Ranks kM11Ranks).binds (ps := ["self", "way"]) fun _ _ _ _ _ _ us hl => match us, hl with | [_, _], _ => rfl), fn_in lM11Ranks⟩, m_len := ⟨_, _, fun_mk (st := s_Ranks_len) lM12Ranks cM12Ranks kM12Ranks, ⟨atM12Ranks, ifM12Ranks, kM12Ranks⟩, ((fun_mk (st := s_Ranks_len) lM12Ranks cM12Ranks kM12Ranks).binds (ps := ["self"]) fun _ _ _ _ _ _ us hl => match us, hl with | [_], _ => rfl), fn_in lM12Ranks⟩, m_eq := ⟨_, _, fun_mk (st := s_Ranks_eq) lM13Ranks cM13Ranks kM13Ranks, ⟨atM13Ranks, ifM13Ranks, kM13Ranks⟩, ((fun_mk (st := s_Ranks_eq) lM13Ranks cM13Ranks kM13Ranks).binds (ps := ["self", "other"]) fun _ _ _ _ _ _ us hl => match us, hl with | [_, _], _ => rfl), fn_in lM13Ranks⟩, m_str := ⟨_, _, fun_mk (st := s_Ranks_str) lM14Ranks cM14Ranks kM14Ranks, ⟨atM14Ranks, ifM14Ranks, kM14Ranks⟩, ((fun_mk (st := s_Ranks_str) lM14Ranks cM14Ranks kM14Ranks).binds (ps := ["self"]) fun _ _ _ _ _ _ us hl => match us, hl with | [_], _ => rfl), fn_in lM14Ranks⟩ }⟩
    g_MAX_LETTERS := ⟨_, PySem.W.mg_of X G m0⟩
    g__TOO_LONG := ⟨_, PySem.W.mg_of X G m1⟩
    g_MAX_KINDS := ⟨_, PySem.W.mg_of X G m2⟩
    g_MAX_PARTS := ⟨_, PySem.W.mg_of X G m3⟩
    g_MAX_RANK := ⟨_, PySem.W.mg_of X G m4⟩
    b_IndexError := PySem.W.mg_none_of X G z0
    b_KeyError := PySem.W.mg_none_of X G z1
    b_OverflowError := PySem.W.mg_none_of X G z2
    b_TypeError := PySem.W.mg_none_of X G z3
    b_ValueError := PySem.W.mg_none_of X G z4
    b_abs := PySem.W.mg_none_of X G z5
    b_all := PySem.W.mg_none_of X G z6
    b_bool := PySem.W.mg_none_of X G z7
    b_classmethod := PySem.W.mg_none_of X G z8
    b_dict := PySem.W.mg_none_of X G z9
    b_enumerate := PySem.W.mg_none_of X G z10
    b_int := PySem.W.mg_none_of X G z11
    b_isinstance := PySem.W.mg_none_of X G z12
    b_len := PySem.W.mg_none_of X G z13
    b_list := PySem.W.mg_none_of X G z14
    b_max := PySem.W.mg_none_of X G z15
    b_min := PySem.W.mg_none_of X G z16
    b_property := PySem.W.mg_none_of X G z17
    b_range := PySem.W.mg_none_of X G z18
    b_repr := PySem.W.mg_none_of X G z19
    b_set := PySem.W.mg_none_of X G z20
    b_sorted := PySem.W.mg_none_of X G z21
    b_str := PySem.W.mg_none_of X G z22
    b_sum := PySem.W.mg_none_of X G z23
    b_tuple := PySem.W.mg_none_of X G z24
    b_zip := PySem.W.mg_none_of X G z25 }
  exact ⟨PySem.W.fnOf "law" "law" (defArgs s_law) (defBody s_law) (defScope s_law) .none kV33 dc33 pm33 an33 cd33 ct33, fun s v => .of_eq rfl, fun base _ _ => ok_law (fun_mk (st := s_law) l33 c33 k33) T⟩
end Kl
open PySem PySem.W PyProof.Rows
set_option maxHeartbeats 0 in
theorem PySem.Challenge.cw_linkbooks_k11_whole_trees_opened_along_w_holds : PySem.Challenge.rw_linkbooks_k11_whole_trees_opened_along_w.Holds := by
  w_on; o_law; k_head; (case hw => w_witness2)
  k_fill
  refine Gx.walkG (l := PySem.Challenge.rw_linkbooks_k11_whole_trees_opened_along_w) (n := 63) (k := 11) (x := "_law_script") (CX := fun _ => L2.CX0) (sp := fun w => Kl.spLaw _) rfl (by decide) rfl ⟨rfl, by decide, by decide⟩ (fun w h Y => PySem.W.kIn_of Y) ?F (fun _ _ a ns hl _ hS => ⟨a, ns, rfl, hS, hl, fun _ => rfl⟩) (fun _ _ _ _ _ h => h)
  case F =>
    intro w mg fa h KX G hmg
    refine' Kl.all_mk KX G hmg ?gy0 ?hy0 ?ty0 ?iy0 ?ky0 ?by0 ?wy0 ?xy0 ?ry0 ?zy0 ?a0 ?l0 ?c0 ?k0 ?a1 ?l1 ?c1 ?k1 ?a2 ?l2 ?c2 ?k2 ?a3 ?l3 ?c3 ?k3 ?a4 ?l4 ?c4 ?k4 ?a5 ?l5 ?c5 ?k5 ?a6 ?l6 ?c6 ?k6 ?a7 ?l7 ?c7 ?k7 ?a8 ?l8 ?c8 ?k8 ?a9 ?l9 ?c9 ?k9 ?a10 ?l10 ?c10 ?k10 ?a11 ?l11 ?c11 ?k11 ?a12 ?l12 ?c12 ?k12 ?a13 ?l13 ?c13 ?k13 ?a14 ?l14 ?c14 ?k14 ?a15 ?l15 ?c15 ?k15 ?a16 ?l16 ?c16 ?k16 ?a17 ?l17 ?c17 ?k17 ?a18 ?l18 ?c18 ?k18 ?a19 ?l19 ?c19 ?k19 ?a20 ?l20 ?c20 ?k20 ?a21 ?l21 ?c21 ?k21 ?a22 ?l22 ?c22 ?k22 ?a23 ?l23 ?c23 ?k23 ?a24 ?l24 ?c24 ?k24 ?a25 ?l25 ?c25 ?k25 ?a26 ?l26 ?c26 ?k26 ?a27 ?l27 ?c27 ?k27 ?a28 ?l28 ?c28 ?k28 ?a29 ?l29 ?c29 ?k29 ?a30 ?l30 ?c30 ?k30 ?a31 ?l31 ?c31 ?k31 ?a32 ?l32 ?c32 ?k32 ?a33 ?l33 ?c33 ?k33 ?goKinds ?pgoKinds ?hdoKinds ?pooKinds ?saoKinds ?mkoKinds ?kcoKinds ?neoKinds ?oboKinds ?kioKinds ?ktoKinds ?kdoKinds ?kroKinds ?caoKinds ?cgoKinds ?ctoKinds ?n_leafoKinds ?n_makingsoKinds ?n_namesoKinds ?atM0Kinds ?ifM0Kinds ?lM0Kinds ?cM0Kinds ?kM0Kinds ?atM2Kinds ?geM2Kinds ?taM2Kinds ?reM2Kinds ?lM2Kinds ?cM2Kinds ?kM2Kinds ?atM3Kinds ?geM3Kinds ?taM3Kinds ?reM3Kinds ?lM3Kinds ?cM3Kinds ?kM3Kinds ?atM4Kinds ?geM4Kinds ?taM4Kinds ?reM4Kinds ?lM4Kinds ?cM4Kinds ?kM4Kinds ?atM6Kinds ?ifM6Kinds ?lM6Kinds ?cM6Kinds ?kM6Kinds ?atM7Kinds ?ifM7Kinds ?lM7Kinds ?cM7Kinds ?kM7Kinds ?atM9Kinds ?ifM9Kinds ?lM9Kinds ?cM9Kinds ?kM9Kinds ?atM10Kinds ?ifM10Kinds ?lM10Kinds ?cM10Kinds ?kM10Kinds ?atM12Kinds ?ifM12Kinds ?lM12Kinds ?cM12Kinds ?kM12Kinds ?atM13Kinds ?ifM13Kinds ?lM13Kinds ?cM13Kinds ?kM13Kinds ?atM14Kinds ?ifM14Kinds ?lM14Kinds ?cM14Kinds ?kM14Kinds ?goRanks ?pgoRanks ?hdoRanks ?pooRanks ?saoRanks ?mkoRanks ?kcoRanks ?neoRanks ?oboRanks ?kioRanks ?ktoRanks ?kdoRanks ?kroRanks ?caoRanks ?cgoRanks ?ctoRanks ?n_kindsoRanks ?n_parts_ofoRanks ?n_sizesoRanks ?n_waysoRanks ?n_by_rankoRanks ?n_turnoRanks ?atM0Ranks ?ifM0Ranks ?lM0Ranks ?cM0Ranks ?kM0Ranks ?atM1Ranks ?geM1Ranks ?taM1Ranks ?reM1Ranks ?lM1Ranks ?cM1Ranks ?kM1Ranks ?atM2Ranks ?geM2Ranks ?taM2Ranks ?reM2Ranks ?lM2Ranks ?cM2Ranks ?kM2Ranks ?atM3Ranks ?geM3Ranks ?taM3Ranks ?reM3Ranks ?lM3Ranks ?cM3Ranks ?kM3Ranks ?atM4Ranks ?ifM4Ranks ?lM4Ranks ?cM4Ranks ?kM4Ranks ?atM5Ranks ?ifM5Ranks ?lM5Ranks ?cM5Ranks ?kM5Ranks ?atM6Ranks ?ifM6Ranks ?lM6Ranks ?cM6Ranks ?kM6Ranks ?atM7Ranks ?ifM7Ranks ?lM7Ranks ?cM7Ranks ?kM7Ranks ?atM8Ranks ?ifM8Ranks ?lM8Ranks ?cM8Ranks ?kM8Ranks ?atM10Ranks ?ifM10Ranks ?lM10Ranks ?cM10Ranks ?kM10Ranks ?atM11Ranks ?ifM11Ranks ?lM11Ranks ?cM11Ranks ?kM11Ranks ?atM12Ranks ?ifM12Ranks ?lM12Ranks ?cM12Ranks ?kM12Ranks ?atM13Ranks ?ifM13Ranks ?lM13Ranks ?cM13Ranks ?kM13Ranks ?atM14Ranks ?ifM14Ranks ?lM14Ranks ?cM14Ranks ?kM14Ranks ?m0 ?m1 ?m2 ?m3 ?m4 ?z0 ?z1 ?z2 ?z3 ?z4 ?z5 ?z6 ?z7 ?z8 ?z9 ?z10 ?z11 ?z12 ?z13 ?z14 ?z15 ?z16 ?z17 ?z18 ?z19 ?z20 ?z21 ?z22 ?z23 ?z24 ?z25
    (case gy0 => k_is); (case hy0 => k_is); (case ty0 => decide +kernel); (case iy0 => k_is); (case ky0 => k_is); (case by0 => k_is); (case wy0 => k_is); (case xy0 => k_is); (case ry0 => first | rfl | k_is); (case zy0 => kernel_rfl); (case a0 => k_is); (case l0 => k_is); (case c0 => k_is); (case k0 => k_is); (case a1 => k_is); (case l1 => k_is); (case c1 => k_is); (case k1 => k_is); (case a2 => k_is); (case l2 => k_is); (case c2 => k_is); (case k2 => k_is); (case a3 => k_is); (case l3 => k_is); (case c3 => k_is); (case k3 => k_is); (case a4 => k_is); (case l4 => k_is); (case c4 => k_is); (case k4 => k_is); (case a5 => k_is); (case l5 => k_is); (case c5 => k_is); (case k5 => k_is); (case a6 => k_is); (case l6 => k_is); (case c6 => k_is); (case k6 => k_is); (case a7 => k_is); (case l7 => k_is); (case c7 => k_is); (case k7 => k_is); (case a8 => k_is); (case l8 => k_is); (case c8 => k_is); (case k8 => k_is); (case a9 => k_is); (case l9 => k_is); (case c9 => k_is); (case k9 => k_is); (case a10 => k_is); (case l10 => k_is); (case c10 => k_is); (case k10 => k_is); (case a11 => k_is); (case l11 => k_is); (case c11 => k_is); (case k11 => k_is); (case a12 => k_is); (case l12 => k_is); (case c12 => k_is); (case k12 => k_is); (case a13 => k_is); (case l13 => k_is); (case c13 => k_is); (case k13 => k_is); (case a14 => k_is); (case l14 => k_is); (case c14 => k_is); (case k14 => k_is); (case a15 => k_is); (case l15 => k_is); (case c15 => k_is); (case k15 => k_is); (case a16 => k_is); (case l16 => k_is); (case c16 => k_is); (case k16 => k_is); (case a17 => k_is); (case l17 => k_is); (case c17 => k_is); (case k17 => k_is); (case a18 => k_is); (case l18 => k_is); (case c18 => k_is); (case k18 => k_is); (case a19 => k_is); (case l19 => k_is); (case c19 => k_is); (case k19 => k_is); (case a20 => k_is); (case l20 => k_is); (case c20 => k_is); (case k20 => k_is); (case a21 => k_is); (case l21 => k_is); (case c21 => k_is); (case k21 => k_is); (case a22 => k_is); (case l22 => k_is); (case c22 => k_is); (case k22 => k_is); (case a23 => k_is); (case l23 => k_is); (case c23 => k_is); (case k23 => k_is); (case a24 => k_is); (case l24 => k_is); (case c24 => k_is); (case k24 => k_is); (case a25 => k_is); (case l25 => k_is); (case c25 => k_is); (case k25 => k_is); (case a26 => k_is); (case l26 => k_is); (case c26 => k_is); (case k26 => k_is); (case a27 => k_is); (case l27 => k_is); (case c27 => k_is); (case k27 => k_is); (case a28 => k_is); (case l28 => k_is); (case c28 => k_is); (case k28 => k_is); (case a29 => k_is); (case l29 => k_is); (case c29 => k_is); (case k29 => k_is); (case a30 => k_is); (case l30 => k_is); (case c30 => k_is); (case k30 => k_is); (case a31 => k_is); (case l31 => k_is); (case c31 => k_is); (case k31 => k_is); (case a32 => k_is); (case l32 => k_is); (case c32 => k_is); (case k32 => k_is); (case a33 => k_is); (case l33 => k_is); (case c33 => k_is); (case k33 => k_is); (case goKinds => k_is); (case pgoKinds => k_is); (case hdoKinds => k_is); (case pooKinds => k_is); (case saoKinds => k_is); (case mkoKinds => k_is); (case kcoKinds => k_is); (case neoKinds => k_is); (case oboKinds => k_is); (case kioKinds => first | rfl | k_is); (case ktoKinds => first | rfl | k_is); (case kdoKinds => first | rfl | k_is); (case kroKinds => first | rfl | k_is); (case caoKinds => k_is); (case cgoKinds => k_is); (case ctoKinds => k_is); (case n_leafoKinds => k_is); (case n_makingsoKinds => k_is); (case n_namesoKinds => k_is); (case atM0Kinds => k_is); (case ifM0Kinds => k_is); (case lM0Kinds => k_is); (case cM0Kinds => k_is); (case kM0Kinds => k_is); (case atM2Kinds => k_is); (case geM2Kinds => k_is); (case taM2Kinds => k_is); (case reM2Kinds => k_is); (case lM2Kinds => k_is); (case cM2Kinds => k_is); (case kM2Kinds => k_is); (case atM3Kinds => k_is); (case geM3Kinds => k_is); (case taM3Kinds => k_is); (case reM3Kinds => k_is); (case lM3Kinds => k_is); (case cM3Kinds => k_is); (case kM3Kinds => k_is); (case atM4Kinds => k_is); (case geM4Kinds => k_is); (case taM4Kinds => k_is); (case reM4Kinds => k_is); (case lM4Kinds => k_is); (case cM4Kinds => k_is); (case kM4Kinds => k_is); (case atM6Kinds => k_is); (case ifM6Kinds => k_is); (case lM6Kinds => k_is); (case cM6Kinds => k_is); (case kM6Kinds => k_is); (case atM7Kinds => k_is); (case ifM7Kinds => k_is); (case lM7Kinds => k_is); (case cM7Kinds => k_is); (case kM7Kinds => k_is); (case atM9Kinds => k_is); (case ifM9Kinds => k_is); (case lM9Kinds => k_is); (case cM9Kinds => k_is); (case kM9Kinds => k_is); (case atM10Kinds => k_is); (case ifM10Kinds => k_is); (case lM10Kinds => k_is); (case cM10Kinds => k_is); (case kM10Kinds => k_is); (case atM12Kinds => k_is); (case ifM12Kinds => k_is); (case lM12Kinds => k_is); (case cM12Kinds => k_is); (case kM12Kinds => k_is); (case atM13Kinds => k_is); (case ifM13Kinds => k_is); (case lM13Kinds => k_is); (case cM13Kinds => k_is); (case kM13Kinds => k_is); (case atM14Kinds => k_is); (case ifM14Kinds => k_is); (case lM14Kinds => k_is); (case cM14Kinds => k_is); (case kM14Kinds => k_is); (case goRanks => k_is); (case pgoRanks => k_is); (case hdoRanks => k_is); (case pooRanks => k_is); (case saoRanks => k_is); (case mkoRanks => k_is); (case kcoRanks => k_is); (case neoRanks => k_is); (case oboRanks => k_is); (case kioRanks => first | rfl | k_is); (case ktoRanks => first | rfl | k_is); (case kdoRanks => first | rfl | k_is); (case kroRanks => first | rfl | k_is); (case caoRanks => k_is); (case cgoRanks => k_is); (case ctoRanks => k_is); (case n_kindsoRanks => k_is); (case n_parts_ofoRanks => k_is); (case n_sizesoRanks => k_is); (case n_waysoRanks => k_is); (case n_by_rankoRanks => k_is); (case n_turnoRanks => k_is); (case atM0Ranks => k_is); (case ifM0Ranks => k_is); (case lM0Ranks => k_is); (case cM0Ranks => k_is); (case kM0Ranks => k_is); (case atM1Ranks => k_is); (case geM1Ranks => k_is); (case taM1Ranks => k_is); (case reM1Ranks => k_is); (case lM1Ranks => k_is); (case cM1Ranks => k_is); (case kM1Ranks => k_is); (case atM2Ranks => k_is); (case geM2Ranks => k_is); (case taM2Ranks => k_is); (case reM2Ranks => k_is); (case lM2Ranks => k_is); (case cM2Ranks => k_is); (case kM2Ranks => k_is); (case atM3Ranks => k_is); (case geM3Ranks => k_is); (case taM3Ranks => k_is); (case reM3Ranks => k_is); (case lM3Ranks => k_is); (case cM3Ranks => k_is); (case kM3Ranks => k_is); (case atM4Ranks => k_is); (case ifM4Ranks => k_is); (case lM4Ranks => k_is); (case cM4Ranks => k_is); (case kM4Ranks => k_is); (case atM5Ranks => k_is); (case ifM5Ranks => k_is); (case lM5Ranks => k_is); (case cM5Ranks => k_is); (case kM5Ranks => k_is); (case atM6Ranks => k_is); (case ifM6Ranks => k_is); (case lM6Ranks => k_is); (case cM6Ranks => k_is); (case kM6Ranks => k_is); (case atM7Ranks => k_is); (case ifM7Ranks => k_is); (case lM7Ranks => k_is); (case cM7Ranks => k_is); (case kM7Ranks => k_is); (case atM8Ranks => k_is); (case ifM8Ranks => k_is); (case lM8Ranks => k_is); (case cM8Ranks => k_is); (case kM8Ranks => k_is); (case atM10Ranks => k_is); (case ifM10Ranks => k_is); (case lM10Ranks => k_is); (case cM10Ranks => k_is); (case kM10Ranks => k_is); (case atM11Ranks => k_is); (case ifM11Ranks => k_is); (case lM11Ranks => k_is); (case cM11Ranks => k_is); (case kM11Ranks => k_is); (case atM12Ranks => k_is); (case ifM12Ranks => k_is); (case lM12Ranks => k_is); (case cM12Ranks => k_is); (case kM12Ranks => k_is); (case atM13Ranks => k_is); (case ifM13Ranks => k_is); (case lM13Ranks => k_is); (case cM13Ranks => k_is); (case kM13Ranks => k_is); (case atM14Ranks => k_is); (case ifM14Ranks => k_is); (case lM14Ranks => k_is); (case cM14Ranks => k_is); (case kM14Ranks => k_is); (case m0 => k_is); (case m1 => k_is); (case m2 => k_is); (case m3 => k_is); (case m4 => k_is); (case z0 => k_is); (case z1 => k_is); (case z2 => k_is); (case z3 => k_is); (case z4 => k_is); (case z5 => k_is); (case z6 => k_is); (case z7 => k_is); (case z8 => k_is); (case z9 => k_is); (case z10 => k_is); (case z11 => k_is); (case z12 => k_is); (case z13 => k_is); (case z14 => k_is); (case z15 => k_is); (case z16 => k_is); (case z17 => k_is); (case z18 => k_is); (case z19 => k_is); (case z20 => k_is); (case z21 => k_is); (case z22 => k_is); (case z23 => k_is); (case z24 => k_is); (case z25 => k_is)
