import PyProof.Rows.All
import Wide.All
import OpenK.AllK
import Wide.FinOn
import KE.KCallOwn
import KE.KEqDict
import PyProof.InstEq
import HandS.Base
import HandS.Call
import HandS.List
import HandS.Dict
import HandS.More
import HandS.Comp
import HandS.Words
import HandS.Property
import HandS.IsInst
import PyProof.Rows.SortShellAny
import PyProof.Rows.SetFrom
import HandS.Set
import PyProof.Rows.StrCountLaw
import HandS.ForMost
import HandS.Wide
import HandS.StrMore
import HandS.Style
import PyProof.ReprReads
import HandS.Ends
import PyProof.ReprRoads
import PyProof.TupleOfSeq
import KE.KExcInit
import HandS.ForExc
import HandS.TryMany
import HandS.Defaults
import HandS.Deep
import HandS.ExcValue
import KE.KExcMake
import KE.KExcIs
import HandS.Lambda
import HandS.EndBits
import KE.KNest
import HandS.Walk
import HandS.FStr
import HandS.DictComp
import HandS.ListItems
import HandS.TupAny
import HandS.Star
import HandS.Strs
import HandS.Flow
import PyProof.SliceList
import PyProof.AssignAttr
import HandS.ClsMeth
import HandS.RaiseMore
import HandS.WordsDict
import KE.SortCalls
import HandS.Text
import PyProof.StrOps2
import KE.KExcLine
import PySem.Challenge.RW_linkbooks_k77_plans_told
set_option Elab.async false
set_option linter.all false
set_option maxRecDepth 100000
set_option maxHeartbeats 4000000
namespace Gx
open PySem PySem.Spec PySem.Calls PyProof.Rows L2
/-! ### own protocols: in, [], len, str, == and != of instances -/
theorem rel_ref (a : Addr) : RelV (V.ref a) (Value.ref a) := rfl
/-- a method of the class at C that keeps the promise sp, by at most level k -/
def CalM (P : Program) (w : World) (K : PySem.W.Frag) (mg : Str → Option Value) (base : Heap) (C : Addr) (m : Str) (k : Nat) (ps : List Str) (sp : Sp) : Prop :=
  ∃ (f : Addr) (fd : FuncData), FnOk P w K mg base CX0 k f fd ps sp ∧ Meth K C m f ∧ Binds K fd ps [] ∧ PySem.W.fnIn K f = true
theorem CalM.mono {P : Program} {w : World} {K : PySem.W.Frag} {mg : Str → Option Value} {base : Heap} {C : Addr} {m : Str} {j k : Nat} {ps : List Str} {sp : Sp} (c : CalM P w K mg base C m j ps sp) (h : j ≤ k) : CalM P w K mg base C m k ps sp := by
  obtain ⟨f, fd, F, more⟩ := c
  exact ⟨f, fd, F.mono h, more⟩
section
variable {X : Cx} {C : Addr} {k : Nat} {ps : List Str} {sp : Sp} {m : Str}
/-- the method runs, somewhere below the body -/
theorem run_below {f : Addr} {fd : FuncData} {A : Around} {pins : List (Addr × Obj)} {σ : L2.St} {H : Hp} {s : Shared} {us : List Value} {vs : List V} {Q : VK} {E : Value → Shared → Prop} (F : FnOk X.prog X.w X.K X.mg X.base CX0 k f fd ps sp) (room : Room k A) (fr : A.frames = X.A.frames) (b : Binds X.K fd ps [])
    (I : Inv X pins σ H s) (r : Vals vs us) (want : sp vs H Q E0) : wpAny (model X.prog X.w) A (call (.ref f) us) (EP X pins σ Q) E s := by
  have e0 : Env0 X.prog X.w X.K X.mg X.base A X.stack s H := by
    have e := I.env0
    exact ⟨by rw [fr]; exact e.frames, e.mod, e.bs, e.bsz, e.funs, e.frf, e.hok, e.bare⟩
  have hl : us.length = ps.length := r.length.symm.trans (F.len _ _ _ _ want)
  have bt : BindsTo s fd ⟨us, []⟩ (ps.zip us) := by
    have q := b s us I.kIn (by rw [List.append_nil]; exact hl)
    rw [List.append_nil] at q
    exact q
  refine wpAny_call (codeAny_mono (F.run A X.stack s H ⟨us, []⟩ us vs Q E0 room e0 bt r want) fun res s' hres => ?_)
  match res, hres with
  | .error e, hres => exact hres.elim
  | .ok (.ret u), hres => exact I.after hres
/-- x in o, x not in o -/
def rInM (C : Addr) (sp : Sp) (neg : Bool) : R2 := fun x y H Q => ∃ a dx fs, y = .ref a ∧ H a = some (.ins C dx fs) ∧ sp [.ref a, x] H (fun v H' => ∃ b, v = .bl b ∧ Q (.bl (if neg then !b else b)) H') E0
theorem op_inM (c : CalM X.prog X.w X.K X.mg X.base C "__contains__" k ps sp) (hr : Room k X.A) : OpR X (compareOp .In) (rInM C sp false) := by
  intro pins s σ H x y v u Q I rx ry h
  obtain ⟨f, fd, F, me, b, _⟩ := c
  obtain ⟨a, dx, fs, rfl, ea, q⟩ := h
  obtain rfl : u = Value.ref a := ry
  obtain ⟨mA, O, _⟩ := ins_get I.hok ea
  obtain ⟨od, J, _⟩ := O.look
  obtain ⟨mm, hF⟩ := I.fr
  refine PySem.W.in_K hF I.ok.mod.kin J me.at_ me.fn (wpAny_mono (run_below F hr rfl b I (.cons (rel_ref a) (.cons rx .nil)) q) (fun r s' z => ?_) fun _ _ e => e)
  obtain ⟨v', H', I', rv, t, rfl, q'⟩ := z
  cases rv
  exact wpAny_truthy_bool ⟨.bl t, H', I', rfl, q'⟩
theorem op_notinM (c : CalM X.prog X.w X.K X.mg X.base C "__contains__" k ps sp) (hr : Room k X.A) : OpR X (compareOp .NotIn) (rInM C sp true) := by
  intro pins s σ H x y v u Q I rx ry h
  obtain ⟨f, fd, F, me, b, _⟩ := c
  obtain ⟨a, dx, fs, rfl, ea, q⟩ := h
  obtain rfl : u = Value.ref a := ry
  obtain ⟨mA, O, _⟩ := ins_get I.hok ea
  obtain ⟨od, J, _⟩ := O.look
  obtain ⟨mm, hF⟩ := I.fr
  refine PySem.W.notIn_K hF I.ok.mod.kin J me.at_ me.fn (wpAny_mono (run_below F hr rfl b I (.cons (rel_ref a) (.cons rx .nil)) q) (fun r s' z => ?_) fun _ _ e => e)
  obtain ⟨v', H', I', rv, t, rfl, q'⟩ := z
  cases rv
  exact wpAny_truthy_bool ⟨.bl (!t), H', I', rfl, q'⟩
/-- o[x] -/
def rIxM (C : Addr) (sp : Sp) : R2 := fun x y H Q => ∃ a dx fs, x = .ref a ∧ H a = some (.ins C dx fs) ∧ sp [.ref a, y] H Q E0
theorem pe_ixM {a b : Expr} {ta tb : TE} {pos : Pos} (c : CalM X.prog X.w X.K X.mg X.base C "__getitem__" k ps sp) (hr : Room (k + 1) X.A) (ha : PE X a ta) (hb : PE X b tb)
    (hs : ∀ v u, subscripted b true v u = runValue (.builtin "lifetime.subscript" ⟨[v, u], []⟩)) : PE X (.Subscript a b pos) (tOp (rIxM C sp) ta tb) := by
  obtain ⟨f, fd, F, me, bi, fi⟩ := c
  refine ⟨fun pins s σ H Q I h => ?_⟩
  refine Subscript_ (binT ha hb I h fun v u s2 x y H2 I2 rx ry q => ?_)
  obtain ⟨p, dx, fs, rfl, ea, q⟩ := q
  obtain rfl : v = Value.ref p := rx
  obtain ⟨mA, O, _⟩ := ins_get I2.hok ea
  obtain ⟨od, J, _⟩ := O.look
  obtain ⟨mm, hF⟩ := I2.fr
  exact PySem.W.sub_K hF I2.ok.mod.kin J me.at_ fi me.fn (run_below F hr.in1 rfl bi I2 (.cons (rel_ref _) (.cons ry .nil)) q) (hs _ _)
/-- len(o) -/
def rLenM (C : Addr) (sp : Sp) : List V → Hp → VK → Prop := fun vs H Q => ∃ a dx fs, vs = [.ref a] ∧ H a = some (.ins C dx fs) ∧ sp [.ref a] H (fun v H' => ∃ n : Nat, v = .int n ∧ n ≤ 1000000 ∧ Q (.int n) H') E0
theorem call_lenM (c : CalM X.prog X.w X.K X.mg X.base C "__len__" k ps sp) (hr : Room (k + 1) X.A) : CallR X (.builtin "len") (rLenM C sp) := by
  intro pins s σ H xs us Q I r h
  obtain ⟨f, fd, F, me, b, _⟩ := c
  obtain ⟨a, dx, fs, rfl, ea, q⟩ := h
  rw [Vals.ref1 r]
  obtain ⟨mA, O, _⟩ := ins_get I.hok ea
  obtain ⟨od, J, _⟩ := O.look
  obtain ⟨mm, hF⟩ := I.fr
  refine PySem.W.len_K hF I.ok.mod.kin J me.at_ me.fn (wpAny_mono (run_below F hr.in1 rfl b I (.cons (rel_ref a) .nil) q) (fun r s' z => ?_) fun _ _ e => e)
  obtain ⟨v', H', I', rv, n, rfl, hn, q'⟩ := z
  obtain ⟨t, rfl⟩ := (show ∃ t, r = Value.int n t from rv)
  exact ⟨⟨by omega, by omega⟩, .int n, H', I'.tok _, ⟨_, rfl⟩, q'⟩
/-- str(o) -/
def rStrM (C : Addr) (sp : Sp) : List V → Hp → VK → Prop := fun vs H Q => ∃ a dx fs, vs = [.ref a] ∧ H a = some (.ins C dx fs) ∧ sp [.ref a] H (fun v H' => ∃ z : Str, v = .str z ∧ Q (.str z) H') E0
theorem call_strM (c : CalM X.prog X.w X.K X.mg X.base C "__str__" k ps sp) (hr : Room (k + 2) X.A) : CallR X (.type "str") (rStrM C sp) := by
  intro pins s σ H xs us Q I r h
  obtain ⟨f, fd, F, me, b, _⟩ := c
  obtain ⟨a, dx, fs, rfl, ea, q⟩ := h
  rw [Vals.ref1 r]
  obtain ⟨mA, O, _⟩ := ins_get I.hok ea
  obtain ⟨od, J, _⟩ := O.look
  have r2 : Room k X.A.in1.in1 := (hr.in1).in1
  refine PySem.W.kso_call r2.units0 I.kIn J me.at_ me.fn (wpAny_mono (run_below F r2 rfl b I (.cons (rel_ref a) .nil) q) (fun r s' z => ?_) fun _ _ e => e)
  obtain ⟨v', H', I', rv, y, rfl, q'⟩ := z
  obtain ⟨t, rfl⟩ := (show ∃ t, r = Value.str y t from rv)
  exact ⟨.str y, H', I', ⟨_, rfl⟩, q'⟩
/-- what an instance of the class at C may be compared with: another one, a tuple, a dict -/
inductive Oth (K : PySem.W.Frag) (H : Hp) (C : Addr) : V → Value → Prop
  | ins {a dx : Addr} {fs : List (Str × V)} (e : H a = some (.ins C dx fs)) : Oth K H C (.ref a) (.ref C)
  | tup {a : Addr} {xs : List V} (e : SqT K H a xs) : Oth K H C (.ref a) (.type "tuple")
  | dict {a : Addr} {kvs : List (Key × V)} (e : H a = some (.dK kvs)) : Oth K H C (.ref a) (.type "dict")
theorem sub_tuple_own {K : PySem.W.Frag} {C : Addr} : PySem.W.subIn K (.type "tuple") (.ref C) = some false := by
  have e : fastBuiltinMro "tuple" = some [.type "tuple", .type "object"] := by decide +kernel
  show (fastBuiltinMro "tuple").map (·.contains (.ref C)) = some false
  rw [e]
  first
    | rfl
    | simp
theorem sub_dict_own {K : PySem.W.Frag} {C : Addr} : PySem.W.subIn K (.type "dict") (.ref C) = some false := by
  have e : fastBuiltinMro "dict" = some [.type "dict", .type "object"] := by decide +kernel
  show (fastBuiltinMro "dict").map (·.contains (.ref C)) = some false
  rw [e]
  first
    | rfl
    | simp
theorem Oth.looks {M : Model} {pins : List (Addr × Obj)} {σ : L2.St} {H : Hp} {s : Shared} {y : V} {u t : Value} (I : Inv X pins σ H s) (o : Oth X.K H C y t) (r : RelV y u) :
    PySem.W.Looks M s.heap (typeOf u) t ∧ PySem.W.notFirst X.K C t = true := by
  cases o with
  | @ins a dx fs e =>
    obtain rfl : u = Value.ref a := r
    obtain ⟨mA, O, _⟩ := ins_get I.hok e
    obtain ⟨od, J, _⟩ := O.look
    exact ⟨J.type, by simp [PySem.W.notFirst]⟩
  | @tup a xs e =>
    obtain rfl : u = Value.ref a := r
    obtain ⟨its, rv, ⟨ob, ho, hc, _⟩, _⟩ := I.tuple e
    refine ⟨?_, by simp [PySem.W.notFirst, sub_tuple_own]⟩
    intro A Q E s' kp q
    exact wpAny_typeOf (T := "tuple") ⟨ob, kp _ _ ho, hc⟩ q
  | @dict a kvs e =>
    obtain rfl : u = Value.ref a := r
    obtain ⟨_, _, vs, _, dd⟩ := dk_of I.hok e
    refine ⟨?_, by simp [PySem.W.notFirst, sub_dict_own]⟩
    intro A Q E s' kp q
    obtain ⟨ob, ho, hc⟩ := dd.typeIs
    exact wpAny_typeOf (T := "dict") ⟨ob, kp _ _ ho, hc⟩ q
/-- o == y by the class's own == -/
def rEqM (K : PySem.W.Frag) (C : Addr) (sp : Sp) : R2 := fun x y H Q => ∃ a dx fs t, x = .ref a ∧ H a = some (.ins C dx fs) ∧ Oth K H C y t ∧ sp [.ref a, y] H (fun v H' => ∃ b, v = .bl b ∧ Q (.bl b) H') E0
theorem op_eqM (c : CalM X.prog X.w X.K X.mg X.base C "__eq__" k ps sp) (hr : Room k X.A) : OpR X (compareOp .Eq) (rEqM X.K C sp) := by
  intro pins s σ H x y v u Q I rx ry h
  obtain ⟨f, fd, F, me, b, _⟩ := c
  obtain ⟨a, dx, fs, t, rfl, ea, o, q⟩ := h
  obtain rfl : v = Value.ref a := rx
  obtain ⟨mA, O, _⟩ := ins_get I.hok ea
  obtain ⟨od, J, _⟩ := O.look
  obtain ⟨mm, hF⟩ := I.fr
  obtain ⟨lk, nf⟩ := o.looks (M := model X.prog X.w) I ry
  show wpAny _ _ (richCompare .Eq (.ref a) u) _ _ _
  refine PySem.W.cmp_K (op := .Eq) hr.units0 hF I.ok.mod.kin J lk nf me.at_ me.fn (wpAny_mono (run_below F hr rfl b I (.cons (rel_ref _) (.cons ry .nil)) q) (fun r s' z => ?_) fun _ _ e => e)
  obtain ⟨v', H', I', rv, t, rfl, q'⟩ := z
  cases rv
  exact ⟨.bl t, H', I', rfl, q'⟩
end
section
variable {prog : Program} {w : World} {A : Around} {E : Value → Shared → Prop} {s : Shared} {K : PySem.W.Frag} {x C f : Addr} {ox : Obj} {od : Option Obj} {y : Value}
theorem objNe_by (inK : K.In s.heap) (J : PySem.W.InstAt s.heap x ox C od) (hs : PySem.W.findIn K (.ref C) "__eq__" = some (some (.ref f))) (hf : PySem.W.isFn K (.ref f) = true) (hu : A.units < cLine) {Q : Fin → Shared → Prop}
    (hcall : wpAny (model prog w) A (call (.ref f) [.ref x, y]) (fun v s' => ∃ b, v = .bool b ∧ Q (.done (.ret (.bool (!b)))) s') E s) : wpAny (model prog w) A (Builtin.«object.__ne__» ⟨[.ref x, y], []⟩) Q E s := by
  unfold Builtin.«object.__ne__»
  repeat (first
    | with_reducible refine wpAny_cRoomFor hu ?_
    | (refine wpAny_bind (m := callSpecialIfBound? (.ref x) (Str.ofString "__eq__") [y]) (PySem.W.ifBound_K inK J hs hf (wpAny_mono hcall (fun r s' hr => by
          obtain ⟨b, rfl, hq⟩ := hr
          repeat (first | exact hq | exact wpAny_pure hq | exact wpAny_truthy_bool hq | (refine wpAny_bind (m := truthy (.bool _)) (wpAny_truthy_bool ?_)) | wp_step)) fun _ _ e => e)))
    | wp_step)
theorem bound_ne {args : List Value} {Q : Option Value → Shared → Prop} (inK : K.In s.heap) (J : PySem.W.InstAt s.heap x ox C od) (hs : PySem.W.findIn K (.ref C) "__ne__" = some (some (.builtin "object.__ne__")))
    (h : wpAny (model prog w) A (call (.builtin "object.__ne__") (.ref x :: args)) (fun v => Q (some v)) E s) : wpAny (model prog w) A (callSpecialIfBound? (.ref x) "__ne__" args) Q E s := by
  simp only [callSpecialIfBound?, bindSpecialIfBound?]
  refine wpAny_holding (wpAny_bind (wpAny_bind (wpAny_bind (J.type.here ((PySem.W.looks_findIn inK hs).here ?_)))))
  refine wpAny_bind (wpAny_askSetting (wpAny_ite ?_))
  have last : wpAny (model prog w) A (call (.builtin "object.__ne__") ([.ref x] ++ args) >>= fun v => pure (some v)) Q E s := wpAny_bind (wpAny_mono h (fun v s' h' => wpAny_pure h') fun _ _ h' => h')
  split
  · exact wpAny_bind (wpAny_of_eq (PySem.F.cmp_object.ne.bind _) (wpAny_pure (by exact last)))
  · exact wpAny_tryCatch (wpAny_bind (wpAny_of_eq (PySem.F.cmp_object.ne.bind _) (wpAny_pure (by exact last))))
theorem rc_neM {tb : Value} {Q : Value → Shared → Prop} (inK : K.In s.heap) (J : PySem.W.InstAt s.heap x ox C od) (hm : PySem.W.mroIn K C (.type "object") = some true) (hn : PySem.W.findIn K (.ref C) "__ne__" = some (some (.builtin "object.__ne__")))
    (hs : PySem.W.findIn K (.ref C) "__eq__" = some (some (.ref f))) (hf : PySem.W.isFn K (.ref f) = true) (hu : A.units < cLine) (hu1 : A.in1.units < cLine) (lk : PySem.W.Looks (model prog w) s.heap (typeOf y) tb) (nf : PySem.W.notFirst K C tb = true)
    (hcall : wpAny (model prog w) A.in1 (call (.ref f) [.ref x, y]) (fun v s' => ∃ b, v = .bool b ∧ Q (.bool (!b)) s') E s) : wpAny (model prog w) A (richCompare .NotEq (.ref x) y) Q E s := by
  have one : wpAny (model prog w) A (tryCompare (.ref x) "__ne__" y) (fun r s' => ∃ v, r = some v ∧ Q v s') E s := by
    unfold tryCompare
    refine wpAny_bind (bound_ne inK J hn (wpAny_call (codeAny_call_builtin PySem.F.cmp_object.ne.plain PySem.F.cmpEntry_ne
      (PySem.W.check_slot PySem.F.cmpKind_ne PySem.F.cmpSplit_ne (J.type.andThen (PySem.W.looks_mroIn inK hm)) (PySem.F.cmpArgs_ne _ _) (objNe_by inK J hs hf hu1 (wpAny_mono hcall (fun v s' hv => ?_) fun _ _ e => e))))))
    obtain ⟨b, rfl, q⟩ := hv
    first
      | exact ⟨b, rfl, wpAny_pure ⟨_, rfl, q⟩⟩
      | exact ⟨b, rfl, wpAny_pure (wpAny_pure ⟨_, rfl, q⟩)⟩
      | exact ⟨b, rfl, ⟨_, rfl, q⟩⟩
  unfold richCompare
  simp only [oneThing_ref]
  refine wpAny_holding (wpAny_bind (wpAny_cRoomFor hu ?_))
  refine wpAny_bind (J.type.here (wpAny_bind (lk.here ?_)))
  split
  · rename_i q
    have e : PySem.W.subIn K tb (.ref C) = some false := by
      rcases Bool.or_eq_true_iff.mp nf with e | e
      · rw [beq_iff_eq.mp e] at q
        simp at q
      · exact beq_iff_eq.mp e
    refine wpAny_bind ((PySem.W.looks_subIn inK e).here ?_)
    simp only [Bool.false_eq_true, if_false]
    refine wpAny_bind (wpAny_mono one (fun r s' z => ?_) fun _ _ e => e)
    obtain ⟨v, rfl, hq⟩ := z
    exact wpAny_pure hq
  · refine wpAny_bind (wpAny_pure ?_)
    simp only [Bool.false_eq_true, if_false]
    refine wpAny_bind (wpAny_mono one (fun r s' z => ?_) fun _ _ e => e)
    obtain ⟨v, rfl, hq⟩ := z
    exact wpAny_pure hq
end
section
variable {X : Cx} {C : Addr} {k : Nat} {ps : List Str} {sp : Sp}
/-- o != y, the class having no != of its own -/
def rNeM (K : PySem.W.Frag) (C : Addr) (sp : Sp) : R2 := fun x y H Q => ∃ a dx fs t, x = .ref a ∧ H a = some (.ins C dx fs) ∧ Oth K H C y t ∧ sp [.ref a, y] H (fun v H' => ∃ b, v = .bl b ∧ Q (.bl (!b)) H') E0
theorem op_neM (c : CalM X.prog X.w X.K X.mg X.base C "__eq__" k ps sp) (hn : PySem.W.findIn X.K (.ref C) "__ne__" = some (some (.builtin "object.__ne__"))) (hm : PySem.W.mroIn X.K C (.type "object") = some true) (hr : Room (k + 1) X.A) :
    OpR X (compareOp .NotEq) (rNeM X.K C sp) := by
  intro pins s σ H x y v u Q I rx ry h
  obtain ⟨f, fd, F, me, b, _⟩ := c
  obtain ⟨a, dx, fs, t, rfl, ea, o, q⟩ := h
  obtain rfl : v = Value.ref a := rx
  obtain ⟨mA, O, _⟩ := ins_get I.hok ea
  obtain ⟨od, J, _⟩ := O.look
  obtain ⟨lk, nf⟩ := o.looks (M := model X.prog X.w) I ry
  show wpAny _ _ (richCompare .NotEq (.ref a) u) _ _ _
  refine rc_neM I.kIn J hm hn me.at_ me.fn hr.units0 hr.in1.units0 lk nf (wpAny_mono (run_below F hr.in1 rfl b I (.cons (rel_ref _) (.cons ry .nil)) q) (fun r s' z => ?_) fun _ _ e => e)
  obtain ⟨v', H', I', rv, t, rfl, q'⟩ := z
  cases rv
  exact ⟨t, rfl, .bl (!t), H', I', rfl, q'⟩
/-! ### dicts of data compared -/
/-- the pairs ks, one by one, in the dict of the pairs ls -/
inductive HitsV (K : PySem.W.Frag) (H : Hp) (ls : List (Key × V)) : List (Key × V) → Bool → Prop
  | nil : HitsV K H ls [] true
  | miss {p : Key × V} {r : List (Key × V)} (e : valV ls p.1 = none) : HitsV K H ls (p :: r) false
  | hit {p : Key × V} {r : List (Key × V)} {y : V} {d e : PyData} {b : Bool} (at_ : valV ls p.1 = some y) (hd : Dp K H p.2 d) (he : Dp K H y e) (sd : SeqAt.shaped d = true) (se : SeqAt.shaped e = true) (more : HitsV K H ls r b) : HitsV K H ls (p :: r) (PyData.eqv d e && b)
theorem HitsV.raw {pins : List (Addr × Obj)} {σ : L2.St} {H : Hp} {s : Shared} (I : Inv X pins σ H s) (hu : X.A.in1.units + 64 < cLine) {ls : List (Key × V)} {vb : List (Key × Value)} (rb : KV ls vb) {ks : List (Key × V)} {r : Bool} (h : HitsV X.K H ls ks r) :
    ∀ {va : List (Key × Value)}, KV ks va → PySem.W.KeqHits X.A.in1 s vb va r := by
  induction h with
  | nil =>
    intro va ra
    unfold KV at ra
    cases ra
    exact .nil
  | @miss p r e =>
    intro va ra
    unfold KV at ra
    cases ra with
    | @cons _ q _ qs h t =>
      obtain ⟨k, v⟩ := q
      obtain ⟨h1, h2⟩ := h
      have h1' : p.1 = k := h1
      have rr := rb.val p.1
      rw [e, h1'] at rr
      refine .miss ?_
      cases c : valueAt vb k with
      | none => rfl
      | some z => rw [c] at rr; exact rr.elim
  | @hit p r y d e b at_ hd he sd se more ih =>
    intro va ra
    unfold KV at ra
    cases ra with
    | @cons _ q _ qs h t =>
      obtain ⟨k, v⟩ := q
      obtain ⟨h1, h2⟩ := h
      have h1' : p.1 = k := h1
      have rr := rb.val p.1
      rw [at_, h1'] at rr
      obtain ⟨z, hz, rz⟩ := RelO.some_of rr
      obtain ⟨as, r1⟩ := Dp.reads I d p.2 v hd h2
      obtain ⟨bs, r2⟩ := Dp.reads I e y z he rz
      exact .hit hz (PySem.W.keq_at r1 r2 sd se hu) (ih t)
def rEqDX (K : PySem.W.Frag) : R2 := fun x y H Q => ∃ a b ks ls r, x = .ref a ∧ y = .ref b ∧ H a = some (.dK ks) ∧ H b = some (.dK ls) ∧ (ks.length = ls.length → HitsV K H ls ks r) ∧ Q (.bl (ks.length == ls.length && r)) H
theorem op_eqDX (hu : X.A.units + 66 < cLine) : OpR X (compareOp .Eq) (rEqDX X.K) := by
  intro pins s σ H x y v u Q I rx ry h
  obtain ⟨a, b, ks, ls, r, rfl, rfl, ea, eb, hits, q⟩ := h
  obtain rfl : v = Value.ref a := rx
  obtain rfl : u = Value.ref b := ry
  obtain ⟨_, ya, va, ra, da⟩ := dk_of I.hok ea
  obtain ⟨_, yb, vb, rb, db⟩ := dk_of I.hok eb
  have l1 := ra.length
  have l2 := rb.length
  have u1 : X.A.in1.units + 64 < cLine := by
    have e : X.A.in1.units ≤ X.A.units + 1 := by
      show X.A.units + 1 ≤ _
      exact Nat.le_refl _
    omega
  refine PySem.W.keq_eq (knd := mixKind X.prog X.w) (r := r) ya yb da db (by omega) (fun e => (hits (by omega)).raw I u1 rb ra) (fin_bl I q ?_)
  rw [l1, l2]
/-! ### a star before a dict -/
def tStarD (te : TE) (t : TA) : TA := fun σ H Q => te σ H fun x H1 => ∃ p kvs, x = V.ref p ∧ H1 p = some (.dK kvs) ∧ t σ H1 fun ys H2 => Q ((kvs.map fun kv => kV kv.1) ++ ys) H2
theorem star_dict {pins : List (Addr × Obj)} {σ : L2.St} {H : Hp} {s : Shared} (hc : X.calm = true) {a : Addr} {kvs : List (Key × V)} {E : Value → Shared → Prop} {Q : List Value → Shared → Prop} (I : Inv X pins σ H s) (h : H a = some (.dK kvs)) (hQ : ∀ us s', Inv X pins σ H s' → Vals (kvs.map fun kv => kV kv.1) us → Q us s') :
    PySem.W.StarOf (model X.prog X.w) X.A E (.ref a) Q s := by
  obtain ⟨z, lo, vs, rel, dd⟩ := dk_of I.hok h
  obtain ⟨ep, hat⟩ := dd.dictAt
  have hT : s.TypeIs (.ref a) "dict" := dd.typeIs
  have z2 : vs.length ≤ sizeLine := by rw [← rel.length]; exact z
  have ek : (kvs.map fun kv => kV kv.1) = vs.map fun p => kV p.1 := by
    have e := congrArg (List.map kV) rel.keys
    rw [List.map_map, List.map_map] at e
    exact e
  have g : wpAny (model X.prog X.w) X.A (collect (.ref a)) Q E s := by
    refine PySem.W.kdu_collect (PySem.W.kdl_dict (knd := mixKind X.prog X.w) (kvs := vs) (ep := ep) lo) (I.ok.hd hc) hat z2 fun h' tk acc hk hacc => ?_
    have hv : Vals (vs.map fun p => kV p.1) acc.toList := keys_at (by rw [Array.length_toList]; exact hacc.1) fun j v e => hacc.2 j v (by rw [← Array.getElem?_toList]; exact e)
    exact hQ _ _ (I.kept (t' := tk) hk) (by rw [ek]; exact hv)
  unfold PySem.W.StarOf notIterableAtAll
  exact wpAny_bind (wpAny_specialOf hT PySem.F.slot_dict_iter.lookup (wpAny_pure ⟨rfl, g⟩))
theorem pa_starD {e : Expr} {es : List Expr} {te : TE} {t : TA} {p : Pos} (hc : X.calm = true) (he : PE X e te) (hr : PA X es t) (hs : starEach (.Starred e p :: es) X.env = (true, eval e X.env) :: starEach es X.env := by rfl) : PA X (.Starred e p :: es) (tStarD te t) := by
  refine ⟨fun pos pins s σ H Q I h => ?_⟩
  refine PySem.W.items_star (thn (he.run pins s σ H _ I h) fun v s1 ⟨y, H1, I1, ry, a, kvs, ey, hx, q⟩ => ?_) hs
  subst ey
  obtain rfl : v = Value.ref a := ry
  refine star_dict hc I1 hx fun us s2 I2 rv => ?_
  exact thn (hr.run pos pins s2 σ H1 _ I2 q) fun ws s3 ⟨vs, H3, I3, r3, q3⟩ => ⟨_, H3, I3, rv.append r3, q3⟩
end
end Gx

set_option maxRecDepth 100000
set_option maxHeartbeats 4000000
namespace Gx
open PySem PySem.Spec PyProof.Rows L2
/-! ### classes of the top: methods, properties, making -/
theorem fn_in {K : PySem.W.Frag} {f : Addr} {oc : Value} {od : Option Addr} {fd : FuncData} {sl : Array (Option Value)} (l : K.lookup f = some ⟨oc, od, .func fd, sl⟩) : PySem.W.fnIn K f = true := by
  unfold PySem.W.fnIn
  rw [l]
/-- the class at C has the def st as its property m -/
def PropD (K : PySem.W.Frag) (C : Addr) (m qual : Str) (st : Stmt) : Prop := ∃ (p f : Addr) (fd : FuncData), PropOf K C m p f ∧ Fun K m qual st f fd ∧ Binds K fd ["self"] []
/-- .. as its method m -/
def DefM (K : PySem.W.Frag) (C : Addr) (m qual : Str) (st : Stmt) (ps : List Str) : Prop := ∃ (f : Addr) (fd : FuncData), Fun K m qual st f fd ∧ Meth K C m f ∧ Binds K fd ps [] ∧ PySem.W.fnIn K f = true
/-- a property that keeps the promise sp -/
def CalP (P : Program) (w : World) (K : PySem.W.Frag) (mg : Str → Option Value) (base : Heap) (C : Addr) (m : Str) (k : Nat) (sp : Sp) : Prop :=
  ∃ (p f : Addr) (fd : FuncData), PropOf K C m p f ∧ FnOk P w K mg base CX0 k f fd ["self"] sp ∧ Binds K fd ["self"] []
/-- C(..) by its __init__'s promise -/
def CalI (P : Program) (w : World) (K : PySem.W.Frag) (mg : Str → Option Value) (base : Heap) (C : Addr) (k : Nat) (ps : List Str) (sp : Sp) : Prop :=
  ∃ (f : Addr) (fd : FuncData), Mk K C f ∧ FnOk P w K mg base CX0 k f fd ps sp ∧ Binds K fd ps []
section
variable {P : Program} {w : World} {K : PySem.W.Frag} {mg : Str → Option Value} {base : Heap} {C : Addr} {m qual : Str} {st : Stmt} {k : Nat} {ps : List Str} {sp : Sp}
theorem DefM.cal (d : DefM K C m qual st ps) (h : ∀ f fd, Fun K m qual st f fd → FnOk P w K mg base CX0 k f fd ps sp) : CalM P w K mg base C m k ps sp := by
  obtain ⟨f, fd, F, me, b, fi⟩ := d
  exact ⟨f, fd, h f fd F, me, b, fi⟩
theorem PropD.cal (d : PropD K C m qual st) (h : ∀ f fd, Fun K m qual st f fd → FnOk P w K mg base CX0 k f fd ["self"] sp) : CalP P w K mg base C m k sp := by
  obtain ⟨p, f, fd, pr, F, b⟩ := d
  exact ⟨p, f, fd, pr, h f fd F, b⟩
theorem CalP.mono {j : Nat} (c : CalP P w K mg base C m j sp) (h : j ≤ k) : CalP P w K mg base C m k sp := by
  obtain ⟨p, f, fd, pr, F, b⟩ := c
  exact ⟨p, f, fd, pr, F.mono h, b⟩
theorem CalI.mono {j : Nat} (c : CalI P w K mg base C j ps sp) (h : j ≤ k) : CalI P w K mg base C k ps sp := by
  obtain ⟨f, fd, M, F, b⟩ := c
  exact ⟨f, fd, M, F.mono h, b⟩
end
section
variable {X : Cx} {C : Addr} {m x : Str} {k : Nat} {ps : List Str} {sp : Sp} {ta : TE} {t : TA} {o e : Expr} {es : List Expr} {pos apos p : Pos}
/-- o.m, a property -/
def tPropC (C : Addr) (sp : Sp) (ta : TE) : TE := fun σ H Q => ta σ H fun x H1 => ∃ a dx fs, x = .ref a ∧ H1 a = some (.ins C dx fs) ∧ sp [.ref a] H1 Q E0
theorem pe_propC (he : PE X o ta) (cl : Cls X.K C) (c : CalP X.prog X.w X.K X.mg X.base C m k sp) (hr : Room (k + 1) X.A) (hab : attributeBase o m X.env (eval o X.env) = eval o X.env := by rfl) : PE X (.Attribute o m pos) (tPropC C sp ta) := by
  obtain ⟨p, f, fd, pr, F, b⟩ := c
  have h := pe_prop (pos := pos) (E := E0) he cl pr F hr b .nil pass0 hab
  exact h
/-- o.m(..) -/
def tMethC (C : Addr) (m : Str) (sp : Sp) (ta : TE) (t : TA) : TE := fun σ H Q => ta σ H fun x H1 => ∃ a dx fs, x = .ref a ∧ H1 a = some (.ins C dx fs) ∧ fs.lookup m = none ∧ t σ H1 fun vs H2 => sp (x :: vs) H2 Q E0
theorem tMethC_eq : tMeth C m sp [] E0 ta t = tMethC C m sp ta t := by
  funext σ H Q
  show ta σ H _ = ta σ H _
  congr 1
  funext x H1
  simp only [List.append_nil]
theorem pe_methC {pl : Sem Bool} (he : PE X o ta) (cl : Cls X.K C) (c : CalM X.prog X.w X.K X.mg X.base C m k ps sp) (hr : Room k X.A) (ha : PA X (e :: es) t)
    (hst : starEach (e :: es) X.env = (false, eval e X.env) :: starEach es X.env := by rfl) (hpl : (backTo pos (starEach es X.env)).any (·.1) = false := by rfl)
    (ht : eval (.Call (.Attribute o m apos) (e :: es) [] pos) X.env = (do
      let ov ← eval o X.env
      standAt apos.atName
      let (f, first) ← holding [ov] (getMethod ov m pl)
      callWith pos f first (backTo pos (starEach (e :: es) X.env)) (backToKw pos (keywordEach [] X.env))) := by rfl) :
    PE X (.Call (.Attribute o m apos) (e :: es) [] pos) (tMethC C m sp ta t) := by
  obtain ⟨f, fd, F, me, b, fi⟩ := c
  rw [← tMethC_eq]
  exact pe_meth (pl := pl) he cl me F hr b .nil pass0 ha hst hpl ht
/-- C(..) -/
def tMakeC (C : Addr) (sp : Sp) (t : TA) : TE := fun σ H Q => t σ H fun vs H1 => ∀ x dx, H1 x = none → H1 dx = none → dx ≠ x →
  sp (.ref x :: vs) (upd (upd H1 dx (.own x)) x (.ins C dx [])) (fun v H2 => v = .non ∧ Q (.ref x) H2) E0
theorem tMakeC_eq : tMake C sp [] E0 t = tMakeC C sp t := by
  funext σ H Q
  show t σ H _ = t σ H _
  congr 1
  funext vs H1
  simp only [List.append_nil]
theorem pe_makeC (c : CalI X.prog X.w X.K X.mg X.base C k ps sp) (hr : Room (k + 1) X.A) (hg : Gl X x) (hm : X.mg x = some (.ref C)) (ha : PA X (e :: es) t)
    (hdb : (x == ("__debug__" : Str)) = false := by decide) (he : starEach (e :: es) X.env = (false, eval e X.env) :: starEach es X.env := by rfl) (hpl : (backTo pos (starEach es X.env)).any (·.1) = false := by rfl) :
    PE X (.Call (.Name x p) (e :: es) [] pos) (tMakeC C sp t) := by
  obtain ⟨f, fd, M, F, b⟩ := c
  rw [← tMakeC_eq]
  exact pe_make M F hr hg hm b .nil pass0 ha hdb he hpl
end
/-! ### dicts walked under their lock -/
theorem same_lock {H : Hp} {d : Addr} {u : HO} {o : Obj} (e : H d = some u) {b : Addr} {ob : HO} (n : b ≠ d) (h : H b = some ob) : upd H d (.frz o u) b = some ob := by
  rw [upd_ne n]
  exact h
theorem same_unlock {H H' : Hp} {d : Addr} {u : HO} {o : Obj} (e : H d = some u) (s : Same (upd H d (.frz o u)) H') : Same H (upd H' d u) := by
  intro b ob h
  by_cases n : b = d
  · subst n
    rw [upd_same]
    exact e.symm.trans h
  · rw [upd_ne n]
    exact s b ob (by rw [upd_ne n]; exact h)
end Gx

set_option maxRecDepth 100000
set_option maxHeartbeats 4000000
namespace Gx
open PySem PySem.Spec PyProof.Rows L2
/-! ### sets of texts: set(list), sorted(set) -/
/-- a member's text -/
def txE (m : Int × Value) : Str :=
  match m.2 with
  | .str z _ => z
  | _ => Str.empty
def TxE (P : Program) (w : World) (m : Int × Value) : Prop := ∃ z tk, m.2 = Value.str z tk ∧ m.1 = (PySem.strKind P w).hash z
/-- at a stands the set of the texts of L, some of which may be there twice; its table can be walked -/
def SetX (P : Program) (w : World) (h : Heap) (a : Addr) (L : List Str) : Prop :=
  ∃ ob ms ep tb, h.get? a = some ob ∧ ob.ExactSet ∧ ob.data = .set ms ep tb ∧ (∀ m ∈ ms.toList, TxE P w m) ∧ (ms.toList.map txE).Nodup ∧ (∀ z, z ∈ L ↔ z ∈ ms.toList.map txE) ∧
    ms.size < scanBound ∧ tb.fits ms.size = true ∧ ms.size ≤ L.length ∧ Ris tb.place.toList ∧ (w.params.followText "set-order" = true ∨ tb.led = true)
section
variable {P : Program} {w : World} {h h' : Heap} {a : Addr} {L : List Str}
theorem SetX.at (R : SetX P w h a L) (k : ∀ o, h.get? a = some o → h'.get? a = some o) : SetX P w h' a L := by
  obtain ⟨ob, ms, ep, tb, here, more⟩ := R
  exact ⟨ob, ms, ep, tb, k ob here, more⟩
theorem SetX.same {L' : List Str} (R : SetX P w h a L) (e : ∀ z, z ∈ L' ↔ z ∈ L) (hl : L.length ≤ L'.length) : SetX P w h a L' := by
  obtain ⟨ob, ms, ep, tb, here, ex, dt, gd, nd, mem, bd, ft, le, more⟩ := R
  exact ⟨ob, ms, ep, tb, here, ex, dt, gd, nd, fun z => (e z).trans (mem z), bd, ft, Nat.le_trans le hl, more⟩
theorem tx_elems {l : List (Int × Value)} (gd : ∀ m ∈ l, TxE P w m) : ElemsOf (PySem.strKind P w) l := by
  intro m hm
  obtain ⟨z, tk, e1, e2⟩ := gd m hm
  refine ⟨⟨z, ?_, e2⟩, ?_⟩
  · rw [e1]
    exact strKind_is P w z tk
  · rw [e1]
    rfl
theorem tx_is {m : Int × Value} (gd : TxE P w m) (z : Str) : (PySem.strKind P w).is z m.2 = true ↔ txE m = z := by
  obtain ⟨y, tk, e1, _⟩ := gd
  have e3 : txE m = y := by unfold txE; rw [e1]
  rw [e3, e1]
  constructor
  · intro q
    obtain ⟨t, q⟩ := Value.isStrOf_shape (show Value.isStrOf z (.str y tk) = true from q)
    cases q
    rfl
  · rintro rfl
    exact strKind_is P w y tk
theorem tx_mem {l : List (Int × Value)} (gd : ∀ m ∈ l, TxE P w m) (z : Str) : z ∈ l.map txE ↔ ∃ m ∈ l, (PySem.strKind P w).is z m.2 = true := by
  rw [List.mem_map]
  exact ⟨fun ⟨m, hm, q⟩ => ⟨m, hm, (tx_is (gd m hm) z).2 q⟩, fun ⟨m, hm, q⟩ => ⟨m, hm, (tx_is (gd m hm) z).1 q⟩⟩
end
section
variable {P : Program} {w : World} {A : Around} {E : Value → Shared → Prop} {s : Shared} {a : Addr} {L : List Str}
/-! ### one text more -/
theorem setX_tail {g : Bool → Sem Unit} (hg : ∀ (b : Bool) (s₁ : Shared) (Q' : Unit → Shared → Prop), Q' () s₁ → wpAny (model P w) A (g b) Q' E s₁)
    {ob : Obj} {ms : Array (Int × Value)} {ep : Nat} {tb : SetTable} (here : s.heap.get? a = some ob) (ex : ob.ExactSet) (dt : ob.data = .set ms ep tb)
    {ms1 : Array (Int × Value)} {tb2 : SetTable} {L' : List Str} (g1 : ∀ m ∈ ms1.toList, TxE P w m) (nd1 : (ms1.toList.map txE).Nodup) (m1 : ∀ z, z ∈ L' ↔ z ∈ ms1.toList.map txE)
    (bd1 : ms1.size < scanBound) (ft2 : tb2.fits ms1.size = true) (le1 : ms1.size ≤ L'.length) (ri : Ris tb2.place.toList) (ld : w.params.followText "set-order" = true ∨ tb2.led = true) {dummy : Bool} {R : Option Bool → Shared → Prop}
    (hR : ∀ h', Heap.SameBut a s.heap h' → SetX P w h' a L' → R (some true) { s with heap := h' }) :
    wpAny (model P w) A (do
        storeSet a ms1 tb2
        if (!dummy && tb2.tooFull) = true then do
            g (relayAll tb2 ms1 (SetTable.grown ms1.size)).2.2
            storeSet a (relayAll tb2 ms1 (SetTable.grown ms1.size)).1 (relayAll tb2 ms1 (SetTable.grown ms1.size)).2.1
            pure (some true)
          else pure (some true)) R E s := by
  refine wpAny_bind (wpAny_storeSet_of here dt ?_ (fits_of_scanBound bd1))
  have at1 := store_at (es' := ms1) (t' := tb2) here dt
  have but1 := Heap.SameBut.update s.heap a (Obj.putSet ms1 tb2)
  split
  · have perm2 := relayAll_perm tb2 ms1 (SetTable.grown ms1.size)
    have ft3 := relayAll_fits tb2 ms1 (SetTable.grown ms1.size)
    have ri3 := relayAll_ris tb2 ms1 (SetTable.grown ms1.size)
    have ld3 := relayAll_led tb2 ms1 (SetTable.grown ms1.size)
    generalize relayAll tb2 ms1 (SetTable.grown ms1.size) = laid at perm2 ft3 ri3 ld3 ⊢
    obtain ⟨ms2, tb3, gave⟩ := laid
    dsimp only at perm2 ft3 ri3 ld3 ⊢
    have sz2 : ms2.size = ms1.size := by rw [← Array.length_toList, perm2.length_eq, Array.length_toList]
    have bd2 : ms2.size < scanBound := sz2 ▸ bd1
    refine wpAny_bind (hg _ _ _ ?_)
    refine wpAny_bind (wpAny_storeSet_of at1 rfl ?_ (fits_of_scanBound bd2))
    have at2 := store_at (es' := ms2) (t' := tb3) at1 rfl
    refine wpAny_pure (hR _ (but1.trans (Heap.SameBut.update _ a _)) ⟨_, ms2, _, tb3, at2, ex, rfl, fun m hm => g1 m (perm2.mem_iff.mp hm), (perm2.map txE).nodup_iff.mpr nd1, fun z => (m1 z).trans (perm2.map txE).mem_iff.symm, bd2, ?_, by rw [sz2]; exact le1, ri3, ?_⟩)
    · exact ft3
    · exact ld.imp id fun z => by rw [ld3]; exact z
  · exact wpAny_pure (hR _ but1 ⟨_, ms1, _, tb2, at1, ex, rfl, g1, nd1, m1, bd1, ft2, le1, ri, ld⟩)
theorem setX_add {z : Str} {tk : Tok} {Q : Bool → Shared → Prop} (R : SetX P w s.heap a L) (room : L.length + 1 < scanBound)
    (hQ : ∀ h' b, Heap.SameBut a s.heap h' → SetX P w h' a (L ++ [z]) → Q b { s with heap := h' }) :
    wpAny (model P w) A (setAddHashed a (.str z tk) ((PySem.strKind P w).hash z)) Q E s := by
  obtain ⟨ob, ms, ep, tb, here, ex, dt, gd, nd, mem, bd, ft, le, ri, ld⟩ := R
  have isz : (PySem.strKind P w).is z (.str z tk) = true := strKind_is P w z tk
  have scz : (Value.str z tk).scannable = true := rfl
  have els : ElemsOf (PySem.strKind P w) ms.toList := tx_elems gd
  unfold setAddHashed setAddHashedIn
  refine wpAny_holding (wpAny_bind (wpAny_setState_of here dt ft ?_))
  dsimp only
  rw [byScan_of scz bd els]
  simp only [↓reduceIte]
  unfold setAddByScan
  refine wpAny_bind ?_
  refine wpAny_bind (wpAny_rule ?_)
  refine wpAny_bind (wpAny_setScan_of isz here dt ft els ?_)
  cases hfi : List.findIdx? (fun m => (PySem.strKind P w).is z m.2) ms.toList with
  | some j =>
    dsimp only
    obtain ⟨hj, pj, _⟩ := List.findIdx?_eq_some_iff_getElem.mp hfi
    have inL : z ∈ L := (mem z).2 ((tx_mem (P := P) (w := w) gd z).2 ⟨ms.toList[j], List.getElem_mem hj, pj⟩)
    refine wpAny_pure (wpAny_pure ?_)
    refine hQ s.heap _ (Heap.SameBut.refl a s.heap) ⟨ob, ms, ep, tb, here, ex, dt, gd, nd, fun y => ?_, bd, ft, by rw [List.length_append]; omega, ri, ld⟩
    rw [← mem y, List.mem_append, List.mem_singleton]
    exact ⟨fun q => q.elim id fun e => e ▸ inL, .inl⟩
  | none =>
    dsimp only
    have notIn : z ∉ ms.toList.map txE := by
      intro q
      obtain ⟨m, hm, q⟩ := (tx_mem (P := P) (w := w) gd z).1 q
      have c := List.findIdx?_eq_none_iff.mp hfi m hm
      rw [q] at c
      cases c
    have way : ∀ (b : Bool) {s₁ : Shared} {Q' : Unit → Shared → Prop}, Q' () s₁ → wpAny (model P w) A (match b with | true => rule "set.scan.the-table-gave-way" | false => pure ()) Q' E s₁ := by
      intro b s₁ Q' q
      cases b
      · exact wpAny_pure q
      · exact wpAny_rule q
    have perm1 := layNew_perm tb ms ((PySem.strKind P w).hash z) (.str z tk)
    have ft1 := layNew_fits tb ms ((PySem.strKind P w).hash z) (.str z tk)
    have ri1 := layNew_ris tb ms ((PySem.strKind P w).hash z) (.str z tk) ri
    have ld1 := layNew_led tb ms ((PySem.strKind P w).hash z) (.str z tk)
    generalize layNew tb ms ((PySem.strKind P w).hash z) (.str z tk) = laid at perm1 ft1 ri1 ld1 ⊢
    obtain ⟨ms1, tb1, dummy, gave⟩ := laid
    dsimp only at perm1 ft1 ri1 ld1 ⊢
    rw [Array.toList_push] at perm1
    have permC : ms1.toList.Perm (((PySem.strKind P w).hash z, Value.str z tk) :: ms.toList) := perm1.trans (List.perm_append_singleton _ _)
    have permK : (ms1.toList.map txE).Perm (z :: ms.toList.map txE) := permC.map txE
    have g1 : ∀ m ∈ ms1.toList, TxE P w m := by
      intro m hm
      rcases List.mem_cons.mp (permC.mem_iff.mp hm) with q | q
      · rw [q]
        exact ⟨z, tk, rfl, rfl⟩
      · exact gd m q
    have nd1 : (ms1.toList.map txE).Nodup := permK.nodup_iff.mpr (List.nodup_cons.mpr ⟨notIn, nd⟩)
    have m1 : ∀ y, y ∈ L ++ [z] ↔ y ∈ ms1.toList.map txE := by
      intro y
      rw [List.mem_append, List.mem_singleton, mem y, permK.mem_iff, List.mem_cons]
      exact Or.comm
    have sz1 : ms1.size = ms.size + 1 := by rw [← Array.length_toList, permC.length_eq, List.length_cons, Array.length_toList]
    have bd1 : ms1.size < scanBound := by omega
    have le1 : ms1.size ≤ (L ++ [z]).length := by rw [List.length_append, List.length_singleton]; omega
    have led1 : w.params.followText "set-order" = true ∨ tb1.led = true := ld.imp id fun q => by rw [ld1]; exact q
    refine wpAny_bind (way _ ?_)
    split
    · refine wpAny_bind ?_
      rw [hashByValue_scannable 8 scz]
      refine wpAny_pure ?_
      refine setX_tail ?_ here ex dt g1 nd1 m1 bd1 ?_ le1 ?_ ?_ ?_
      · intro b s₁ Q' q
        cases b <;> first | exact wpAny_pure q | exact wpAny_rule q
      · first | (split <;> first | exact ft1 | exact SetTable.fits_plain_off ft1) | exact ft1
      · first | (split <;> exact ri1) | exact ri1
      · first | (split <;> exact led1) | exact led1
      · intro h' sb r
        dsimp only
        exact wpAny_pure (hQ h' _ sb r)
    · refine wpAny_bind (wpAny_pure ?_)
      simp only [↓reduceIte]
      refine setX_tail ?_ here ex dt g1 nd1 m1 bd1 ft1 le1 ri1 led1 ?_
      · intro b s₁ Q' q
        cases b <;> first | exact wpAny_pure q | exact wpAny_rule q
      · intro h' sb r
        dsimp only
        exact wpAny_pure (hQ h' _ sb r)
end
/-- the texts of a list of values, by place -/
theorem texts_at : ∀ {us : List Value} {xs : List Str}, StrsAre us xs → ∀ (i : Nat) (v : Value), us[i]? = some v → ∃ x t, xs[i]? = some x ∧ v = .str x t
  | _, _, .nil, i, v, h => by cases h
  | _, _, .cons n t r, 0, v, h => by
    cases h
    exact ⟨n, t, rfl, rfl⟩
  | _, _, .cons n t r, i + 1, v, h => texts_at r i v h
section
variable {prog : Program} {w : World} {A : Around} {R : Result → Shared → Prop} {I : Addr} {fp wr : List Addr} {G : Array GenState → Array GenState → Prop} {n : Nat} {P : Nat → Value → Prop} {St : Nat → Shared → Prop}
/-- all texts of an iterator put into the set at S -/
theorem setX_loop (W : WalksS prog w A.in1 I fp wr G n P St) (S : Addr) (off : S ∉ fp) (xs : List Str) (len : xs.length = n) (few : n + 1 < scanBound)
    (val : ∀ i v, P i v → ∃ x t, xs[i]? = some x ∧ v = .str x t) : ∀ (k i : Nat) (s : Shared), n - i = k → i ≤ n → St i s → SetX prog w s.heap S (xs.take i) →
      (∀ s', Moved (S :: wr) G s s' → SetX prog w s'.heap S xs → R (.ok (.ret .none)) s') →
      codeAny (model prog w) A (.builtin "set.update.loop" ⟨[.ref S, .ref I], []⟩) R s := by
  have offW : S ∉ wr := fun z => off (W.sub _ z)
  have sub : ∀ b ∈ wr, b ∈ S :: wr := fun b hb => List.mem_cons_of_mem _ hb
  intro k
  induction k with
  | zero =>
    intro i s hk hi st hS hR
    obtain rfl : i = n := by omega
    rw [← len, List.take_length] at hS
    refine codeAny_builtin PyProof.Rows.F.entry_set_update_loop ?_
    rw [Around.under_plainId PyProof.Rows.F.plain_set_update_loop _]
    show wpAny _ A.in1 (pyNext (.ref I) >>= _) _ _ s
    refine wpAny_bind (W.done s _ _ st fun s' mv => ?_)
    show wpAny _ A.in1 (ret Value.none) _ _ s'
    exact wpAny_pure (hR s' (mv.mono sub) (hS.at fun o e => mv.heap S _ offW e))
  | succ k ih =>
    intro i s hk hi st hS hR
    have lt : i < n := by omega
    refine codeAny_builtin PyProof.Rows.F.entry_set_update_loop ?_
    rw [Around.under_plainId PyProof.Rows.F.plain_set_update_loop _]
    show wpAny _ A.in1 (pyNext (.ref I) >>= _) _ _ s
    refine wpAny_bind (W.item i s _ _ lt st fun v s' hP st' mv => ?_)
    obtain ⟨x, t, hx, rfl⟩ := val i v hP
    have hS' : SetX prog w s'.heap S (xs.take i) := hS.at fun o e => mv.heap S _ offW e
    show wpAny _ A.in1 (holding [Value.str x t] (setAdd S (.str x t)) >>= _) _ _ s'
    refine wpAny_bind (wpAny_holding ?_)
    unfold setAdd
    refine wpAny_holding ?_
    refine wpAny_bind ((PySem.strKind prog w).pyHash (k := x) (strKind_is _ _ _ _) ?_)
    refine setX_add (s := { s' with toks := s'.toks + 1 }) hS' (by rw [List.length_take]; omega) fun h' b sb hS2 => ?_
    have hS3 : SetX prog w h' S (xs.take (i + 1)) := by
      have e : xs.take (i + 1) = xs.take i ++ [x] := by rw [List.take_add_one, hx]; rfl
      rw [e]
      exact hS2
    refine wpAny_pure ⟨plainId_quiet PyProof.Rows.F.plain_set_update_loop _, ih (i + 1) _ (by omega) lt (W.frame _ s' _ _ st' (Nat.le_succ _) fun b hb o e => ?_) hS3 fun s'' mv2 hS4 => ?_⟩
    · rw [sb.2 b (fun z : b = S => off (z ▸ hb))]
      exact e
    · refine hR s'' (Moved.trans W.gtrans ((mv.mono sub).then_heap (Nat.le_succ _) fun b o hb e => ?_) mv2) hS4
      rw [sb.2 b (fun z : b = S => hb (by rw [z]; exact List.mem_cons_self))]
      exact e
end
section
variable {P : Program} {w : World} {A : Around} {E : Value → Shared → Prop} {s : Shared}
theorem code_setX {x : Value} {Q₁ : Value → Shared → Prop}
    (h : Q₁ (.ref s.heap.objs.size) { s with heap := s.heap.push { cls := .type "set", dict := none, data := .set #[] 0 (.fresh 0 0 (!w.params.followText "set-order")) } }) :
    codeAny (model P w) A (.call (.builtin "set.__new__") ⟨[.type "set", x], []⟩) (wants Q₁ E) s := by
  refine codeAny_of_tree ?_
  show wpAny _ A.in1 (do checkBuiltinCall "set.__new__" ⟨[.type "set", x], []⟩; again (.builtin "set.__new__" ⟨[.type "set", x], []⟩)) _ _ s
  refine wpAny_bind (wpAny_of_eq (PySem.F.newCall_set_1 x) (wpAny_pure ⟨plainId_quiet F.plain_set_new _, codeAny_builtin F.entry_set_new ?_⟩))
  rw [Around.under_plainId F.plain_set_new _]
  unfold Builtin.«set.__new__» Builtin.Frozenset.newClass
  have hsub := sub_set_self
  obtain ⟨hp, g, d, tk, os⟩ := s
  dsimp only
  wp_walk
  refine wpAny_askSetting (wpAny_pure ?_)
  dsimp only
  simp only [newObj]
  exact wpAny_bind (wpAny_alloc (wpAny_pure (wpAny_pure h)))
theorem setX_fresh {h : Heap} : SetX P w (h.push { cls := .type "set", dict := none, data := .set #[] 0 (.fresh 0 0 (!w.params.followText "set-order")) }) h.objs.size [] := by
  refine ⟨_, #[], 0, _, Heap.get?_push_size _ rfl, ⟨rfl, rfl, rfl⟩, rfl, (fun m hm => by simp at hm), (by simp), (fun z => by simp), (by decide), (by rfl), (Nat.zero_le _), List.Pairwise.nil, ?_⟩
  show _ ∨ (!w.params.followText "set-order") = true
  cases w.params.followText "set-order"
  · exact .inr rfl
  · exact .inl rfl
set_option maxHeartbeats 6400000 in
/-- set(list of texts) -/
theorem call_setX {l : Addr} {items : Array Value} {xs : List Str} {Q : Value → Shared → Prop} (hh : A.handled = none) (hl : s.heap.IsList l items) (hi : StrsAre items.toList xs) (few : xs.length + 1 < scanBound)
    (h : ∀ (h' : Heap) (tk : Nat), SetX P w h' s.heap.objs.size xs → (∀ b o, b < s.heap.objs.size → s.heap.get? b = some o → h'.get? b = some o) → Q (.ref s.heap.objs.size) { s with heap := h', toks := tk }) :
    wpAny (model P w) A (call (.type "set") [.ref l]) Q E s := by
  obtain ⟨c, tl, hmro⟩ := PySem.F.called_set.mro
  have hmade := PySem.F.called_set.made
  have hsub := PySem.F.called_set.sub
  refine wpAny_call (codeAny_of_tree ?_)
  show wpAny _ _ (callAny (.type "set") _) _ _ _
  refine wpAny_pure ⟨Code.quiet_builtin _ (by decide +kernel), codeAny_builtin PySem.F.entry_type_call ?_⟩
  rw [Around.under_plain (weight_type_call_type "set" [.ref l] []) rfl]
  have h1 := PySem.F.called_set.notType
  have h2 := PySem.F.called_set.canCreate
  have hct := PySem.F.typeCall_set_1 (.ref l)
  repeat (any_goals (first | assumption | wp_step))
  have R0 : SetX P w (s.heap.push { cls := .type "set", dict := none, data := .set #[] 0 (.fresh 0 0 (!w.params.followText "set-order")) }) s.heap.objs.size [] := setX_fresh
  refine codeAny_mono (code_setX (x := .ref l) (E := E) (Q₁ := fun obj s₁ => obj = .ref s.heap.objs.size ∧ s₁ = { s with heap := s.heap.push { cls := .type "set", dict := none, data := .set #[] 0 (.fresh 0 0 (!w.params.followText "set-order")) } }) ⟨rfl, rfl⟩) fun r s₁ hr => ?_
  have hS : (s.heap.push { cls := .type "set", dict := none, data := .set #[] 0 (.fresh 0 0 (!w.params.followText "set-order")) }).get? s.heap.objs.size = some { cls := .type "set", dict := none, data := .set #[] 0 (.fresh 0 0 (!w.params.followText "set-order")) } := Heap.get?_push_size _ rfl
  cases r with
  | error e => exact hr
  | ok fl =>
    cases fl with
    | ret obj =>
      obtain ⟨rfl, rfl⟩ := hr
      have hT : Shared.TypeIs { s with heap := s.heap.push ({ cls := .type "set", dict := none, data := .set #[] 0 (.fresh 0 0 (!w.params.followText "set-order")) } : Obj) } (.ref s.heap.objs.size) "set" := ⟨_, hS, rfl⟩
      have hli := PySem.F.called_set.init.lookup
      have hbi := PySem.F.called_set.init.bind (.ref s.heap.objs.size)
      repeat (any_goals (first | assumption | wp_step))
      refine codeAny_mono (codeAny_call_builtin (R := wants (fun r s₂ => r = .none ∧ ∃ h' tk, s₂ = { s with heap := h', toks := tk } ∧ SetX P w h' s.heap.objs.size xs ∧
          (∀ b o, b < s.heap.objs.size → s.heap.get? b = some o → h'.get? b = some o)) E) PySem.F.called_set.init.plain PySem.F.entry_set_init (check_set_init_1 hT ?_)) fun r₂ s₂ hr₂ => ?_
      · obtain ⟨ol, hol, hcl, nl, hdl⟩ := hl
        obtain ⟨ocls, odict, odata, oslots⟩ := ol
        simp only at hcl hdl
        subst hcl; subst hdl
        have hol' : (s.heap.push ({ cls := .type "set", dict := none, data := .set #[] 0 (.fresh 0 0 (!w.params.followText "set-order")) } : Obj)).get? l = some { cls := .type "list", dict := odict, data := .seq items nl, slots := oslots } := Heap.get?_push_of_some _ hol
        have hsls := PySem.F.sub_list_set
        have hslf := PySem.F.sub_list_frozenset
        have hne : (Value.type "list" == Value.type "dict") = false := by decide
        have hl1 : (s.heap.push ({ cls := .type "set", dict := none, data := .set #[] 0 (.fresh 0 0 (!w.params.followText "set-order")) } : Obj)).IsList l items := ⟨_, hol', rfl, nl, rfl⟩
        unfold Builtin.«set.__init__» noKeywords Builtin.Frozenset.updateFrom
        generalize hPI : pyIter = PI
        wp_walk
        subst hPI
        refine wpAny_pyIter_list hl1 ?_
        refine wpAny_bind (wpAny_runValue ?_)
        have hlS : l < s.heap.objs.size := Heap.lt_size hol
        have hh3 : A.in1.in1.in1.handled = none := by simp [hh]
        have szp : (s.heap.push ({ cls := .type "set", dict := none, data := .set #[] 0 (.fresh 0 0 (!w.params.followText "set-order")) } : Obj)).objs.size = s.heap.objs.size + 1 := Heap.size_push _ _
        have hneI : l ≠ (s.heap.push ({ cls := .type "set", dict := none, data := .set #[] 0 (.fresh 0 0 (!w.params.followText "set-order")) } : Obj)).objs.size := by rw [szp]; exact Nat.ne_of_lt (Nat.lt_succ_of_lt hlS)
        have hSf : s.heap.objs.size ∉ [(s.heap.push ({ cls := .type "set", dict := none, data := .set #[] 0 (.fresh 0 0 (!w.params.followText "set-order")) } : Obj)).objs.size, l] := by
          rw [szp]
          simp only [List.mem_cons, List.not_mem_nil, or_false, not_or]
          exact ⟨Nat.ne_of_lt (Nat.lt_succ_self _), Nat.ne_of_gt hlS⟩
        have hsz : xs.length = items.size := by rw [← StrsAre.len_eq hi, Array.length_toList]
        refine setX_loop ((Walks.list hh3 _ l hneI items).toS) s.heap.objs.size hSf xs hsz (by rw [← hsz]; exact few) (fun i v hv => texts_at hi i v (by rw [Array.getElem?_toList]; exact hv))
          (items.size - 0) 0 _ (by omega) (Nat.zero_le _) ⟨⟨_, Heap.get?_push_size _ rfl, rfl, rfl⟩, (hl1.push _)⟩ ?hS0 ?hR
        case hS0 => exact R0.at fun o e => Heap.get?_push_of_some _ e
        case hR =>
          intro s' hm hS'
          obtain ⟨h', g', d', tk', os'⟩ := s'
          obtain rfl : g' = s.gens := hm.gens
          obtain rfl : d' = s.drawn := hm.drawn
          obtain rfl : os' = s.os := hm.os
          show wpAny _ _ _ _ _ _
          refine wpAny_pure ?_
          show wpAny _ _ (ret Value.none) _ _ _
          refine wpAny_pure ⟨rfl, h', tk', rfl, hS', fun b o hb e => hm.heap b o ?_ (Heap.get?_push_of_some _ (Heap.get?_push_of_some _ e))⟩
          rw [szp]
          simp only [List.mem_cons, List.not_mem_nil, or_false, not_or]
          exact ⟨Nat.ne_of_lt hb, Nat.ne_of_lt (Nat.lt_succ_of_lt hb)⟩
      · cases r₂ with
        | error e => exact hr₂
        | ok fl₂ =>
          cases fl₂ with
          | ret r =>
            obtain ⟨rfl, h', tk, rfl, hS', hk'⟩ := hr₂
            repeat (any_goals (first | assumption | wp_step))
            exact h _ _ hS' hk'
          | _ => exact hr₂.elim
    | _ => exact hr.elim
theorem strs_of : ∀ (l : List Value), (∀ v ∈ l, ∃ z tk, v = Value.str z tk) → ∃ xs, StrsAre l xs ∧ xs = l.map fun v => txE (0, v)
  | [], _ => ⟨[], .nil, rfl⟩
  | v :: l, h => by
    obtain ⟨z, tk, rfl⟩ := h v List.mem_cons_self
    obtain ⟨xs, h1, rfl⟩ := strs_of l fun u hu => h u (List.mem_cons_of_mem _ hu)
    exact ⟨_, .cons z tk h1, rfl⟩
/-- sorted(set of texts) -/
theorem sorted_setX {a : Addr} {L : List Str} {Q : Value → Shared → Prop} (R : SetX P w s.heap a L) (hh : A.handled = none)
    (hQ : ∀ s' p (out : Array Value) (c : Nat) (ys : List Str), (∀ b o, s.heap.get? b = some o → s'.heap.get? b = some o) → s'.gens = s.gens → s'.os = s.os → s.heap.objs.size ≤ p →
      s'.heap.get? p = some (seqObj "list" out c) → StrsAre out.toList ys → sortedS ys = true → ys.Nodup → (∀ z, z ∈ ys ↔ z ∈ L) → Q (.ref p) s') :
    wpAny (model P w) A (call (.builtin "sorted") [.ref a]) Q E s := by
  obtain ⟨ob, ms, ep, tb, here, ex, dt, gd, nd, mem, bd, ft, le, ri, ld⟩ := R
  refine Calls.call_function_entry kind_sorted plain_sorted entry_sorted (args_sorted1 _) ?_
  unfold Builtin.«sorted»
  refine wpAny_bind (m := checkCount "sorted" 1 1 _) (wpAny_pure ?_)
  refine wpAny_bind (collect_set (A := A.in1) hh ⟨ob, here, ex.1, dt⟩ ft bd ri ld fun s1 vs k1 hz g1 o1 pm => ?_)
  have lenV : vs.length = ms.size := by rw [pm.length_eq, List.length_map, Array.length_toList]
  obtain ⟨xs, hS, exs⟩ := strs_of vs fun v hv => by
    obtain ⟨m, hm, q⟩ := List.mem_map.mp (pm.mem_iff.mp hv)
    obtain ⟨z, tk, e1, _⟩ := gd m hm
    exact ⟨z, tk, by rw [← q]; exact e1⟩
  have permX : xs.Perm (ms.toList.map txE) := by
    have q := pm.map fun v => txE (0, v)
    rw [List.map_map] at q
    rw [exs]
    exact q
  have lineV : vs.length ≤ sizeLine := by rw [lenV]; exact fits_of_scanBound bd
  refine wpAny_bind (wpAny_newList ?_ lineV)
  have hoL : (s1.heap.push (seqObj "list" vs.toArray 0)).get? s1.heap.objs.size = some (seqObj "list" vs.toArray 0) := Heap.get?_push_size _ rfl
  refine wpAny_bind (wpAny_holding (wpAny_call_entry slot_list_sort ⟨_, hoL, rfl⟩ entry_list_sort
    (list_sort_treeKAny strKind_oneLt (s := { s1 with heap := s1.heap.push (seqObj "list" vs.toArray 0) }) hoL hS.keysOf (fun v₁ v₂ rest e => keyKind_strs (by rw [← e]; exact hS)) lineV fun st' hp hs => ⟨_, rfl, ?_⟩) (args_list_sort _)))
  obtain ⟨ys, y1, y2, y3⟩ := sorted_out_str hS hp hs
  obtain ⟨c, hc⟩ := sortedHeap_at (vs := vs) (out := (arrOf st').map (·.2)) hoL
  have permY : ys.Perm (ms.toList.map txE) := y2.trans permX
  refine wpAny_pure ⟨_, rfl, hQ _ s1.heap.objs.size ((arrOf st').map (·.2)) c ys (fun b u e => ?_) g1 o1 hz hc y1 y3 (permY.nodup_iff.mpr nd) fun z => by rw [permY.mem_iff, ← mem z]⟩
  have q := k1 b u e
  have lt := Heap.lt_size q
  show (sortedHeap (s1.heap.push (seqObj "list" vs.toArray 0)) s1.heap.objs.size vs ((arrOf st').map (·.2))).get? b = some u
  rw [sortedHeap_old (Nat.ne_of_lt lt) (by rw [size_push']; exact Nat.lt_succ_of_lt lt)]
  exact Heap.get?_push_of_some _ q
end
/-! ### over the hand layer -/
/-- the set of the texts of L at a -/
def SetO' (P : Program) (w : World) (a : Addr) (L : List Str) : HO := .ext fun h => SetX P w h a L
section
variable {X : Cx}
def rSetX (K : PySem.W.Frag) (P : Program) (w : World) : List V → Hp → VK → Prop := fun vs H Q => ∃ (l : Addr) (xs : List Str), vs = [V.ref l] ∧ SqL K H l (xs.map V.str) ∧ xs.length ≤ 1000 ∧ ∀ p, H p = none → Q (.ref p) (upd H p (SetO' P w p xs))
theorem cr_setX (hc : X.calm = true) : CallR X (.type "set") (rSetX X.K X.prog X.w) := by
  intro pins s σ H vs us Q I r h
  obtain ⟨l, xs, rfl, hq, few, q⟩ := h
  rw [Vals.ref1 r]
  obtain ⟨its, rv, pl, hz⟩ := I.list hq
  refine call_setX (I.ok.hd hc) pl.isList (by simpa using rv.strs) (Nat.lt_of_le_of_lt (Nat.succ_le_succ few) (by decide)) fun h' tk hS hk => ?_
  have kp : ∀ b o, s.heap.get? b = some o → h'.get? b = some o := fun b o e => hk b o (Heap.lt_size e) e
  obtain ⟨ob, ms, ep, tb, here, more⟩ := id hS
  exact ⟨.ref s.heap.objs.size, _, I.laid (t' := tk) kp (Nat.le_refl _) (show ObjOk X.prog X.w _ h' _ (SetO' X.prog X.w s.heap.objs.size xs) from ⟨hS, ⟨ob, here⟩, fun h1 h2 p k => SetX.at p k⟩), rfl, q _ (I.hok.fresh (Nat.le_refl _))⟩
def rSortedX (P : Program) (w : World) : List V → Hp → VK → Prop := fun vs H Q => ∃ (a : Addr) (L : List Str), vs = [V.ref a] ∧ H a = some (SetO' P w a L) ∧ L.length ≤ 1000 ∧
  ∀ (ys : List Str) (p : Addr), sortedS ys = true → ys.Nodup → (∀ z, z ∈ ys ↔ z ∈ L) → H p = none → Q (.ref p) (upd H p (.lst (ys.map V.str)))
theorem vals_texts : ∀ {us : List Value} {xs : List Str}, StrsAre us xs → Vals (xs.map V.str) us
  | _, _, .nil => .nil
  | _, _, .cons n t r => .cons ⟨t, rfl⟩ (vals_texts r)
theorem cr_sortedX (hc : X.calm = true) : CallR X (.builtin "sorted") (rSortedX X.prog X.w) := by
  intro pins s σ H vs us Q I r h
  obtain ⟨a, L, rfl, ha, few, q⟩ := h
  rw [Vals.ref1 r]
  have hX : SetX X.prog X.w s.heap a L := (I.hok a _ ha).1
  refine sorted_setX hX (I.ok.hd hc) fun s' p out c ys k g o hp hg hi hs nd hm => ?_
  have lt : ys.length ≤ L.length := List.Nodup.length_le_of_subset nd fun z hz => (hm z).1 hz
  have hlen : (ys.map V.str).length ≤ sizeLine := by rw [List.length_map]; exact Nat.le_trans (Nat.le_trans lt few) (by decide)
  have hn : H p = none := I.hok.fresh hp
  have J : Inv X pins σ (upd H p (.lst (ys.map V.str))) { s with heap := s'.heap, gens := s'.gens, drawn := s'.drawn, toks := s'.toks } :=
    I.call (ch := []) (Un.laid k hp hn) (I.hok.laid k hp ⟨hlen, out.toList, c, vals_texts hi, hg⟩) (by rw [g]; exact I.bare) (fun _ z => nomatch z)
  obtain ⟨h', g', d', t', o'⟩ := s'
  obtain rfl : o' = s.os := o
  exact ⟨.ref p, _, J, rfl, q ys p hs nd hm hn⟩
end
end Gx

set_option maxRecDepth 100000
set_option maxHeartbeats 4000000
namespace Gx
open PySem PySem.Spec PyProof.Rows L2
/-! ### rules of my own, over any program -/
section
variable {X : Cx}
/-- repr of a truth -/
theorem call_repr_bl : CallR X (.builtin "repr") (fun xs H Q => ∃ b : Bool, xs = [.bl b] ∧ Q (.str (if b then "True" else "False")) H) := by
  intro pins s σ H xs us Q I r h
  obtain ⟨b, rfl, q⟩ := h
  obtain ⟨u, rfl, rx⟩ := vals1 r
  cases (show u = Value.bool b from rx)
  exact PySem.P.repr_of_bool ⟨.str _, H, I.tok _, ⟨_, rfl⟩, q⟩
/-- the signs of a text, a text each -/
def signV (x : Str) : List V := x.cps.toList.map fun c => V.str ⟨#[c]⟩
theorem vals_signs {x : Str} {acc : Array Value} (h : ItemsOf (SignAt x) acc x.cps.size) : Vals (signV x) acc.toList := by
  have key : ∀ (l : List Nat) (vs : List Value), vs.length = l.length → (∀ (j : Nat) (v : Value), vs[j]? = some v → ∃ (c : Nat) (u : Tok), l[j]? = some c ∧ v = Value.str ⟨#[c]⟩ u) → Vals (l.map fun c => V.str ⟨#[c]⟩) vs := by
    intro l
    induction l with
    | nil =>
      intro vs hl _
      cases vs with
      | nil => exact .nil
      | cons a r => cases hl
    | cons c l ih =>
      intro vs hl hv
      cases vs with
      | nil => cases hl
      | cons v vs =>
        obtain ⟨c', u, e1, e2⟩ := hv 0 v rfl
        have e1' : c = c' := Option.some.inj e1
        subst e1'
        exact .cons ⟨u, e2⟩ (ih vs (Nat.succ.inj hl) fun j w hw => hv (j + 1) w hw)
  refine key x.cps.toList acc.toList (by rw [Array.length_toList, Array.length_toList]; exact h.1) fun j v hv => ?_
  obtain ⟨c, u, hc, e⟩ := h.2 j v (by simpa using hv)
  exact ⟨c, u, by simpa using hc, e⟩
/-- list(text) -/
theorem call_list_text (hc : X.calm = true) : CallR X (.type "list") (fun xs H Q => ∃ x : Str, xs = [.str x] ∧ x.length ≤ sizeLine ∧ ∀ l, H l = none → Q (.ref l) (upd H l (.lst (signV x)))) := by
  intro pins s σ H xs us Q I r h
  obtain ⟨x, rfl, hz, q⟩ := h
  obtain ⟨u, rfl, t, rfl⟩ := vals1 r
  refine PySem.call_list_str (I.ok.hd hc) x t (fun h' tk acc' c' kp e ha => ?_) hz
  have hv := vals_signs ha
  refine ⟨.ref s.heap.objs.size, _, I.laid (t' := tk) kp (Nat.le_refl _) (show ObjOk X.prog X.w _ h' _ (.lst (signV x)) from ⟨?_, acc'.toList, c', hv, by simpa using e⟩), rfl, q _ (I.hok.fresh (Nat.le_refl _))⟩
  rw [hv.length, Array.length_toList]
  have := ha.1
  rw [this]
  exact hz
/-- tuple(text) -/
theorem call_tuple_text (hc : X.calm = true) : CallR X (.type "tuple") (fun xs H Q => ∃ x : Str, xs = [.str x] ∧ x.length ≤ sizeLine ∧ ∀ l, H l = none → Q (.ref l) (upd H l (.tup (signV x)))) := by
  intro pins s σ H xs us Q I r h
  obtain ⟨x, rfl, hz, q⟩ := h
  obtain ⟨u, rfl, t, rfl⟩ := vals1 r
  refine PySem.call_tuple_str (I.ok.hd hc) x t (fun h' tk acc kp ha => ?_) hz
  have hv := vals_signs ha
  have I1 : Inv X pins σ H { s with heap := h', toks := tk } := I.kept (t' := tk) kp
  have hlen : (signV x).length ≤ sizeLine := by
    rw [hv.length, Array.length_toList]
    have := ha.1
    rw [this]
    exact hz
  have I2 : Inv X pins σ (upd H h'.objs.size (.tup (signV x))) { s with heap := h'.push { cls := .type "tuple", data := .seq acc }, toks := tk } :=
    I1.laid (t' := tk) (fun b o e => Heap.get?_push_of_some _ e) (Nat.le_refl _) (show ObjOk X.prog X.w _ _ _ (.tup (signV x)) from ⟨hlen, acc.toList, hv, by simpa using IsTup.new _ _⟩)
  exact ⟨.ref h'.objs.size, _, I2, rfl, q _ (I1.hok.fresh (Nat.le_refl _))⟩
/-- text * k -/
theorem op_mul_text : OpR X (binaryOp .Mult) (fun x y H Q => ∃ (a : Str) (n : Int), x = .str a ∧ y = .int n ∧ MulOk a n ∧ Q (.str (Txt.mul a n)) H) := by
  intro pins s σ H x y v u Q I rx ry h
  obtain ⟨a, n, rfl, rfl, hz, q⟩ := h
  obtain ⟨t, rfl⟩ := rx
  obtain ⟨t', rfl⟩ := ry
  exact SB.mul hz fun t' k => ⟨.str _, H, I.tok _, ⟨_, rfl⟩, q⟩
end
theorem mulOk_small {a : Str} {n : Int} (h1 : 2 ≤ n) (h2 : n ≤ 1000) (ha : a.length ≤ 1000) : MulOk a n := by
  refine ⟨?_, fun _ _ => ?_, fun _ _ => ?_⟩
  · rw [Bool.or_eq_false_iff]
    exact ⟨decide_eq_false (by omega), decide_eq_false (by omega)⟩
  · have : (1000 : Int) ≤ (2 ^ 63 - 1) / n := by
      refine (Int.le_ediv_iff_mul_le (by omega)).mpr ?_
      have : (1000 : Int) * n ≤ 1000 * 1000 := Int.mul_le_mul_of_nonneg_left h2 (by decide)
      omega
    omega
  · unfold Builtin.Str.tooLong
    refine decide_eq_false ?_
    have h3 : a.length * n.toNat ≤ 1000 * 1000 := Nat.mul_le_mul ha (by omega)
    rw [sizeLine_eq]
    omega

/-! ### defs of the top, and what they promise -/
/-- the def st stands at the top under its name -/
def Def (K : PySem.W.Frag) (mg : Str → Option Value) (x qual : Str) (st : Stmt) (ps : List Str) : Prop :=
  ∃ (f : Addr) (fd : FuncData), Fun K x qual st f fd ∧ Binds K fd ps [] ∧ mg x = some (.ref f)
/-- the name x is a def that keeps the promise sp, by at most level k -/
def Cal (P : Program) (w : World) (K : PySem.W.Frag) (mg : Str → Option Value) (base : Heap) (k : Nat) (x : Str) (ps : List Str) (sp : Sp) : Prop :=
  ∃ (f : Addr) (fd : FuncData), FnOk P w K mg base CX0 k f fd ps sp ∧ PySem.W.keepIn K (.ref f) = true ∧ Binds K fd ps [] ∧ mg x = some (.ref f)
section
variable {P : Program} {w : World} {K : PySem.W.Frag} {mg : Str → Option Value} {base : Heap}
theorem Cal.mono {j k : Nat} {x : Str} {ps : List Str} {sp : Sp} (c : Cal P w K mg base j x ps sp) (h : j ≤ k) : Cal P w K mg base k x ps sp := by
  obtain ⟨f, fd, F, kp, b, g⟩ := c
  exact ⟨f, fd, F.mono h, kp, b, g⟩
theorem Cal.imp {k : Nat} {x : Str} {ps : List Str} {sp sp' : Sp} (c : Cal P w K mg base k x ps sp) (h : ∀ vs H Q E, sp' vs H Q E → sp vs H Q E) : Cal P w K mg base k x ps sp' := by
  obtain ⟨f, fd, F, kp, b, g⟩ := c
  exact ⟨f, fd, F.imp h, kp, b, g⟩
theorem Def.cal {x qual : Str} {st : Stmt} {ps : List Str} (d : Def K mg x qual st ps) {k : Nat} {sp : Sp} (h : ∀ f fd, Fun K x qual st f fd → FnOk P w K mg base CX0 k f fd ps sp) : Cal P w K mg base k x ps sp := by
  obtain ⟨f, fd, F, b, g⟩ := d
  exact ⟨f, fd, h f fd F, F.kp, b, g⟩
end
section
variable {X : Cx}
/-- f(..), without the empty list of defaults -/
def tCl (sp : Sp) (t : TA) : TE := fun σ H Q => t σ H fun vs H1 => sp vs H1 Q E0
theorem tCl_eq (sp : Sp) (t : TA) : tCall sp [] E0 t = tCl sp t := by
  funext σ H Q
  show t σ H _ = t σ H _
  congr 1
  funext vs H1
  rw [List.append_nil]
theorem pe_cal {x : Str} {ps : List Str} {sp : Sp} {k : Nat} {e : Expr} {es : List Expr} {t : TA} {p pos : Pos} (c : Cal X.prog X.w X.K X.mg X.base k x ps sp) (hr : Room k X.A) (hg : Gl X x) (h : PA X (e :: es) t)
    (hdb : (x == ("__debug__" : Str)) = false := by decide) (he : starEach (e :: es) X.env = (false, eval e X.env) :: starEach es X.env := by rfl) (hpl : (backTo pos (starEach es X.env)).any (·.1) = false := by rfl) :
    PE X (.Call (.Name x p) (e :: es) [] pos) (tCl sp t) := by
  obtain ⟨f, fd, F, kp, b, g⟩ := c
  rw [← tCl_eq]
  exact pe_call F hr hg g kp b .nil pass0 h hdb he hpl
theorem pe_cal0 {x : Str} {ps : List Str} {sp : Sp} {k : Nat} {p pos : Pos} (c : Cal X.prog X.w X.K X.mg X.base k x ps sp) (hr : Room k X.A) (hg : Gl X x)
    (hdb : (x == ("__debug__" : Str)) = false := by decide) : PE X (.Call (.Name x p) [] [] pos) (tCl sp tNil) := by
  obtain ⟨f, fd, F, kp, b, g⟩ := c
  rw [← tCl_eq]
  exact pe_call0 F hr hg g kp b .nil pass0 hdb
end
/-- a statement, then the rest, with a word between them: what follows is shown once -/
def tCut (t u : TS) : TS := fun D σ H => ∃ Mid : L2.St → Hp → Prop, t { D with nx := Mid } σ H ∧ ∀ σ' H', Mid σ' H' → u D σ' H'
section
variable {X : Cx}
theorem pss_cut {st : Stmt} {rest : List Stmt} {t u : TS} (h1 : PS X st t) (h2 : PSs X rest u) : PSs X (st :: rest) (tCut t u) := by
  refine ⟨fun pins s σ H D I h => ?_⟩
  obtain ⟨Mid, hm, hu⟩ := h
  refine wpAny_execs_cons (thn (h1.run pins s σ H { D with nx := Mid } I hm) fun f s1 q => ?_)
  cases f with
  | next =>
    obtain ⟨σ', H', I', q⟩ := q
    exact h2.run pins s1 σ' H' D I' (hu σ' H' q)
  | ret v => exact q
  | brk => exact q
  | cont => exact q
end
theorem sqL_ne {K : PySem.W.Frag} {H : Hp} {a d : Addr} {o : HO} {xs : List V} (n : a ≠ d) (h : SqL K H a xs) : SqL K (upd H d o) a xs := by
  rcases h with (h | ⟨u, h⟩) | h
  · exact .inl (.inl (by rw [upd_ne n]; exact h))
  · exact .inl (.inr ⟨u, by rw [upd_ne n]; exact h⟩)
  · exact .inr h
theorem sqT_ne {K : PySem.W.Frag} {H : Hp} {a d : Addr} {o : HO} {xs : List V} (n : a ≠ d) (h : SqT K H a xs) : SqT K (upd H d o) a xs := by
  rcases h with (h | ⟨u, h⟩) | h
  · exact .inl (.inl (by rw [upd_ne n]; exact h))
  · exact .inl (.inr ⟨u, by rw [upd_ne n]; exact h⟩)
  · exact .inr h
theorem atI_int {α : Type} {xs : List α} {r : Int} (h0 : 0 ≤ r) (h1 : r < xs.length) : ∃ v, v ∈ xs ∧ atI xs r = some v := by
  obtain ⟨k, rfl⟩ := Int.eq_ofNat_of_zero_le h0
  have hk : k < xs.length := by omega
  exact ⟨xs[k], List.getElem_mem hk, atI_nat (List.getElem?_eq_getElem hk)⟩
theorem signV_len (z : Str) : (signV z).length = z.length := by
  unfold signV
  rw [List.length_map, Array.length_toList]
  rfl
/-- for c in text -/
theorem for_str {x : Str} {g : TG} {tb : TS} {D : Ends} {σ : L2.St} {H : Hp} (Pv : Nat → L2.St → Hp → Prop) (h0 : Pv 0 σ H)
    (hs : ∀ (i c : Nat) (σ : L2.St) (H : Hp), x.cps.toList[i]? = some c → Pv i σ H → g (.str ⟨#[c]⟩) σ H fun σ2 H2 => tb { D with nx := Pv (i + 1), ct := Pv (i + 1), bk := D.nx } σ2 H2) (hd : ∀ σ H, Pv x.cps.size σ H → D.nx σ H) :
    ∃ W : Nat → Nat → L2.St → Hp → Prop, (∃ m, W 0 m σ H) ∧ ∀ i m σ H, W i m σ H →
      ((Its x).stop i H ∧ D.nx σ H) ∨ ((Its x).go i H ∧ ∃ N : L2.St → Hp → Prop, (∀ σ' H', N σ' H' → ∃ m', m' < m ∧ W (i + 1) m' σ' H') ∧ ∀ v H', (Its x).yld i H v H' → g v σ H' fun σ2 H2 => tb { D with nx := N, ct := N, bk := D.nx } σ2 H2) := by
  refine ⟨fun i m σ H => m = x.cps.size - i ∧ i ≤ x.cps.size ∧ Pv i σ H, ⟨x.cps.size, by simp, Nat.zero_le _, h0⟩, ?_⟩
  rintro i m σ H ⟨rfl, hi, p⟩
  by_cases hlt : i < x.cps.size
  · refine .inr ⟨hlt, Pv (i + 1), fun σ' H' p' => ⟨x.cps.size - (i + 1), by omega, rfl, hlt, p'⟩, fun v H' y => ?_⟩
    obtain ⟨e, c, hc, ev⟩ := y
    subst e ev
    exact hs i c σ _ (by simpa using hc) p
  · have e : i = x.cps.size := by omega
    subst e
    exact .inl ⟨Nat.le_refl _, hd σ H p⟩
theorem decI (a b : Int) : decide (V.int a = V.int b) = decide (a = b) := decide_eq_decide.mpr ⟨V.int.inj, fun e => e ▸ rfl⟩
theorem decS (a b : Str) : decide (V.str a = V.str b) = decide (a = b) := decide_eq_decide.mpr ⟨V.str.inj, fun e => e ▸ rfl⟩
theorem app_len (a b : Str) : (a ++ b).length = a.length + b.length := by
  show (a.cps ++ b.cps).size = _
  rw [Array.size_append]
  rfl
/-- texts of one sign each, joined by nothing -/
theorem join_one {e : Str} (he : e.length = 0) : ∀ zs : List Str, (∀ z ∈ zs, z.length = 1) → (Txt.join e zs).length = zs.length := by
  have key : ∀ zs : List Str, (∀ z ∈ zs, z.length = 1) → (Str.join e zs).length = zs.length := by
    intro zs
    induction zs with
    | nil => intro _; rfl
    | cons x r ih =>
      intro h
      cases r with
      | nil => exact h x (List.mem_cons_self ..)
      | cons y r =>
        show (x ++ e ++ Str.join e (y :: r)).length = _
        rw [app_len, app_len, he, ih fun z hz => h z (List.mem_cons_of_mem _ hz), h x (List.mem_cons_self ..), List.length_cons (a := x)]
        omega
  intro zs h
  rw [TL.join_eq]
  exact key zs h
theorem sum_ones : ∀ zs : List Str, (∀ z ∈ zs, z.length = 1) → (zs.map (·.length)).sum = zs.length
  | [], _ => rfl
  | x :: r, h => by
    rw [List.map_cons, List.sum_cons, sum_ones r fun z hz => h z (List.mem_cons_of_mem _ hz), h x (List.mem_cons_self ..), List.length_cons]
    omega
theorem mul_len {a : Str} {n : Int} (h1 : 2 ≤ n) (ha : 1 ≤ a.length) : (Txt.mul a n).length = a.length * n.toNat := by
  unfold Txt.mul
  rw [if_neg (by omega)]
  have e1 : (n == 1) = false := by rw [beq_eq_false_iff_ne]; omega
  have e2 : (a.length == 0) = false := by rw [beq_eq_false_iff_ne]; omega
  rw [e1, e2, if_neg (by decide)]
  have key : ∀ (k : Nat) (acc : Array Nat), ((List.replicate k a.cps).foldl (· ++ ·) acc).size = acc.size + k * a.cps.size := by
    intro k
    induction k with
    | zero => intro acc; show acc.size = _; omega
    | succ k ih =>
      intro acc
      rw [List.replicate_succ, List.foldl_cons, ih, Array.size_append, Nat.succ_mul]
      omega
  show ((List.replicate n.toNat a.cps).foldl (· ++ ·) #[]).size = a.cps.size * n.toNat
  rw [key, Nat.mul_comm]
  show 0 + _ = _
  omega
theorem same_at {H H' : Hp} {p : Addr} {o : HO} (n : H p = none) (s : Same H H') : Same H (upd H' p o) := fun b u e => by
  rw [upd_ne (ne_of_none e n)]
  exact s b u e
/-- the three numbers of some dice -/
def DiceAt (H : Hp) (d : Addr) : Prop := ∃ x b c : Int, H d = some (.lst [.int x, .int b, .int c])
end Gx

set_option maxRecDepth 100000
set_option maxHeartbeats 4000000
namespace Gx
open PySem PySem.Spec PyProof.Rows L2
/-! ### promises that hold where no repr is under way -/
/-- no repr is under way -/
abbrev Gd (A : Around) : Prop := A.guards = some []
structure FnG (P : Program) (w : World) (K : PySem.W.Frag) (mg : Str → Option Value) (base : Heap) (CX : CXT) (k : Nat) (f : Addr) (fd : FuncData) (ps : List Str) (sp : Sp) : Prop where
  len : ∀ vs H Q E, sp vs H Q E → vs.length = ps.length
  run : ∀ (A : Around) (outer : List Env) (s : Shared) (H : Hp) (args : Args) (us : List Value) (vs : List V) (Q : VK) (E : XK),
    Gd A → Room k A → Env0 P w K mg base A outer s H → BindsTo s fd args (ps.zip us) → Vals vs us → sp vs H Q E →
      codeAny (model P w) A (.call (.ref f) args) (CR CX outer P w H s Q E) s
section
variable {P : Program} {w : World} {K : PySem.W.Frag} {mg : Str → Option Value} {base : Heap} {CX : CXT} {k : Nat} {f : Addr} {fd : FuncData} {ps : List Str} {sp : Sp}
theorem fnG_of (F : FnOk P w K mg base CX k f fd ps sp) : FnG P w K mg base CX k f fd ps sp := ⟨F.len, fun A outer s H args us vs Q E _ => F.run A outer s H args us vs Q E⟩
theorem FnG.up {j : Nat} (F : FnG P w K mg base CX j f fd ps sp) (h : j ≤ k) : FnG P w K mg base CX k f fd ps sp :=
  ⟨F.len, fun A outer s H args us vs Q E g hr => F.run A outer s H args us vs Q E g (hr.mono h)⟩
theorem FnG.less {sp' : Sp} (F : FnG P w K mg base CX k f fd ps sp) (h : ∀ vs H Q E, sp' vs H Q E → sp vs H Q E) : FnG P w K mg base CX k f fd ps sp' :=
  ⟨fun vs H Q E q => F.len vs H Q E (h vs H Q E q), fun A outer s H args us vs Q E g hr he hb hv hs => F.run A outer s H args us vs Q E g hr he hb hv (h vs H Q E hs)⟩
end
/-- a def by its body, where no repr is under way -/
theorem fnG_body {CX : CXT} {P : Program} {w : World} {K : PySem.W.Frag} {mg : Str → Option Value} {base : Heap} {k : Nat} {f : Addr} {nm ql : Str} {prm : Arguments} {bd : List Stmt} {sc : Scope}
    {dv kv dc pm cd ct oc : Value} {an od : Option Addr} {sl : Array (Option Value)} {N ps : List Str} {sp : Sp}
    (look : K.lookup f = some ⟨oc, od, .func (PySem.W.fnOf nm ql prm bd sc dv kv dc pm an cd ct), sl⟩) (hcode : PySem.W.codeIn K cd ql = true) (S : FnScope N ps sc)
    (hlen : ∀ vs H Q E, sp vs H Q E → vs.length = ps.length)
    (hb : ∀ (A : Around) (outer : List Env) (s : Shared) (H : Hp) (vs : List V) (Q : VK) (E : XK), Gd A → Room k (A.deeper (envOfC ql sc s.heap.objs.size f cd)) → sp vs H Q E →
      ∃ t, PSs (cxOf CX P w K mg base N ql sc f cd A outer s H E) bd t ∧ t { nx := fun _ H' => Q .non H', rt := Q } (start N vs) H) :
    FnG P w K mg base CX (k + 1) f (PySem.W.fnOf nm ql prm bd sc dv kv dc pm an cd ct) ps sp := by
  constructor
  · exact hlen
  · intro A outer s H args us vs Q E g room env bind rel want
    have inS : K.In s.heap := env.mod.kin.keeps fun b o e => (env.bs b o e).1
    have noLim : s.heap.NoLimit := env.mod.nolimit.keeps fun b o e => (env.bs b o e).1
    have kinds : ∀ y ∈ ps.zip us, sc.names.lookup y.1 = some .local ∨ (sc.names.lookup y.1 = some .cell ∧ ((cellsFrom (s.heap.objs.size + 1) sc.names []).lookup y.1).isSome = true) := by
      rintro ⟨n, v⟩ hy
      rcases S.par n (List.of_mem_zip hy).1 with q | q
      · exact Or.inl q
      · exact Or.inr ⟨q, PySem.W.cellsFrom_some _ _ _ (Or.inl q)⟩
    refine codeAny_call_function room.depth (inS _ _ look) rfl S.co S.gen rfl (PySem.W.codeRec_of inS hcode)
      (bind _ _ _ _ (wpAny_newFunctionEnv_cells S.kind kinds fun env' he s1 made => ?_))
    subst he
    refine ⟨noLim.keeps made.toInCall.keep, codeAny_func ?_⟩
    obtain ⟨t, ht, hq⟩ := hb A outer s H vs Q E g (room.deeper _) want
    have I0 := inv_start (CX := CX) (E := E) (N := N) S room.hd env (hlen _ _ _ _ want) rel made
    refine wpAny_mono (ht.run [] s1 (start N vs) H _ I0 hq) ?_ (fun e s' hs => hs)
    intro fl s' hs
    cases fl with
    | brk =>
      obtain ⟨_, _, _, no⟩ := hs
      exact no.elim
    | cont =>
      obtain ⟨_, _, _, no⟩ := hs
      exact no.elim
    | next =>
      obtain ⟨σ', H', J, q⟩ := hs
      exact ⟨V.non, H', J.os, J.bare, J.base, J.hok, rfl, q⟩
    | ret u =>
      obtain ⟨v, σ', H', J, rv, q⟩ := hs
      exact ⟨v, H', J.os, J.bare, J.base, J.hok, rv, q⟩
section
variable {P : Program} {w : World} {K : PySem.W.Frag} {mg : Str → Option Value} {base : Heap}
/-- .. of the text -/
theorem okG {x qual : Str} {st : Stmt} {f : Addr} {fd : FuncData} {N ps : List Str} {k : Nat} {sp : Sp} (F : Fun K x qual st f fd) (S : FnScope N ps (defScope st)) (hlen : ∀ vs H Q E, sp vs H Q E → vs.length = ps.length)
    (hb : ∀ (cdv : Value) (A : Around) (outer : List Env) (s : Shared) (H : Hp) (vs : List V) (Q : VK) (E : XK), Gd (A.deeper (envOfC qual (defScope st) s.heap.objs.size f cdv)) → Room k (A.deeper (envOfC qual (defScope st) s.heap.objs.size f cdv)) → sp vs H Q E →
      ∃ t, PSs (cxOf CX0 P w K mg base N qual (defScope st) f cdv A outer s H E).nox (defBody st) t ∧ t { nx := fun _ H' => Q .non H', rt := Q } (start N vs) H) : FnG P w K mg base CX0 (k + 1) f fd ps sp := by
  obtain ⟨oc, od, kV, doc, pm, an, cdv, ct, osl, rfl, lk, hcd⟩ := F.ex
  refine fnG_body lk hcd S hlen fun A outer s H vs Q E g hr want => ?_
  obtain ⟨t, h, q⟩ := hb cdv A outer s H vs Q E g hr want
  exact ⟨t, h.nox, q⟩
/-- .. which may raise -/
theorem okGX {x qual : Str} {st : Stmt} {f : Addr} {fd : FuncData} {N ps : List Str} {k : Nat} {sp : Sp} (F : Fun K x qual st f fd) (S : FnScope N ps (defScope st)) (hlen : ∀ vs H Q E, sp vs H Q E → vs.length = ps.length) {CX : CXT}
    (hb : ∀ (cdv : Value) (A : Around) (outer : List Env) (s : Shared) (H : Hp) (vs : List V) (Q : VK) (E : XK), Gd (A.deeper (envOfC qual (defScope st) s.heap.objs.size f cdv)) → Room k (A.deeper (envOfC qual (defScope st) s.heap.objs.size f cdv)) → sp vs H Q E →
      ∃ t, PSs (cxOf CX P w K mg base N qual (defScope st) f cdv A outer s H E) (defBody st) t ∧ t { nx := fun _ H' => Q .non H', rt := Q } (start N vs) H) : FnG P w K mg base CX (k + 1) f fd ps sp := by
  obtain ⟨oc, od, kV, doc, pm, an, cdv, ct, osl, rfl, lk, hcd⟩ := F.ex
  exact fnG_body lk hcd S hlen fun A outer s H vs Q E g hr want => hb cdv A outer s H vs Q E g hr want
/-- the name x is a def that keeps the promise sp where no repr is under way -/
def CalG (P : Program) (w : World) (K : PySem.W.Frag) (mg : Str → Option Value) (base : Heap) (k : Nat) (x : Str) (ps : List Str) (sp : Sp) : Prop :=
  ∃ (f : Addr) (fd : FuncData), FnG P w K mg base CX0 k f fd ps sp ∧ PySem.W.keepIn K (.ref f) = true ∧ Binds K fd ps [] ∧ mg x = some (.ref f)
theorem Cal.g {k : Nat} {x : Str} {ps : List Str} {sp : Sp} (c : Cal P w K mg base k x ps sp) : CalG P w K mg base k x ps sp := by
  obtain ⟨f, fd, F, r⟩ := c
  exact ⟨f, fd, fnG_of F, r⟩
theorem CalG.up {j k : Nat} {x : Str} {ps : List Str} {sp : Sp} (c : CalG P w K mg base j x ps sp) (h : j ≤ k) : CalG P w K mg base k x ps sp := by
  obtain ⟨f, fd, F, r⟩ := c
  exact ⟨f, fd, F.up h, r⟩
theorem Def.calG {x qual : Str} {st : Stmt} {ps : List Str} (d : Def K mg x qual st ps) {k : Nat} {sp : Sp} (h : ∀ f fd, Fun K x qual st f fd → FnG P w K mg base CX0 k f fd ps sp) : CalG P w K mg base k x ps sp := by
  obtain ⟨f, fd, F, b, g⟩ := d
  exact ⟨f, fd, h f fd F, F.kp, b, g⟩
end
section
variable {X : Cx}
/-- the callee runs -/
theorem runG {CX : CXT} {k : Nat} {f : Addr} {fd : FuncData} {ps : List Str} {sp : Sp} {E : XK} {ds : List Value} {dvs : List V} {pins : List (Addr × Obj)} {σ : L2.St} {H : Hp} {s : Shared} {Q : VK} {us : List Value} {vs : List V}
    (F : FnG X.prog X.w X.K X.mg X.base CX k f fd ps sp) (g : Gd X.A) (room : Room k X.A) (hb : Binds X.K fd ps ds) (hd : Vals dvs ds) (hx : Passes CX X E)
    (I : Inv X pins σ H s) (r : Vals vs us) (want : sp (vs ++ dvs) H Q E) : wpAny (model X.prog X.w) X.A (call (.ref f) us) (EP X pins σ Q) X.xe s := by
  have rel := r.append hd
  have hl : (us ++ ds).length = ps.length := rel.length.symm.trans (F.len _ _ _ _ want)
  have hc := F.run X.A X.stack s H ⟨us, []⟩ (us ++ ds) (vs ++ dvs) Q E g room I.env0 (hb s us I.kIn hl) rel want
  refine wpAny_call (codeAny_mono hc ?_)
  intro res s' hres
  match res, hres with
  | .error e, hres => exact hx pins σ H s e s' I hres
  | .ok (.ret u), hres => exact I.after hres
theorem pe_calG {x : Str} {ps : List Str} {sp : Sp} {k : Nat} {e : Expr} {es : List Expr} {t : TA} {p pos : Pos} (c : CalG X.prog X.w X.K X.mg X.base k x ps sp) (g : Gd X.A) (room : Room k X.A) (hg : Gl X x) (h : PA X (e :: es) t)
    (hdb : (x == ("__debug__" : Str)) = false := by decide) (hst : starEach (e :: es) X.env = (false, eval e X.env) :: starEach es X.env := by rfl) (hpl : (backTo pos (starEach es X.env)).any (·.1) = false := by rfl) :
    PE X (.Call (.Name x p) (e :: es) [] pos) (tCl sp t) := by
  obtain ⟨f, fd, F, kp, b, hm⟩ := c
  rw [← tCl_eq]
  refine ⟨fun pins s σ H Q I want => wpAny_Call_Name_kw (ld_glob I hg hm ?_ hdb)⟩
  exact PySem.W.callWith_K (h₀ := X.base) I.ok.mod.kin kp (thn (h.run pos pins s σ H _ I want) fun us s1 ⟨vs, H1, I1, r, q⟩ => ⟨I1.kIn, runG F g room b .nil pass0 I1 r q⟩) hst hpl
theorem pe_calG0 {x : Str} {ps : List Str} {sp : Sp} {k : Nat} {p pos : Pos} (c : CalG X.prog X.w X.K X.mg X.base k x ps sp) (g : Gd X.A) (room : Room k X.A) (hg : Gl X x)
    (hdb : (x == ("__debug__" : Str)) = false := by decide) : PE X (.Call (.Name x p) [] [] pos) (tCl sp tNil) := by
  obtain ⟨f, fd, F, kp, b, hm⟩ := c
  rw [← tCl_eq]
  exact ⟨fun pins s σ H Q I want => wpAny_Call_Name_kw (ld_glob I hg hm (PySem.W.callWith_K0 I.kIn kp (runG (us := []) F g room b .nil pass0 I .nil want)) hdb)⟩
end
/-! ### repr of data -/
theorem repr_ref {prog : Program} {w : World} {A : Around} {E : Value → Shared → Prop} {s : Shared} {Q : Value → Shared → Prop} {a : Addr} {d : PyData} {as : List Addr}
    (r : Reads s.heap (.ref a) d as) (hs : d.showable = true) (hsm : d.hasDict = true → sysModules ∉ as) (hsz : d.shown.length ≤ sizeLine) (g : Gd A) (hu : A.units + 1 + d.depth < cLine)
    (h : ∀ h' u tk, (∀ b o, s.heap.get? b = some o → h'.get? b = some o) → Q (.str d.shown u) { s with heap := h', toks := tk }) : wpAny (model prog w) A (call (.builtin "repr") [.ref a]) Q E s := by
  obtain ⟨T, idr, B⟩ := showsBy_of_reads (prog := prog) (w := w) r hs hsm hsz
  have hT := B.typeIs s fun _ _ e => e
  refine Calls.call_function_entry F.kind_repr F.plain_repr F.entry_repr (F.args_repr1 _) ?_
  unfold Builtin.«repr»
  refine wpAny_bind (m := oneArg "repr" _) (wpAny_pure ?_)
  refine wpAny_bind (wpAny_cRoomFor (by show A.units + 1 < cLine; omega) ?_)
  refine wpAny_bind (wpAny_specialOf (name := Str.ofString "__repr__") hT B.slotRepr.lookup ?_)
  refine wpAny_bind (m := callSpecialIfBound? (.ref a) (Str.ofString "__repr__")) (wpAny_callSpecialIfBound?_slotG (name := Str.ofString "__repr__") hT B.slotRepr (B.call _ _ s _ g (by show A.units + 1 + _ < cLine; omega) (fun _ _ e => e) fun h' u tk hk => ?_))
  refine wpAny_bind (wpAny_isInstance (T := "str") (b := true) rfl isSubtype_str_str ?_)
  exact wpAny_pure ⟨_, rfl, h h' u tk hk⟩
section
variable {X : Cx}
/-- repr(x), x data without dicts -/
def rRepr (K : PySem.W.Frag) : List V → Hp → VK → Prop := fun xs H Q => ∃ (x : V) (d : PyData), xs = [x] ∧ Dp K H x d ∧ d.showable = true ∧ d.hasDict = false ∧ d.depth ≤ 60 ∧ d.shown.length ≤ sizeLine ∧ Q (.str d.shown) H
theorem call_reprD (g : Gd X.A) (hu : X.A.units + 64 < cLine) : CallR X (.builtin "repr") (rRepr X.K) := by
  intro pins s σ H xs us Q I r h
  obtain ⟨x, d, rfl, hd, h1, h2, h3, h4, q⟩ := h
  obtain ⟨u, rfl, rx⟩ := vals1 r
  obtain ⟨as, hr⟩ := Dp.reads I d x u hd rx
  cases hr with
  | none => simp only [PyData.shown] at q; exact PySem.P.repr_of_none ⟨.str _, H, I.tok _, ⟨_, rfl⟩, q⟩
  | bool b => simp only [PyData.shown] at q; exact PySem.P.repr_of_bool ⟨.str _, H, I.tok _, ⟨_, rfl⟩, q⟩
  | int i t => simp only [PyData.shown] at q; exact PySem.P.repr_of_int (by simpa [PyData.showable] using h1) ⟨.str _, H, I.tok _, ⟨_, rfl⟩, q⟩
  | str y t => simp only [PyData.shown] at q h4; exact PySem.P.repr_of_str ⟨.str _, H, I.tok _, ⟨_, rfl⟩, q⟩ h4
  | list e1 e2 e3 e4 =>
    exact repr_ref (.list e1 e2 e3 e4) h1 (fun e => by rw [h2] at e; cases e) h4 g (by omega) fun h' u tk hk => ⟨.str _, H, I.kept (t' := tk) hk, ⟨_, rfl⟩, q⟩
  | tuple e1 e2 e3 e4 =>
    exact repr_ref (.tuple e1 e2 e3 e4) h1 (fun e => by rw [h2] at e; cases e) h4 g (by omega) fun h' u tk hk => ⟨.str _, H, I.kept (t' := tk) hk, ⟨_, rfl⟩, q⟩
  | dict e1 e2 e3 e4 e5 =>
    exact repr_ref (.dict e1 e2 e3 e4 e5) h1 (fun e => by rw [h2] at e; cases e) h4 g (by omega) fun h' u tk hk => ⟨.str _, H, I.kept (t' := tk) hk, ⟨_, rfl⟩, q⟩
end
/-! ### sorted of a tuple of texts -/
section
variable {X : Cx}
def rSortedTS (K : PySem.W.Frag) : List V → Hp → VK → Prop := fun vs H Q => ∃ (a : Addr) (xs : List Str), vs = [V.ref a] ∧ SqT K H a (xs.map V.str) ∧ xs.length ≤ 100000 ∧
  ∀ (ys : List Str) (p : Addr), ys.Perm xs → sortedS ys = true → H p = none → Q (.ref p) (upd H p (.lst (ys.map V.str)))
theorem cr_sortedTS : CallR X (.builtin "sorted") (rSortedTS X.K) := by
  intro pins s σ H vs us Q I r h
  obtain ⟨a, xs, rfl, ht, hz, q⟩ := h
  obtain ⟨its, rv, ⟨o, ho, hc, n, hd⟩, _⟩ := I.tuple ht
  rw [Vals.ref1 r]
  have hln : xs.length = its.length := by
    have e := rv.length
    rw [List.length_map] at e
    exact e
  have hS : StrsAre its xs := rv.strs
  have hL : its.length ≤ sizeLine := Nat.le_trans (by omega) (show 100000 ≤ sizeLine by decide)
  refine Calls.call_function_entry kind_sorted plain_sorted entry_sorted (args_sorted1 _) ?_
  unfold Builtin.«sorted»
  refine wpAny_bind (m := checkCount "sorted" 1 1 _) (wpAny_pure ?_)
  refine wpAny_bind (wpAny_collect_seq a (.inr rfl) ho hc hd (fun h' hk => ?_) (by rw [List.size_toArray]; exact hL))
  have I1 : Inv _ pins σ H { s with heap := h' } := I.kept (t' := s.toks) hk
  rw [List.toList_toArray]
  refine wpAny_bind (wpAny_newList ?_ hL)
  have hoL : (h'.push (seqObj "list" its.toArray 0)).get? h'.objs.size = some (seqObj "list" its.toArray 0) := Heap.get?_push_size _ rfl
  show wpAny _ _ _ _ _ { s with heap := h'.push (seqObj "list" its.toArray 0) }
  refine wpAny_bind (wpAny_holding (wpAny_call_entry slot_list_sort ⟨_, hoL, rfl⟩ entry_list_sort
    (list_sort_treeKAny strKind_oneLt (s := { s with heap := h'.push (seqObj "list" its.toArray 0) }) hoL hS.keysOf (fun v₁ v₂ rest e => keyKind_strs (by rw [← e]; exact hS)) hL fun st' hp hs => ⟨_, rfl, ?_⟩) (args_list_sort _)))
  obtain ⟨ys, g1, g2, g3⟩ := sorted_out_str hS hp hs
  obtain ⟨e', he'⟩ := sortedHeap_at (vs := its) (out := (arrOf st').map (·.2)) hoL
  have hlen : (ys.map V.str).length ≤ sizeLine := by
    rw [List.length_map, g2.length_eq, hln]
    exact hL
  refine wpAny_pure ⟨_, rfl, .ref h'.objs.size, upd H h'.objs.size (.lst (ys.map V.str)), I1.laid (t' := s.toks) (fun b u e => ?_) (Nat.le_refl _)
    (show ObjOk X.prog X.w _ _ _ (.lst (ys.map V.str)) from ⟨hlen, ((arrOf st').map (·.2)).toList, e', vals_of_strs g1, by rw [Array.toArray_toList]; exact he'⟩), rfl, q ys _ g2 g3 (I1.hok.fresh (Nat.le_refl _))⟩
  have hb : b < h'.objs.size := Heap.lt_size e
  rw [sortedHeap_old (Nat.ne_of_lt hb) (by rw [size_push']; exact Nat.lt_succ_of_lt hb)]
  exact Heap.get?_push_of_some _ e
end
/-! ### the end of a law whose promise holds where no repr is under way -/
/-- the abstract heap at the law's call: the script alone, if the module does not own it -/
def H00 (a : Addr) (o : Obj) (ns : List Int) (own : Bool) : Hp := fun b => if own = false ∧ b = a then some (.frz o (.lst (ns.map V.int))) else none
theorem h00_none {a b : Addr} {o : Obj} {ns : List Int} {own : Bool} (h : own = true ∨ b ≠ a) : H00 a o ns own b = none := by
  unfold H00
  rw [if_neg]
  rintro ⟨h1, h2⟩
  rcases h with h | h
  · rw [h1] at h; cases h
  · exact h h2
theorem h00_some {a b : Addr} {o : Obj} {ns : List Int} {own : Bool} {u : HO} (h : H00 a o ns own b = some u) : own = false ∧ b = a ∧ u = .frz o (.lst (ns.map V.int)) := by
  unfold H00 at h
  by_cases c : own = false ∧ b = a
  · rw [if_pos c] at h
    exact ⟨c.1, c.2, (Option.some.inj h).symm⟩
  · rw [if_neg c] at h
    cases h
theorem lawG {P : Program} {w : World} {K : PySem.W.Frag} {mg mb : Str → Option Value} {CX : CXT} {k : Nat} {fa a : Addr} {fd : FuncData} {x : Str} {sp : Sp} {t : Shared} {vs : List Value} {ns : List Int}
    (inK : K.In t.heap) (glob : t.heap.Ns mainGlobals mg) (blt : t.heap.Ns builtinsNs mb) (boot : ∀ y : Str, y ≠ "__name__" → mb y = bootBuiltins y) (noLim : t.heap.NoLimit) (gens : t.gens = #[])
    (scr : t.heap.get? a = some { cls := .type "list", data := .seq vs.toArray }) (hints : IntsAre vs ns) (short : ns.length ≤ sizeLine) (room : Room k callerA)
    (F : ∀ base : Heap, K.In base → base.Ns mainGlobals mg → FnG P w K mg base CX k fa fd [x] sp) (bind : ∀ (s : Shared) (u : Value), BindsTo s fd ⟨[u], []⟩ [(x, u)])
    (want : ∀ H : Hp, Only H → SqL K H a (ns.map V.int) → sp [.ref a] H (fun v _ => v = .bl true) fun _ _ _ => False)
    (noErr : ∀ H e s', CX [] H t (fun _ _ _ => False) e s' → False) :
    codeAny (model P w) callerA (.call (.ref fa) ⟨[.ref a], []⟩) (fun r s' => r = .ok (.ret (.bool true)) ∧ OldK t.heap s'.heap ∧ s'.os = t.os ∧ AllBare s'.gens) t := by
  have hv : Vals (ns.map V.int) vs := vals_ints hints
  have hlv : vs.length = ns.length := hints.length
  -- does the module own the script?
  obtain ⟨own, hown⟩ : ∃ own : Bool, own = (K.lookup a).isSome := ⟨_, rfl⟩
  let o : Obj := { cls := .type "list", data := .seq vs.toArray }
  have hOk : HOk P w (H00 a o ns own) t.heap := by
    intro b u e
    obtain ⟨_, rfl, rfl⟩ := h00_some e
    exact ⟨scr, by rw [List.length_map]; exact short, vs, _, hv, scr⟩
  have keepT : ∀ {b : Addr} {ob : Obj}, t.heap.get? b = some ob → own = true ∨ b ≠ a → (hidT t.heap (H00 a o ns own)).get? b = some ob := fun e n => hidT_get e (h00_none n)
  have notScr : ∀ {b : Addr} {m : Str → Option Value}, t.heap.Ns b m → b ≠ a := by
    rintro b m ⟨ob, es, ep, e, dd, _⟩ rfl
    rw [scr] at e
    cases e
    cases dd
  have nsKeep : ∀ {b : Addr} {m : Str → Option Value}, t.heap.Ns b m → (hidT t.heap (H00 a o ns own)).Ns b m := by
    intro b m n
    have ne := notScr n
    obtain ⟨ob, es, ep, e, r⟩ := n
    exact ⟨ob, es, ep, keepT e (.inr ne), r⟩
  have inK' : K.In (hidT t.heap (H00 a o ns own)) := by
    intro b ob e
    refine keepT (inK b ob e) ?_
    by_cases hb : b = a
    · subst hb
      left
      rw [hown, e]
      rfl
    · exact .inr hb
  have noLim' : (hidT t.heap (H00 a o ns own)).NoLimit := by
    obtain ⟨mc, h1, h2⟩ := noLim
    exact ⟨mc, nsKeep h1, h2⟩
  have env : Env0 P w K mg (hidT t.heap (H00 a o ns own)) callerA [] t (H00 a o ns own) := by
    refine ⟨rfl, ⟨inK', nsKeep glob, ⟨mb, nsKeep blt, boot⟩, noLim'⟩, fun b ob e => of_hidT e, Nat.le_of_eq (hidT_size _ _), trivial, ?_, hOk, .of_eq gens⟩
    intro b hb
    exact absurd (show b ∈ ([] : List Addr) from hb) List.not_mem_nil
  have only : Only (H00 a o ns own) := by
    intro b
    cases e : H00 a o ns own b with
    | none => exact .inl rfl
    | some u =>
      obtain ⟨_, _, rfl⟩ := h00_some e
      exact .inr ⟨_, _, rfl⟩
  have hS : SqL K (H00 a o ns own) a (ns.map V.int) := by
    cases own with
    | false => exact .inl (.inr ⟨o, by unfold H00; rw [if_pos ⟨rfl, rfl⟩]⟩)
    | true =>
      obtain ⟨ob, e⟩ := Option.isSome_iff_exists.mp hown.symm
      have e2 := inK a ob e
      rw [scr] at e2
      cases e2
      exact .inr ⟨_, vs.toArray, _, e, rfl, rfl, rfl, by rw [List.size_toArray, hlv]; exact short, by simpa using hv⟩
  have runs := (F _ inK' (nsKeep glob)).run callerA [] t (H00 a o ns own) ⟨[.ref a], []⟩ [.ref a] [.ref a] _ _ rfl room env (bind t (.ref a)) (.cons rfl .nil) (want _ only hS)
  refine codeAny_mono runs ?_
  intro res s' hres
  match res, hres with
  | .error e, hres => exact (noErr _ e s' hres).elim
  | .ok (.ret u), hres =>
    obtain ⟨v, H', hos, bare, un, ok', rel, rfl⟩ := hres
    obtain rfl : u = Value.bool true := rel
    refine ⟨rfl, OldK.of_keep fun b ob e => ?_, hos, bare⟩
    cases q : H00 a o ns own b with
    | none => exact un.keep b ob e q (fun z => absurd (show b ∈ ([] : List Addr) from z) List.not_mem_nil) List.not_mem_nil
    | some u =>
      obtain ⟨_, _, rfl⟩ := h00_some q
      have q' := un.frzs b _ _ q
      have e1 := (hOk b _ q).1
      rw [e] at e1
      cases e1
      exact (ok' b _ q').1
/-- what k_head leaves -/
theorem walkG {l : PySem.W.OpenLaw} {n k : Nat} {q : Program} {loose : List Str} {XP : (Str → Option Value) → Heap → Prop} {YP : World → Heap → Prop} {d : DefRec} {K : Params → PySem.W.Frag} {CX : World → CXT} {sp : World → Sp} {x : Str}
    (most : l.most = some n) (small : n ≤ sizeLine) (plain : d.params.defaults = []) (room : Room k callerA) (hY : ∀ (w : World) (h : Heap), YP w h → (K w.params).In h)
    (F : ∀ (w : World) (mg : Str → Option Value) (fa : Addr) (h : Heap), (K w.params).In h → h.Ns mainGlobals mg → mg d.name = some (.ref fa) →
      ∃ fd : FuncData, (∀ (s : Shared) (u : Value), BindsTo s fd ⟨[u], []⟩ [(x, u)]) ∧ ∀ base : Heap, (K w.params).In base → base.Ns mainGlobals mg → FnG l.prog w (K w.params) mg base (CX w) k fa fd [x] (sp w))
    (want : ∀ (w : World) (H : Hp) (a : Addr) (ns : List Int), ns.length ≤ n → Only H → SqL (K w.params) H a (ns.map V.int) → sp w [.ref a] H (fun v _ => v = .bl true) fun _ _ _ => False)
    (noErr : ∀ (w : World) (H : Hp) (s : Shared) (e : Value) (s' : Shared), CX w [] H s (fun _ _ _ => False) e s' → False) :
    PySem.W.WalkO q loose XP YP l.row.toRowW d [] (fun f vs => PySem.call f vs) := by
  refine Att.attach_call most plain fun w s₀ t mg mb fa o pm cd doc a vs ns G Y ho hd hcd hmg scr hints hlen gens => ?_
  obtain ⟨fd, bind, body⟩ := F w mg fa _ (hY w _ Y) G.T.g hmg
  exact lawG (hY w _ Y) G.T.g G.T.b G.T.builtins G.T.nolimit gens scr hints (Nat.le_trans hlen small) room body bind (fun H hO hS => want w H a ns hlen hO hS) fun H e s' => noErr w H t e s'
end Gx

set_option maxRecDepth 100000
set_option maxHeartbeats 4000000
namespace Gx
open PySem PySem.Spec PySem.W PySem.Calls Builtin Builtin.ObjectAttr
section
variable {prog : Program} {w : World} {A : Around} {R : Result → Shared → Prop} {hp : Heap} {g : Array GenState} {d : Drawn} {t : Nat} {os : OsState} {K : Frag}
/-- the first field of an own exception, over any built-in base -/
theorem exc_storeX {B : String} {bmB : List Value} {name : Str} {tk : Tok} {v : Value} {x C t0 : Addr} (SF : StoreFacts B bmB "object.__setattr__" "object")
    (inK : K.In hp) (hx : hp.get? x = some (excObj C t0 none .none)) (over : excOver K C bmB = true) (noTake : takerIn K C name = some none) (hasD : hasDictIn K C = true)
    (hq : ∀ (h' : Heap) (tk' : Nat) (dx : Addr), (∀ b o, b ≠ x → hp.get? b = some o → h'.get? b = some o) → hp.objs.size ≤ dx → dx ≠ x → h'.get? x = some (excObj C t0 (some dx) .none) →
      h'.Ns1 dx (fun y => if y = name then some v else none) → R (.ok (.ret .none)) ⟨h', g, d, tk', os⟩) :
    codeAny (model prog w) A (.call (.builtin "object.__setattr__") ⟨[.ref x, .str name tk, v], []⟩) R ⟨hp, g, d, t, os⟩ := by
  have xs : x ≠ hp.objs.size := Nat.ne_of_lt (Heap.lt_size hx)
  refine osa_openX (s := ⟨hp, g, d, t, os⟩) (od := none) SF inK ⟨hx, rfl, rfl, trivial⟩ over noTake fun b => ?_
  obtain ⟨cd, hc, hd⟩ := any_some hasD
  refine wpAny_bind (wpAny_pure (wpAny_bind (instanceDict_exc (s := ⟨hp, g, d, t, os⟩) hx (looks_clsIn inK hc) hd ?_)))
  show wpAny _ _ (storeInDict hp.objs.size (.str name tk) name v) _ _ _
  have hx1 : (hp.push (dictOf [] 0)).get? x = some (excObj C t0 none .none) := Heap.get?_push_of_some _ hx
  refine PySem.HandSPX.store_in_new ⟨_, #[], _, (Heap.get?_update_ne _ _ _ _ xs.symm).trans (Heap.get?_push_at rfl rfl), rfl, fun e he => absurd he (by simp), fun _ => rfl⟩ fun h' tk' hn hs => ?_
  refine hq h' tk' hp.objs.size (fun b o hb ho => ?_) (Nat.le_refl _) xs.symm ((hs.2 x xs).trans (Heap.get?_update_self _ hx1 rfl)) hn
  have bl : b ≠ hp.objs.size := Nat.ne_of_lt (Heap.lt_size ho)
  exact (hs.2 b bl).trans ((Heap.get?_update_ne _ _ _ _ hb).trans (Heap.get?_push_of_some _ ho))
end
end Gx
namespace Gx
open PySem PySem.Spec PySem.W PySem.Calls PyProof.Rows L2
/-! ### own exceptions with one field: class cn(B): def __init__(self, fld): self.fld = fld -/
/-- what the written part says of the class -/
structure XTxt (K : Frag) (mg : Str → Option Value) (cn fld : Str) (newId : String) (bmB : List Value) (C fI : Addr) : Prop where
  gC : mg cn = some (.ref C)
  cls : ∃ nm q N bs bm sn sub ab col dd k0 k1 k2 k3 k5, K.lookup C = some (excClassObj nm q C N bs bm true sn sub ab col dd k0 k1 k2 k3 k5 newId) ∧ excTail bmB bm = true
  over : excOver K C bmB = true
  tak : takerIn K C fld = some none
  hdC : hasDictIn K C = true
  sa : findIn K (.ref C) "__setattr__" = some (some (.builtin "object.__setattr__"))
  ga : findIn K (.ref C) "__getattribute__" = some (some (.builtin "BaseException.__getattribute__"))
  gg : findIn K (.ref C) "__getattr__" = some none
  noN : findIn K (.ref C) fld = some none
  iC : findIn K (.ref C) "__init__" = some (some (.ref fI))
  tC : typeIn K (.ref fI) = some (.type "function")
  kC : keepIn K (.ref C) = true
  exC : subIn K (.ref C) (.type "BaseException") = some true
  tyC : typeIn K (.ref C) = some (.type "type")
  te : exmOne K (.ref C) (.ref C) = some true
/-- what __init__ leaves of a new exception at x -/
structure XInit (h h' : Heap) (x C dx t0 : Addr) (fld : Str) (v : Value) : Prop where
  keep : ∀ b o, b ≠ x → h.get? b = some o → h'.get? b = some o
  obj : h'.get? x = some (excObj C t0 (some dx) .none)
  big : h.objs.size ≤ dx
  ne : dx ≠ x
  ns : h'.Ns1 dx (fun y => if y = fld then some v else none)
/-- __init__ stores the field -/
def InitDoes (K : Frag) (C fI : Addr) (fld : Str) : Prop := ∀ (prog : Program) (w : World) (A : Around) (R : Result → Shared → Prop) (s : Shared) (x t0 : Addr) (v : Value),
  K.In s.heap → s.heap.NoLimit → s.heap.get? x = some (excObj C t0 none .none) → K.lookup x = none → A.depth < recursionLimit →
  (∀ h' tk dx, XInit s.heap h' x C dx t0 fld v → R (.ok (.ret .none)) { s with heap := h', toks := tk }) → codeAny (model prog w) A (.call (.ref fI) ⟨[.ref x, v], []⟩) R s
/-- such an exception, made -/
structure XMade (h h' : Heap) (e C d : Addr) (fld : Str) (v : Value) : Prop where
  keep : ∀ b o, h.get? b = some o → h'.get? b = some o
  new : h.objs.size ≤ e
  obj : ∃ oe vs, h'.get? e = some oe ∧ oe.cls = .ref C ∧ oe.dict = some d ∧ oe.data = .fields vs ∧ vs[1]? = some .none
  big : h.objs.size ≤ d
  ne : d ≠ e
  ns : h'.Ns1 d (fun y => if y = fld then some v else none)
theorem one_line (v : Value) : [v].length ≤ sizeLine := by
  show 1 ≤ sizeLine
  decide
section
variable {prog : Program} {w : World} {A : Around} {R : Result → Shared → Prop} {s : Shared} {K : Frag} {mg : Str → Option Value} {C fI : Addr} {cn fld : Str} {B newId initId : String} {bmB : List Value}
theorem x_made (FB : ExcBaseFacts B newId initId bmB) (T : XTxt K mg cn fld newId bmB C fI) (D : InitDoes K C fI fld) {v : Value} (inK : K.In s.heap) (lim : s.heap.NoLimit) (room : A.depth + 1 < recursionLimit)
    (hq : ∀ h' tk e d, XMade s.heap h' e C d fld v → R (.ok (.ret (.ref e))) { s with heap := h', toks := tk }) : codeAny (model prog w) A (.call (.ref C) ⟨[v], []⟩) R s := by
  obtain ⟨nm, q, N, bs, bm, sn, sub, ab, col, dd, k0, k1, k2, k3, k5, hC, tail⟩ := T.cls
  obtain ⟨hp, g, dr, tk, os⟩ := s
  have stay : ∀ b o, hp.get? b = some o → ((hp.push (kdv_tup [v])).push (excObj C hp.objs.size none .none)).get? b = some o := fun b o e => Heap.get?_push_of_some _ (Heap.get?_push_of_some _ e)
  have there : ((hp.push (kdv_tup [v])).push (excObj C hp.objs.size none .none)).get? (hp.objs.size + 1) = some (excObj C hp.objs.size none .none) := by heap_get
  have fresh : K.lookup (hp.objs.size + 1) = none := by
    cases e : K.lookup (hp.objs.size + 1) with
    | none => rfl
    | some o => exact absurd (Nat.lt_of_succ_lt (Heap.lt_size (inK _ _ e))) (Nat.lt_irrefl _)
  refine PySem.HandSPX.call_own FB (fun Y => excTail_contains Y bm tail) (inK _ _ hC) (looks_findIn inK T.iC) (fun self => bind_fn inK self T.tC) (one_line v) ?_
  refine D prog w _ _ ⟨(hp.push (kdv_tup [v])).push (excObj C hp.objs.size none .none), g, dr, tk, os⟩ _ _ v (inK.keeps stay) (lim.keeps stay) there fresh room fun h' tk' dx M => ?_
  have old : ∀ b o, hp.get? b = some o → h'.get? b = some o := fun b o e => M.keep b o (Nat.ne_of_lt (Nat.lt_succ_of_lt (Heap.lt_size e))) (stay b o e)
  have z : hp.objs.size + 1 + 1 ≤ dx := by
    have q := M.big
    first
      | exact q
      | simpa only [Heap.size_push] using q
  exact ⟨rfl, hq h' tk' (hp.objs.size + 1) dx ⟨old, Nat.le_succ _, ⟨_, _, M.obj, rfl, rfl, rfl, rfl⟩, Nat.le_trans (Nat.le_trans (Nat.le_succ _) (Nat.le_succ _)) z, M.ne, M.ns⟩⟩
end
theorem relO_one {fld : Str} {v : V} {u : Value} (r : RelV v u) (f : Str) : RelO (List.lookup f [(fld, v)]) (if f = fld then some u else none) := by
  by_cases e : f = fld
  · subst e
    rw [if_pos rfl, show List.lookup f [(f, v)] = some v by simp [List.lookup]]
    exact r
  · have q : (f == fld) = false := by simpa using e
    rw [if_neg e, show List.lookup f [(fld, v)] = none by simp [List.lookup, q]]
    trivial
section
variable {X : Cx} {C fI : Addr} {cn fld : Str} {B newId initId : String} {bmB : List Value}
/-- cn(e) -/
def tMkX (C : Addr) (fld : Str) (ta : TA) : L2.St → Hp → XK → Prop := fun σ H Q => ta σ H fun vs H1 => ∃ v, vs = [v] ∧ ∀ d, H1 d = none → Q (.ref C) (some d) (upd H1 d (.xd [(fld, v)]))
theorem pmk_x {a : Expr} {ta : TA} {p pos : Pos} {k : Nat} (FB : ExcBaseFacts B newId initId bmB) (T : XTxt X.K X.mg cn fld newId bmB C fI) (D : InitDoes X.K C fI fld) (room : Room k X.A) (ha : PA X [a] ta) (hg : Gl X cn)
    (hdb : (cn == ("__debug__" : Str)) = false := by decide) (hst : starEach (a :: []) X.env = (false, eval a X.env) :: starEach [] X.env := by rfl) (hpl : (backTo pos (starEach [] X.env)).any (·.1) = false := by rfl) :
    PMk X (.Call (.Name cn p) [a] [] pos) (tMkX C fld ta) := by
  intro pins s σ H Q I h
  refine wpAny_Call_Name_kw (ld_glob I hg T.gC ?_ hdb)
  refine PySem.W.callWith_K (h₀ := X.base) I.ok.mod.kin T.kC (thn (ha.run pos pins s σ H _ I h) ?_) hst hpl
  rintro us s1 ⟨vs, H1, I1, r1, v, rfl, q1⟩
  refine ⟨I1.kIn, ?_⟩
  obtain ⟨u, rfl, rv⟩ := vals1 r1
  show wpAny _ _ (call (.ref C) [u]) _ _ _
  have lim := I1.nolimit
  obtain ⟨hp, g, dr, tk, os⟩ := s1
  refine wpAny_call (x_made FB T D I1.kIn lim (by have := room.dp; omega) fun h' tk' e d M => ?_)
  show MkP X pins σ Q (.ref e) ⟨h', g, dr, tk', os⟩
  obtain ⟨oe, fv, hoe, hc, hd, hdat, h1⟩ := M.obj
  obtain ⟨G', g1, g2⟩ := restrict h' fun b => decide (b ≠ e)
  have off : ∀ b, b ≠ e → G'.get? b = h'.get? b := fun b hb => g1 b (decide_eq_true hb)
  have gone : G'.get? e = none := g2 e (by simp)
  have old : ∀ b o, hp.get? b = some o → G'.get? b = some o := fun b o q => (off b (Nat.ne_of_lt (Nat.lt_of_lt_of_le (Heap.lt_size q) M.new))).trans (M.keep b o q)
  have ob : ObjOk X.prog X.w (upd H1 d (.xd [(fld, v)])) G' d (.xd [(fld, v)]) := ⟨_, M.ns.at (fun o q => (off d M.ne).trans q), fun f => relO_one rv f⟩
  have J : Inv X pins σ (upd H1 d (.xd [(fld, v)])) ⟨G', g, dr, tk', os⟩ := I1.laid (t' := tk') old M.big ob
  refine ⟨e, oe, fv, ⟨G', g, dr, tk', os⟩, _, .ref C, some d, rfl, J, ?_, gone, hoe, ⟨hc, hd⟩, hdat, h1, ?_, rfl, I1.bare, raises_own T.exC T.tyC, q1 d (I1.hok.fresh M.big)⟩
  · intro b o q
    have q' : G'.get? b = some o := q
    by_cases hb : b = e
    · rw [hb, gone] at q'
      cases q'
    · exact (off b hb).symm.trans q
  · rw [upd_ne (Ne.symm M.ne)]
    exact I1.hok.fresh M.new
/-- raise cn(e) -/
def tRaiseX (C : Addr) (fld : Str) (W : WX) (ta : TA) : TS := fun _ σ H => tMkX C fld ta σ H fun cls d H' => W cls d σ H'
theorem ps_raiseX {a : Expr} {ta : TA} {W : WX} {p pos pos2 : Pos} {k : Nat} (hc : X.calm = true) (FB : ExcBaseFacts B newId initId bmB) (T : XTxt X.K X.mg cn fld newId bmB C fI) (D : InitDoes X.K C fI fld) (room : Room k X.A) (tk : Takes X W) (ha : PA X [a] ta) (hg : Gl X cn)
    (hdb : (cn == ("__debug__" : Str)) = false := by decide) (hst : starEach (a :: []) X.env = (false, eval a X.env) :: starEach [] X.env := by rfl) (hpl : (backTo pos (starEach [] X.env)).any (·.1) = false := by rfl) :
    PS X (.Raise (some (.Call (.Name cn p) [a] [] pos)) none pos2) (tRaiseX C fld W ta) := ps_raise hc tk (pmk_x FB T D room ha hg hdb hst hpl)
/-- e.fld, e the exception that the suite holds (at a; its class cls, its dict d) -/
def tByX (C : Addr) (fld : Str) (a : Addr) (cls : Value) (d : Option Addr) (te : TE) : TE := fun σ H Q => te σ H fun x H1 => x = .ref a ∧ cls = .ref C ∧ ∃ (dd : Addr) (v : V), d = some dd ∧ H1 dd = some (.xd [(fld, v)]) ∧ Q v H1
theorem pe_byX {a : Addr} {oe : Obj} {cls : Value} {d : Option Addr} {pn : List (Addr × Obj)} {e : Expr} {te : TE} {pos : Pos} (T : XTxt X.K X.mg cn fld newId bmB C fI) (hz : Zc cls d oe) (hf : ∃ vs, oe.data = .fields vs) (he : PE (X.suite a ((a, oe) :: pn)) e te)
    (hb : attributeBase e fld X.env (eval e X.env) = eval e X.env := by rfl) : PE (X.suite a ((a, oe) :: pn)) (.Attribute e fld pos) (tByX C fld a cls d te) := by
  constructor
  intro pins s σ H Q I h
  refine attr_of hb (thn (he.run pins s σ H _ I h) ?_)
  rintro u s1 ⟨x, H1, I1, rx, rfl, rfl, dd, v, rfl, ea, q⟩
  obtain rfl : u = Value.ref a := rx
  obtain ⟨here, _⟩ := I1.pin (a, oe) (List.mem_append_left _ List.mem_cons_self)
  obtain ⟨vs, hd⟩ := hf
  obtain ⟨mA, hns, hr⟩ := (show ObjOk X.prog X.w H1 s1.heap dd (.xd [(fld, v)]) from I1.hok dd _ ea)
  obtain ⟨od, ho, hl⟩ := lookIn_ns hns
  have l : List.lookup fld [(fld, v)] = some v := by simp [List.lookup]
  have hrf := hr fld
  rw [l] at hrf
  obtain ⟨u, hu, ru⟩ := RelO.some_of (v := v) (o := mA fld) hrf
  have J : PySem.W.InstAt s1.heap a oe C (some od) := ⟨here, hz.1, by unfold PySem.W.notCls; rw [hd] <;> rfl, by rw [hz.2]; exact ho⟩
  exact HandSPX.exc_get I1.kIn J T.ga T.gg T.exC (PySem.W.findObj_own T.hdC T.noN rfl (by rw [hl, hu])) (handed_of ru) ⟨v, H1, I1.tok _, ru, q⟩
end
end Gx
namespace Gx
open PySem PySem.Spec PySem.Calls PyProof.Rows L2
/-! ### calls of defs that may raise, also with keywords, where no repr is under way -/
section
variable {P : Program} {w : World} {K : PySem.W.Frag} {mg : Str → Option Value} {base : Heap}
theorem FnG.toX {k : Nat} {f : Addr} {fd : FuncData} {ps : List Str} {sp : Sp} (F : FnG P w K mg base CX0 k f fd ps sp) : FnG P w K mg base (L2.CX P w) k f fd ps sp := by
  refine ⟨F.len, fun A outer s H args us vs Q E g hr he hb hv hs => codeAny_mono (F.run A outer s H args us vs Q E g hr he hb hv hs) ?_⟩
  intro r s' h
  match r, h with
  | .error e, h => exact h.elim
  | .ok (.ret u), h => exact h
/-- the name x is a def that keeps sp, and may raise -/
def CalX (P : Program) (w : World) (K : PySem.W.Frag) (mg : Str → Option Value) (base : Heap) (k : Nat) (x : Str) (ps : List Str) (sp : Sp) : Prop :=
  ∃ (f : Addr) (fd : FuncData), FnG P w K mg base (L2.CX P w) k f fd ps sp ∧ PySem.W.keepIn K (.ref f) = true ∧ Binds K fd ps [] ∧ mg x = some (.ref f)
theorem CalX.up {j k : Nat} {x : Str} {ps : List Str} {sp : Sp} (c : CalX P w K mg base j x ps sp) (h : j ≤ k) : CalX P w K mg base k x ps sp := by
  obtain ⟨f, fd, F, r⟩ := c
  exact ⟨f, fd, F.up h, r⟩
theorem CalG.toX {k : Nat} {x : Str} {ps : List Str} {sp : Sp} (c : CalG P w K mg base k x ps sp) : CalX P w K mg base k x ps sp := by
  obtain ⟨f, fd, F, r⟩ := c
  exact ⟨f, fd, F.toX, r⟩
theorem Def.calX {x qual : Str} {st : Stmt} {ps : List Str} (d : Def K mg x qual st ps) {k : Nat} {sp : Sp} (h : ∀ f fd, Fun K x qual st f fd → FnG P w K mg base (L2.CX P w) k f fd ps sp) : CalX P w K mg base k x ps sp := by
  obtain ⟨f, fd, F, b, g⟩ := d
  exact ⟨f, fd, h f fd F, F.kp, b, g⟩
/-- .. called with n values by position and keywords ks; gV puts them in the parameters' order -/
def CalK (P : Program) (w : World) (K : PySem.W.Frag) (mg : Str → Option Value) (base : Heap) (k : Nat) (x : Str) (ps : List Str) (n : Nat) (ks : List Str) (gV : List V → List V → List V) (sp : Sp) : Prop :=
  ∃ (f : Addr) (fd : FuncData) (g : List Value → List Value → List Value), FnG P w K mg base (L2.CX P w) k f fd ps sp ∧ PySem.W.keepIn K (.ref f) = true ∧ KBn K fd ps n ks g gV ∧ mg x = some (.ref f)
theorem CalK.up {j k n : Nat} {x : Str} {ps ks : List Str} {gV : List V → List V → List V} {sp : Sp} (c : CalK P w K mg base j x ps n ks gV sp) (h : j ≤ k) : CalK P w K mg base k x ps n ks gV sp := by
  obtain ⟨f, fd, g, F, r⟩ := c
  exact ⟨f, fd, g, F.up h, r⟩
/-- the top's def with keyword-only parameters and no defaults -/
def DefK (K : PySem.W.Frag) (mg : Str → Option Value) (x qual : Str) (st : Stmt) (ps : List Str) (n : Nat) (ks : List Str) : Prop :=
  ∃ (f : Addr) (fd : FuncData), Fun K x qual st f fd ∧ KBn K fd ps n ks (fun us ws => us ++ ws) (fun vs zs => vs ++ zs) ∧ mg x = some (.ref f)
theorem DefK.calK {x qual : Str} {st : Stmt} {ps ks : List Str} {n : Nat} (d : DefK K mg x qual st ps n ks) {k : Nat} {sp : Sp} (h : ∀ f fd, Fun K x qual st f fd → FnG P w K mg base (L2.CX P w) k f fd ps sp) : CalK P w K mg base k x ps n ks (fun vs zs => vs ++ zs) sp := by
  obtain ⟨f, fd, F, b, g⟩ := d
  exact ⟨f, fd, _, h f fd F, F.kp, b, g⟩
theorem kbn_of {fd : FuncData} {ps ks : List Str} {n : Nat} (h : ∀ us ws : List Value, us.length = n → ws.length = ks.length → bindArgs fd ⟨us, ks.zip ws⟩ = pure (ps.zip (us ++ ws))) : KBn K fd ps n ks (fun us ws => us ++ ws) (fun vs zs => vs ++ zs) :=
  ⟨fun s us ws _ h1 h2 => .of_eq (h us ws h1 h2), fun r1 r2 => r1.append r2⟩
end
section
variable {X : Cx}
/-- nothing is raised -/
theorem neverAt (σ : L2.St) : PassesAt (L2.CX X.prog X.w) X σ ((fun _ => E0) σ) := by
  rintro pins H s e s' I ⟨a, B, H', cls, d, _, _, _, _, _, _, _, no⟩
  exact no.elim
theorem runX {k : Nat} {f : Addr} {fd : FuncData} {ps : List Str} {sp : Sp} {E : L2.St → XK} {args : Args} {pins : List (Addr × Obj)} {σ : L2.St} {H : Hp} {s : Shared} {Q : VK} {us : List Value} {vs : List V}
    (F : FnG X.prog X.w X.K X.mg X.base (L2.CX X.prog X.w) k f fd ps sp) (g : Gd X.A) (room : Room k X.A) (hb : BindsTo s fd args (ps.zip us)) (hx : PassesAt (L2.CX X.prog X.w) X σ (E σ))
    (I : Inv X pins σ H s) (r : Vals vs us) (want : sp vs H Q (E σ)) : wpAny (model X.prog X.w) X.A (call (.ref f) args.pos args.kw) (EP X pins σ Q) X.xe s := by
  have hc := F.run X.A X.stack s H args us vs Q (E σ) g room I.env0 hb r want
  refine wpAny_call (codeAny_mono hc ?_)
  intro res s' hres
  match res, hres with
  | .error e, hres => exact hx pins H s e s' I hres
  | .ok (.ret u), hres => exact I.after hres
def tClX (sp : Sp) (E : L2.St → XK) (t : TA) : TE := fun σ H Q => t σ H fun vs H1 => sp vs H1 Q (E σ)
theorem pe_calX {x : Str} {ps : List Str} {sp : Sp} {k : Nat} {e : Expr} {es : List Expr} {t : TA} {E : L2.St → XK} {p pos : Pos} (c : CalX X.prog X.w X.K X.mg X.base k x ps sp) (g : Gd X.A) (room : Room k X.A) (hg : Gl X x) (hx : ∀ σ, PassesAt (L2.CX X.prog X.w) X σ (E σ)) (h : PA X (e :: es) t)
    (hdb : (x == ("__debug__" : Str)) = false := by decide) (hst : starEach (e :: es) X.env = (false, eval e X.env) :: starEach es X.env := by rfl) (hpl : (backTo pos (starEach es X.env)).any (·.1) = false := by rfl) :
    PE X (.Call (.Name x p) (e :: es) [] pos) (tClX sp E t) := by
  obtain ⟨f, fd, F, kp, b, hm⟩ := c
  refine ⟨fun pins s σ H Q I want => wpAny_Call_Name_kw (ld_glob I hg hm ?_ hdb)⟩
  refine PySem.W.callWith_K (h₀ := X.base) I.ok.mod.kin kp (thn (h.run pos pins s σ H _ I want) fun us s1 ⟨vs, H1, I1, r, q⟩ => ⟨I1.kIn, ?_⟩) hst hpl
  have hl : us.length = ps.length := r.length.symm.trans (F.len _ _ _ _ q)
  have b1 := b s1 us I1.kIn (by rw [List.append_nil]; exact hl)
  rw [List.append_nil] at b1
  exact runX (args := ⟨us, []⟩) F g room b1 (hx σ) I1 r q
def tClK (n m : Nat) (sp : Sp) (gV : List V → List V → List V) (E : L2.St → XK) (t tk : TA) : TE := fun σ H Q => t σ H fun vs H1 => tk σ H1 fun zs H2 => vs.length = n ∧ zs.length = m ∧ sp (gV vs zs) H2 Q (E σ)
theorem pe_calK {x : Str} {ps ks : List Str} {n : Nat} {gV : List V → List V → List V} {sp : Sp} {k : Nat} {e : Expr} {es : List Expr} {kws : List Keyword} {t tk : TA} {E : L2.St → XK} {p pos : Pos} (c : CalK X.prog X.w X.K X.mg X.base k x ps n ks gV sp) (g : Gd X.A) (room : Room k X.A) (hg : Gl X x)
    (hx : ∀ σ, PassesAt (L2.CX X.prog X.w) X σ (E σ)) (h : PA X (e :: es) t) (hk : PK X kws tk) (hall : (backToKw pos (keywordEach kws X.env)).all (·.1.isSome) = true := by rfl) (hks : (backToKw pos (keywordEach kws X.env)).filterMap (·.1) = ks := by rfl)
    (hdb : (x == ("__debug__" : Str)) = false := by decide) (hst : starEach (e :: es) X.env = (false, eval e X.env) :: starEach es X.env := by rfl)
    (hpl : ((backTo pos (starEach (e :: es) X.env)).any (·.1) || (backToKw pos (keywordEach kws X.env)).any (·.1.isNone)) = false := by rfl) :
    PE X (.Call (.Name x p) (e :: es) kws pos) (tClK n ks.length sp gV E t tk) := by
  obtain ⟨f, fd, gg, F, kp, b, hm⟩ := c
  refine ⟨fun pins s σ H Q I want => wpAny_Call_Name_kw (ld_glob I hg hm ?_ hdb)⟩
  refine PySem.W.callWith_KW (h₀ := X.base) I.ok.mod.kin kp hall (thn (h.run pos pins s σ H _ I want) ?_) hpl hst
  rintro us s1 ⟨vs, H1, I1, r, q⟩
  refine thn (hk.run pos pins s1 σ H1 _ I1 q) ?_
  rintro ws s2 ⟨zs, H2, I2, rz, l1, l2, q2⟩
  refine ⟨I2.kIn, ?_⟩
  rw [hks]
  exact runX (args := ⟨us, ks.zip ws⟩) F g room (b.to s2 us ws I2.kIn (r.length.symm.trans l1) (rz.length.symm.trans l2)) (hx σ) I2 (b.rel r rz) q2
end
end Gx

set_option maxRecDepth 100000
set_option maxHeartbeats 4000000
namespace Mx
open PySem PySem.Spec PyProof.Rows L2 Gx
/-! ### names: the mathematics -/
def isLow (c : Nat) : Bool := decide (97 ≤ c ∧ c ≤ 122)
/-- whether a text is a name -/
def nameB (z : Str) : Bool := (decide (1 ≤ z.cps.size) && decide (z.cps.size ≤ 8)) && z.cps.toList.all isLow
theorem low_facts : ∀ c, c < 128 → (isLow c = true → Unicode.isAlpha c = true ∧ Unicode.isLower c = true ∧ Unicode.isUpper c = false ∧ Unicode.isTitle c = false) ∧ (Unicode.isAlpha c = true → Unicode.isUpper c = false → isLow c = true) := by decide +kernel
theorem isLow_lt {c : Nat} (h : isLow c = true) : c < 128 := by
  have := of_decide_eq_true h
  omega
/-- what is_name reckons of a text -/
theorem name_by (z : Str) (h1 : 1 ≤ z.cps.size) : (Txt.isascii z && (Txt.isalpha z && Txt.islower z)) = z.cps.toList.all isLow := by
  have hl : z.length = z.cps.size := rfl
  unfold Txt.isascii Txt.isalpha Txt.islower
  rw [Bool.eq_iff_iff]
  simp only [Bool.and_eq_true, Array.all_eq_true', Array.any_eq_true', List.all_eq_true, decide_eq_true_eq, Bool.not_eq_true', Array.any_eq_false', Bool.or_eq_true, not_or, Bool.not_eq_true, Array.mem_toList_iff, hl]
  constructor
  · rintro ⟨ha, ⟨_, hb⟩, _, hd⟩ c hc
    exact (low_facts c (ha c hc)).2 (hb c hc) (hd c hc).1
  · intro h
    have f := fun c hc => (low_facts c (isLow_lt (h c hc))).1 (h c hc)
    refine ⟨fun c hc => isLow_lt (h c hc), ⟨h1, fun c hc => (f c hc).1⟩, ⟨z.cps[0], Array.getElem_mem (by omega), (f _ (Array.getElem_mem (by omega))).2.1⟩, fun c hc => ⟨(f c hc).2.2.1, (f c hc).2.2.2⟩⟩
/-! ### counts -/
def abcL : List Nat := [97,98,99,100,101,102,103,104,105,106,107,108,109,110,111,112,113,114,115,116,117,118,119,120,121,122]
theorem count_cnt (x : Str) (c : Nat) : Txt.count x ⟨#[c]⟩ = cnt c x.cps.toList := count_is x c
theorem one_sum (n : Nat) : ∀ L : List Nat, L.Nodup → (L.map fun c => if n = c then (1 : Int) else 0).sum = if n ∈ L then 1 else 0
  | [], _ => rfl
  | a :: L, h => by
    obtain ⟨h1, h2⟩ := List.nodup_cons.mp h
    rw [List.map_cons, List.sum_cons, one_sum n L h2]
    by_cases e : n = a
    · subst e
      rw [if_pos rfl, if_neg h1, if_pos (List.mem_cons_self ..)]
      rfl
    · rw [if_neg e]
      by_cases m : n ∈ L
      · rw [if_pos m, if_pos (List.mem_cons_of_mem _ m)]; rfl
      · rw [if_neg m, if_neg (by
          rw [List.mem_cons]
          rintro (z | z)
          · exact e z
          · exact m z)]; rfl
theorem cnt_sum (L : List Nat) (hL : L.Nodup) : ∀ l : List Nat, (L.map fun c => cnt c l).sum = (l.countP (fun n => decide (n ∈ L)) : Nat)
  | [] => by
    have : ∀ L : List Nat, (L.map fun c => cnt c []).sum = 0 := fun L => by
      induction L with
      | nil => rfl
      | cons a L ih => rw [List.map_cons, List.sum_cons, ih]; rfl
    rw [this]
    rfl
  | n :: r => by
    have h : ∀ L : List Nat, (L.map fun c => cnt c (n :: r)).sum = (L.map fun c => if n = c then (1 : Int) else 0).sum + (L.map fun c => cnt c r).sum := fun L => by
      induction L with
      | nil => rfl
      | cons a L ih => rw [List.map_cons, List.sum_cons, ih, cnt_cons, List.map_cons, List.sum_cons, List.map_cons, List.sum_cons]; omega
    rw [h, one_sum n L hL, cnt_sum L hL r, List.countP_cons]
    by_cases m : n ∈ L
    · rw [if_pos m, if_pos (decide_eq_true m)]; omega
    · rw [if_neg m, if_neg (by rw [decide_eq_false m]; decide)]; omega
theorem mem_abc (n : Nat) : n ∈ abcL ↔ isLow n = true := by
  unfold isLow
  rw [decide_eq_true_eq]
  constructor
  · intro h
    have : ∀ n ∈ abcL, 97 ≤ n ∧ n ≤ 122 := by decide
    exact this n h
  · intro h
    have : ∀ n, n < 123 → 97 ≤ n → n ∈ abcL := by decide
    exact this n (by omega) h.1
/-- all letters' counts together -/
def known (z : Str) (L : List Nat) : Int := (L.map fun c => Txt.count z ⟨#[c]⟩).sum
theorem known_eq (z : Str) : known z abcL = (z.cps.toList.countP isLow : Nat) := by
  unfold known
  have e : (abcL.map fun c => Txt.count z ⟨#[c]⟩) = abcL.map fun c => cnt c z.cps.toList := List.map_congr_left fun c _ => count_cnt z c
  rw [e, cnt_sum abcL (by decide)]
  congr 2
  funext n
  rw [Bool.eq_iff_iff, decide_eq_true_eq, mem_abc]
theorem due_eq (z : Str) : (decide (known z abcL = (z.cps.size : Int)) && (decide ((0 : Int) < known z abcL) && decide (known z abcL < 9))) = nameB z := by
  rw [known_eq]
  unfold nameB
  have hz : z.cps.size = z.cps.toList.length := by simp
  have hle := List.countP_le_length (p := isLow) (l := z.cps.toList)
  by_cases h : z.cps.toList.countP isLow = z.cps.toList.length
  · have ha : z.cps.toList.all isLow = true := by
      rw [List.all_eq_true]
      exact List.countP_eq_length.mp h
    rw [ha, h, hz]
    generalize z.cps.toList.length = n
    rw [Bool.and_true, decide_eq_true (show (n : Int) = (n : Int) from rfl), Bool.true_and]
    have e1 : decide ((0 : Int) < (n : Int)) = decide (1 ≤ n) := decide_eq_decide.mpr (by omega)
    have e2 : decide ((n : Int) < 9) = decide (n ≤ 8) := decide_eq_decide.mpr (by omega)
    rw [e1, e2]
  · have ha : z.cps.toList.all isLow = false := by
      rw [Bool.eq_false_iff]
      intro q
      rw [List.all_eq_true] at q
      exact h (List.countP_eq_length.mpr q)
    rw [ha, Bool.and_false, decide_eq_false (by omega), Bool.false_and]
theorem known_step (z : Str) {L : List Nat} {i c : Nat} (h : L[i]? = some c) : known z (L.take (i + 1)) = known z (L.take i) + Txt.count z ⟨#[c]⟩ := by
  unfold known
  have e : (L.map fun c => Txt.count z ⟨#[c]⟩)[i]? = some (Txt.count z ⟨#[c]⟩) := by rw [List.getElem?_map, h]; rfl
  rw [List.map_take, List.map_take, sum_take e]
end Mx

set_option maxRecDepth 100000
set_option maxHeartbeats 4000000
namespace Mx
open PySem PySem.Spec PyProof.Rows L2 Gx
/-! ### the order of texts -/
/-- a is not behind b -/
def leS (a b : Str) : Prop := ¬ b.cps.toList < a.cps.toList
theorem leS_iff (a b : Str) : leS a b ↔ ltCps b.cps.toList a.cps.toList = false := by
  rw [ltCps_eq, decide_eq_false_iff_not]
  exact Iff.rfl
theorem leS_anti {a b : Str} (h1 : leS a b) (h2 : leS b a) : a = b := by
  have e : a.cps.toList = b.cps.toList := List.le_antisymm (as := a.cps.toList) (bs := b.cps.toList) h1 h2
  cases a
  cases b
  simp only [Str.mk.injEq]
  exact Array.toList_inj.mp e
theorem leS_refl (a : Str) : leS a a := List.lt_irrefl _
theorem leS_trans {a b c : Str} (h1 : leS a b) (h2 : leS b c) : leS a c :=
  List.le_trans (l₁ := a.cps.toList) (l₂ := b.cps.toList) (l₃ := c.cps.toList) h1 h2
theorem leS_total (a b : Str) : leS a b ∨ leS b a := List.le_total a.cps.toList b.cps.toList
theorem risingS_iff : ∀ (l : List Str) (p : Str), risingS p l = true ↔ (p :: l).Pairwise leS
  | [], p => by simp [risingS]
  | x :: r, p => by
    rw [risingS, Bool.and_eq_true, risingS_iff r x, Bool.not_eq_true', ← leS_iff]
    constructor
    · rintro ⟨h1, h2⟩
      refine List.pairwise_cons.mpr ⟨fun y hy => ?_, h2⟩
      rcases List.mem_cons.mp hy with rfl | hy
      · exact h1
      · exact leS_trans h1 ((List.pairwise_cons.mp h2).1 y hy)
    · intro h
      obtain ⟨h1, h2⟩ := List.pairwise_cons.mp h
      exact ⟨h1 x (List.mem_cons_self ..), h2⟩
theorem sortedS_iff (l : List Str) : sortedS l = true ↔ l.Pairwise leS := by
  cases l with
  | nil => simp [sortedS]
  | cons x r => exact risingS_iff r x
theorem sortedS_unique {l m : List Str} (h : l.Perm m) (hl : sortedS l = true) (hm : sortedS m = true) : l = m :=
  List.Perm.eq_of_pairwise (fun _ _ _ _ => leS_anti) ((sortedS_iff l).mp hl) ((sortedS_iff m).mp hm) h
/-- a list of texts is what sorting makes of it just if it is sorted -/
theorem eq_sorted_iff {l m : List Str} (h : m.Perm l) (hm : sortedS m = true) : decide (l = m) = sortedS l := by
  cases e : sortedS l with
  | true => exact decide_eq_true (sortedS_unique h.symm e hm)
  | false => exact decide_eq_false fun q => by rw [q, hm] at e; cases e
/-! ### data of texts -/
def tD (xs : List Str) : List PyData := xs.map PyData.str
theorem eqv_texts : ∀ xs ys : List Str, PyData.eqvAll (tD xs) (tD ys) = decide (xs = ys)
  | [], [] => by simp [tD, PyData.eqvAll]
  | [], y :: ys => by simp [tD, PyData.eqvAll]
  | x :: xs, [] => by simp [tD, PyData.eqvAll]
  | x :: xs, y :: ys => by
    have ih := eqv_texts xs ys
    unfold tD at ih ⊢
    rw [List.map_cons, List.map_cons, PyData.eqvAll, ih, PyData.eqv]
    by_cases h : x = y
    · subst h
      by_cases h2 : xs = ys
      · subst h2
        simp
      · rw [decide_eq_false h2, Bool.and_false, decide_eq_false fun q => h2 (List.cons.inj q).2]
    · rw [decide_eq_false fun q => h (List.cons.inj q).1, beq_eq_false_iff_ne.mpr h, Bool.false_and]
theorem dp_texts {K : PySem.W.Frag} {H : Hp} : ∀ xs : List Str, DpAll K H (xs.map V.str) (tD xs)
  | [] => .nil
  | x :: xs => .cons (.str x) (dp_texts xs)
theorem canLay_texts : ∀ xs : List Str, (∀ x ∈ xs, PyData.strOk x = true) → PyData.canLayAll0 (tD xs) = true
  | [], _ => by simp [tD, PyData.canLayAll0]
  | x :: xs, h => by
    have ih := canLay_texts xs fun y hy => h y (List.mem_cons_of_mem _ hy)
    unfold tD at ih ⊢
    rw [List.map_cons, PyData.canLayAll0, ih, PyData.canLay0, h x (List.mem_cons_self ..)]
    rfl
theorem depth_texts : ∀ xs : List Str, PyData.depthAll (tD xs) ≤ 1
  | [] => by simp [tD, PyData.depthAll]
  | x :: xs => by
    have ih := depth_texts xs
    unfold tD at ih ⊢
    rw [List.map_cons, PyData.depthAll]
    simp only [PyData.depth]
    omega
theorem shaped_texts {xs : List Str} (h : ∀ x ∈ xs, PyData.strOk x = true) : SeqAt.shaped (.list (tD xs)) = true := by
  unfold SeqAt.shaped
  rw [Bool.and_eq_true]
  refine ⟨by simp only [PyData.canLay0]; exact canLay_texts xs h, decide_eq_true ?_⟩
  have := depth_texts xs
  simp only [PyData.depth]
  omega
theorem shaped_textsT {xs : List Str} (h : ∀ x ∈ xs, PyData.strOk x = true) : SeqAt.shaped (.tuple (tD xs)) = true := by
  unfold SeqAt.shaped
  rw [Bool.and_eq_true]
  refine ⟨by simp only [PyData.canLay0]; exact canLay_texts xs h, decide_eq_true ?_⟩
  have := depth_texts xs
  simp only [PyData.depth]
  omega
end Mx

set_option maxRecDepth 100000
set_option maxHeartbeats 4000000
namespace Gx
open PySem PySem.Spec PyProof.Rows L2 SeqAt
open AutoSeq1 (wpAny_loadPart')
/-! ### a dict is no tuple -/
theorem tup_eq_dict (l b : Addr) (items : Array Value) (n : Nat) (dd dd2 : Option Addr) (sl sl2 : Array (Option Value)) (d2 : Data) :
    Meets (Builtin.«tuple.__eq__» ⟨[.ref l, .ref b], []⟩) (fun _ R s => s.heap.get? l = some { cls := .type "tuple", dict := dd, data := .seq items n, slots := sl } ∧ s.heap.get? b = some { cls := .type "dict", dict := dd2, data := d2, slots := sl2 } ∧ R (.ok (.ret .notImplemented)) s) :=
  .of_wp fun prog w A R s h => by obtain ⟨hp, g, d, tk, os⟩ := s; obtain ⟨hl, hb, h⟩ := h; have f1 := F.sub_dict_tuple; wp_walk using wpAny_loadPart' hl, wpAny_loadPart' hb; exact ⟨_, rfl, h⟩
theorem dict_eq_tup {prog : Program} {w : World} {A : Around} {E : Value → Shared → Prop} {s : Shared} {Q : Value → Shared → Prop} {a b : Addr} (da : s.TypeIs (.ref a) "dict") (hb : s.TypeIs (.ref b) "tuple") (h : Q .notImplemented s) :
    wpAny (model prog w) A (call (.builtin "dict.__eq__") [.ref a, .ref b]) Q E s := by
  refine wpAny_call_entry PySem.F.slot_dict_eq da PySem.F.entry_dict_eq ?_ (PySem.F.args_dict_eq_2 _ _)
  show wpAny _ _ (Builtin.Dict.dictSlotArgs "__eq__" ⟨[.ref a, .ref b], []⟩ >>= _) _ _ s
  refine wpAny_bind ?_
  unfold Builtin.Dict.dictSlotArgs
  refine wpAny_bind (wpAny_notOrdered_dict da ?_)
  show wpAny _ _ (pure (Value.ref a, Value.ref b)) _ _ s
  refine wpAny_pure ?_
  refine wpAny_bind (wpAny_isInstance (T := "tuple") hb PySem.F.sub_tuple_dict ?_)
  simp only [Bool.not_false, if_true]
  exact wpAny_bind (wpAny_rule (wpAny_bind (wpAny_pure (wpAny_pure ⟨_, rfl, h⟩))))
section
variable {A : Around} {s : Shared}
theorem eqAt_tup_dict {l b : Addr} {items : Array Value} {ob : Obj} (hl : s.heap.IsTuple l items) (hb : s.heap.get? b = some ob) (hcb : ob.cls = .type "dict") (hu : A.units < cLine) : EqAt A s (.ref l) (.ref b) false := by
  obtain ⟨⟨cls, dd, data, sl⟩, ho, hc, n, hd⟩ := id hl
  simp only at hc hd
  subst hc hd
  obtain ⟨cls2, dd2, data2, sl2⟩ := ob
  simp only at hcb
  subst hcb
  have hne : l ≠ b := fun e => by
    subst e
    rw [ho] at hb
    exact absurd (congrArg Obj.cls (Option.some.inj hb)) (by simp)
  refine .of_refs hne fun prog w E Q h => ?_
  exact rc_eq_decline_or (k := false) ⟨_, ho, rfl⟩ ⟨_, hb, rfl⟩ (by decide) F.sub_dict_tuple F.slot_tuple_eq F.slot_dict_eq_refl
    (fun _ hq => call_meets F.slot_tuple_eq ⟨_, ho, rfl⟩ F.entry_tuple_eq (F.args_tuple_eq_2 _ _) (tup_eq_dict l b items n dd dd2 sl sl2 data2) ⟨ho, hb, hq⟩)
    (fun _ hq => dict_eq_tup ⟨_, hb, rfl⟩ ⟨_, ho, rfl⟩ hq)
    (fun _ hq => wpAny_isSame_ref_other' hne ho hb (by simp) hq) (.inr hu) h
end
section
variable {X : Cx}
/-- x in a list, data that are not deep -/
def rInF (K : PySem.W.Frag) : R2 := fun x y H Q => ∃ d ds, Dp K H x d ∧ Dp K H y (.list ds) ∧ d.canLay0 = true ∧ PyData.canLayAll0 ds = true ∧ d.depth ≤ 10 ∧ Q (.bl (ds.any fun z => PyData.eqv z d)) H
theorem op_inF (hu : X.A.units + 64 < cLine) : OpR X (compareOp .In) (rInF X.K) := by
  intro pins s σ H x y v u Q I rx ry h
  obtain ⟨d, ds, hd, he, sd, se, dp, q⟩ := h
  obtain ⟨as, r1⟩ := Dp.reads I d x v hd rx
  obtain ⟨bs, r2⟩ := Dp.reads I (.list ds) y u he ry
  exact SeqAt.in_list_reads r2 r1 se sd (by omega) ⟨.bl _, H, I, rfl, q⟩
/-- a dict in a list of tuples: it is not in it -/
def rInDict (K : PySem.W.Frag) : R2 := fun x y H Q => ∃ (a l : Addr) (kvs : List (Key × V)) (ps : List Addr), x = .ref a ∧ H a = some (.dK kvs) ∧ y = .ref l ∧ SqL K H l (ps.map V.ref) ∧ (∀ p ∈ ps, ∃ xs, SqT K H p xs) ∧ Q (.bl false) H
theorem op_inDict (hu : X.A.units + 64 < cLine) : OpR X (compareOp .In) (rInDict X.K) := by
  intro pins s σ H x y v u Q I rx ry h
  obtain ⟨a, l, kvs, ps, rfl, ea, rfl, hl, hp, q⟩ := h
  cases rx
  cases ry
  obtain ⟨its, rv, pl, hz⟩ := I.list hl
  have ei := refs_at rv
  subst ei
  obtain ⟨_, _, vs, _, hd⟩ := dk_of I.hok ea
  obtain ⟨ob, hb, hD⟩ := Heap.dictOf_iff.mp hd
  have hcb : ob.cls = .type "dict" := by
    obtain ⟨es, ep, ex, _⟩ := hD
    exact ex.1
  refine SeqAt.in_listAt (fun _ => false) pl.isList (fun y hy => ?_) ⟨.bl false, H, I, ?_, q⟩
  · rw [List.mem_toArray] at hy
    obtain ⟨p, hpm, rfl⟩ := List.mem_map.mp hy
    obtain ⟨xs, hx⟩ := hp p hpm
    obtain ⟨its2, _, ht, _⟩ := I.tuple hx
    exact eqAt_tup_dict ht hb hcb (by show X.A.units + 1 < cLine; omega)
  · show Value.bool _ = Value.bool false
    rw [Array.any_eq_false' |>.mpr (fun _ _ => by simp)]
end
end Gx

set_option maxRecDepth 100000
set_option maxHeartbeats 4000000
/-! own errors over a built-in error that takes another's maker (KeyError takes LookupError's) -/
namespace Gx
open PySem PySem.Spec PySem.Calls Builtin
/-- what making asks of the chain -/
structure Chn (B : String) (bm : List Value) : Prop where
  own : bm.contains (.type B) = true
  att : bm.contains (.type "AttributeError") = false
  nam : bm.contains (.type "NameError") = false
section
variable {M : Model} {prog : Program} {w : World} {A : Around} {E : Value → Shared → Prop} {R : Result → Shared → Prop} {hp : Heap} {gn : Array GenState} {dr : Drawn} {tk : Nat} {os : OsState}
variable {nm q : Str} {C N : Addr} {bs bm bmB : List Value} {hdct : Bool} {sn : List Str} {sub : List Value} {ab : Bool} {col : Option Bool} {dd : Option Addr} {k0 k1 k2 k3 k5 : Option Value} {B mk ini : String}
theorem kx_check (F : ExcBaseFacts B mk ini bmB) (ch : Chn B bm) {us : List Value} {Q : Unit → Shared → Prop} (cc : hp.get? C = some (excClassObj nm q C N bs bm hdct sn sub ab col dd k0 k1 k2 k3 k5 mk)) (hq : Q () ⟨hp, gn, dr, tk, os⟩) :
    wpAny M A (checkBuiltinCall mk ⟨.ref C :: us, []⟩) Q E ⟨hp, gn, dr, tk, os⟩ := by
  have c1 : (Value.ref C :: bm).contains (.type B) = true := by rw [List.contains_cons, ch.own, Bool.or_true]
  have st := F.noStar
  simp only [F.newRow, F.newSplit, F.newKind, checkBuiltinCall]
  repeat (first | refine wpAny_loadPart_at cc ?_ | (refine wpAny_isSubtype_exc cc ?_; rw [c1]) | refine wpAny_staticBase_exc cc ?_ | refine wpAny_madeBy_exc cc ?_ | simp only [bne_self_eq_false, Bool.false_eq_true, if_false] | wp_step)
  exact hq
theorem kx_new (F : ExcBaseFacts B mk ini bmB) (ch : Chn B bm) {us : List Value} (cc : hp.get? C = some (excClassObj nm q C N bs bm hdct sn sub ab col dd k0 k1 k2 k3 k5 mk))
    (hq : R (.ok (.ret (.ref (hp.objs.size + 1)))) ⟨(hp.push (W.kdv_tup us)).push (W.excObj C hp.objs.size none .none), gn, dr, tk, os⟩) (hz : us.length ≤ sizeLine) :
    codeAny (model prog w) A (.builtin mk ⟨.ref C :: us, []⟩) R ⟨hp, gn, dr, tk, os⟩ := by
  have fe := F.ends
  have c1 : (Value.ref C :: bm).contains (.type B) = true := by rw [List.contains_cons, ch.own, Bool.or_true]
  have c2 : (Value.ref C :: bm).contains (.type "AttributeError") = false := by rw [List.contains_cons, ch.att]; rfl
  have c3 : (Value.ref C :: bm).contains (.type "NameError") = false := by rw [List.contains_cons, ch.nam]; rfl
  refine codeAny_builtinAt F.entry ?_
  unfold Builtin.«BaseException.__new__»
  refine wpAt_bind ?_
  show wpAt _ _ _ (stack >>= _) _ _ _
  refine wpAt_bind (wpAt_stack fun p0 low => wpAt_of_wpAny ?_)
  wp_walk
  refine wpAt_of_wpAny ?_
  rw [F.owner]
  repeat (first | with_reducible refine wpAny_madeHere_exc F.canon cc ?_ | with_reducible refine wpAny_loadPart_at cc ?_ | (with_reducible refine wpAny_isSubtype_exc cc ?_; first | rw [c1] | rw [c2] | rw [c3]) | wp_step)
  show R _ _
  rw [Heap.size_push]
  exact hq
theorem kx_type (F : ExcBaseFacts B mk ini bmB) (ch : Chn B bm) {us : List Value} {fI : Addr} {Q : Fin → Shared → Prop} (cc : hp.get? C = some (excClassObj nm q C N bs bm hdct sn sub ab col dd k0 k1 k2 k3 k5 mk))
    (li : W.Looks (model prog w) hp (typeLookup (.ref C) "__init__") (some (.ref fI))) (lb : ∀ o, W.Looks (model prog w) hp (bindSpecial (.ref fI) o) (.ref fI, [o])) (hz : us.length ≤ sizeLine)
    (hq : codeAny (model prog w) A (.call (.ref fI) ⟨.ref (hp.objs.size + 1) :: us, []⟩)
      (fun r s' => match r with | .ok (.ret v) => v = .none ∧ Q (.done (.ret (.ref (hp.objs.size + 1)))) s' | .ok _ => False | .error e => E e s')
      ⟨(hp.push (W.kdv_tup us)).push (W.excObj C hp.objs.size none .none), gn, dr, tk, os⟩) : wpAny (model prog w) A (Builtin.«type.__call__» ⟨.ref C :: us, []⟩) Q E ⟨hp, gn, dr, tk, os⟩ := by
  repeat (first | with_reducible refine wpAny_loadPart_at cc ?_ | with_reducible refine wpAny_madeBy_exc cc ?_ | wp_step)
  refine codeAny_call_builtin_code (Code.quiet_builtin _ F.quiet) (kx_check F ch cc ?_)
  refine kx_new F ch cc ?_ hz
  show wpAny _ _ _ _ _ _
  have old : ∀ b o, hp.get? b = some o → ((hp.push (W.kdv_tup us)).push (W.excObj C hp.objs.size none .none)).get? b = some o := fun b o e => Heap.get?_push_of_some _ (Heap.get?_push_of_some _ e)
  have cc1 := old _ _ cc
  have ne : ((hp.push (W.kdv_tup us)).push (W.excObj C hp.objs.size none .none)).get? (hp.objs.size + 1) = some (W.excObj C hp.objs.size none .none) := by heap_get
  have cs : (Value.ref C :: bm).contains (.ref C) = true := by simp
  have li1 := li.keeps old
  have lb1 := (lb (.ref (hp.objs.size + 1))).keeps old
  unfold isInstance
  repeat (first | with_reducible refine wpAny_loadPart_at ne ?_ | (with_reducible refine wpAny_isSubtype_exc cc1 ?_; rw [cs]) | wp_step)
  show wpAny _ _ (typeLookup (.ref C) _) _ _ _
  refine li1.at ?_
  refine wpAny_holding (wpAny_bind (lb1.at ?_))
  refine wpAny_bind (wpAny_call (codeAny_mono hq fun r s1 z => ?_))
  rcases r with e | (v | _ | _ | _) <;> first | exact z | exact z.elim | skip
  obtain ⟨rfl, z⟩ := z
  first | exact wpAny_pure (wpAny_pure z) | (wp_walk; exact z)
theorem kx_call (F : ExcBaseFacts B mk ini bmB) (ch : Chn B bm) {us : List Value} {fI : Addr} (cc : hp.get? C = some (excClassObj nm q C N bs bm hdct sn sub ab col dd k0 k1 k2 k3 k5 mk))
    (li : W.Looks (model prog w) hp (typeLookup (.ref C) "__init__") (some (.ref fI))) (lb : ∀ o, W.Looks (model prog w) hp (bindSpecial (.ref fI) o) (.ref fI, [o])) (hz : us.length ≤ sizeLine)
    (hq : codeAny (model prog w) (A.under (.builtin "type.__call__" ⟨.ref C :: us, []⟩)) (.call (.ref fI) ⟨.ref (hp.objs.size + 1) :: us, []⟩) (W.InitBack (hp.objs.size + 1) R)
      ⟨(hp.push (W.kdv_tup us)).push (W.excObj C hp.objs.size none .none), gn, dr, tk, os⟩) : codeAny (model prog w) A (.call (.ref C) ⟨us, []⟩) R ⟨hp, gn, dr, tk, os⟩ := by
  have t1 := tc_lookup
  have t2 := tc_bind (.ref C)
  have t3 : (⟨hp, gn, dr, tk, os⟩ : Shared).TypeIs (.ref C) "type" := ⟨_, cc, rfl⟩
  refine codeAny_of_tree ?_
  show wpAny _ _ (callAny (.ref C) _) _ _ _
  repeat (any_goals (first | assumption | with_reducible refine wpAny_loadPart_at cc ?_ | wp_step))
  refine ⟨rfl, ?_⟩
  refine codeAny_call_builtin_at (Code.quiet_builtin _ (by decide +kernel)) entry_typeCall (wpAny_check_type_call_sub cc (kx_type F ch cc li lb hz ?_))
  refine codeAny_mono hq fun r s1 z => ?_
  rcases r with e | (v | _ | _ | _) <;> exact z
end
end Gx
namespace Gx
open PySem PySem.Spec PySem.W PySem.Calls PyProof.Rows L2
/-! ### own errors with one field, made, over any base -/
/-- a base: the maker's facts, and what each chain over it holds -/
structure XBase (B mk ini : String) (bmF bmB : List Value) : Prop where
  F : ExcBaseFacts B mk ini bmF
  ch : ∀ bm : List Value, excTail bmB bm = true → Chn B bm
theorem xbase_of {B mk ini : String} {bmB : List Value} (F : ExcBaseFacts B mk ini bmB) : XBase B mk ini bmB bmB :=
  ⟨F, fun bm t => ⟨by rw [excTail_contains _ bm t]; exact F.hasB, by rw [excTail_contains _ bm t]; exact F.noAttr, by rw [excTail_contains _ bm t]; exact F.noName⟩⟩
abbrev bmKey : List Value := [.type "KeyError", .type "LookupError", .type "Exception", .type "BaseException", .type "object"]
theorem xbase_KeyError : XBase "LookupError" "LookupError.__new__" "LookupError.__init__" [.type "LookupError", .type "Exception", .type "BaseException", .type "object"] bmKey :=
  ⟨PySem.F.excBase_LookupError, fun bm t => ⟨by rw [excTail_contains _ bm t]; decide +kernel, by rw [excTail_contains _ bm t]; decide +kernel, by rw [excTail_contains _ bm t]; decide +kernel⟩⟩
section
variable {prog : Program} {w : World} {A : Around} {R : Result → Shared → Prop} {s : Shared} {K : Frag} {mg : Str → Option Value} {C fI : Addr} {cn fld : Str} {B mk ini : String} {bmF bmB : List Value}
theorem x_madeC (FB : XBase B mk ini bmF bmB) (T : XTxt K mg cn fld mk bmB C fI) (D : InitDoes K C fI fld) {v : Value} (inK : K.In s.heap) (lim : s.heap.NoLimit) (room : A.depth + 1 < recursionLimit)
    (hq : ∀ h' tk e d, XMade s.heap h' e C d fld v → R (.ok (.ret (.ref e))) { s with heap := h', toks := tk }) : codeAny (model prog w) A (.call (.ref C) ⟨[v], []⟩) R s := by
  obtain ⟨nm, q, N, bs, bm, sn, sub, ab, col, dd, k0, k1, k2, k3, k5, hC, tail⟩ := T.cls
  obtain ⟨hp, g, dr, tk, os⟩ := s
  have stay : ∀ b o, hp.get? b = some o → ((hp.push (kdv_tup [v])).push (excObj C hp.objs.size none .none)).get? b = some o := fun b o e => Heap.get?_push_of_some _ (Heap.get?_push_of_some _ e)
  have there : ((hp.push (kdv_tup [v])).push (excObj C hp.objs.size none .none)).get? (hp.objs.size + 1) = some (excObj C hp.objs.size none .none) := by heap_get
  have fresh : K.lookup (hp.objs.size + 1) = none := by
    cases e : K.lookup (hp.objs.size + 1) with
    | none => rfl
    | some o => exact absurd (Nat.lt_of_succ_lt (Heap.lt_size (inK _ _ e))) (Nat.lt_irrefl _)
  refine kx_call FB.F (FB.ch bm tail) (inK _ _ hC) (looks_findIn inK T.iC) (fun self => bind_fn inK self T.tC) (one_line v) ?_
  refine D prog w _ _ ⟨(hp.push (kdv_tup [v])).push (excObj C hp.objs.size none .none), g, dr, tk, os⟩ _ _ v (inK.keeps stay) (lim.keeps stay) there fresh room fun h' tk' dx M => ?_
  have old : ∀ b o, hp.get? b = some o → h'.get? b = some o := fun b o e => M.keep b o (Nat.ne_of_lt (Nat.lt_succ_of_lt (Heap.lt_size e))) (stay b o e)
  have z : hp.objs.size + 1 + 1 ≤ dx := by
    have q := M.big
    first
      | exact q
      | simpa only [Heap.size_push] using q
  exact ⟨rfl, hq h' tk' (hp.objs.size + 1) dx ⟨old, Nat.le_succ _, ⟨_, _, M.obj, rfl, rfl, rfl, rfl⟩, Nat.le_trans (Nat.le_trans (Nat.le_succ _) (Nat.le_succ _)) z, M.ne, M.ns⟩⟩
end
/-! ### errors as values -/
/-- the error at e, of the class C, its dict at d -/
def ExV (C e : Addr) (d : Option Addr) : HO := .ext fun h => ∃ (oe : Obj) (vs : Array Value), h.get? e = some oe ∧ oe.cls = .ref C ∧ oe.dict = d ∧ oe.data = .fields vs
theorem exV_ok {P : Program} {w : World} {H : Hp} {h : Heap} {C e : Addr} {d : Option Addr} {oe : Obj} {vs : Array Value} (he : h.get? e = some oe) (hc : oe.cls = .ref C) (hd : oe.dict = d) (hf : oe.data = .fields vs) : ObjOk P w H h e (ExV C e d) :=
  ⟨⟨oe, vs, he, hc, hd, hf⟩, ⟨oe, he⟩, fun h1 h2 ⟨o, us, a, b, c, f⟩ k => ⟨o, us, k _ a, b, c, f⟩⟩
theorem exV_at {P : Program} {w : World} {H : Hp} {h : Heap} {C e : Addr} {d : Option Addr} (ok : HOk P w H h) (he : H e = some (ExV C e d)) : ∃ (oe : Obj) (vs : Array Value), h.get? e = some oe ∧ oe.cls = .ref C ∧ oe.dict = d ∧ oe.data = .fields vs :=
  (show ObjOk P w H h e (ExV C e d) from ok e _ he).1
section
variable {X : Cx} {C fI : Addr} {cn fld : Str} {B mk ini : String} {bmF bmB : List Value}
/-- cn(e), the error kept -/
def tMkV (C : Addr) (fld : Str) (ta : TA) : TE := fun σ H Q => ta σ H fun vs H1 => ∃ v, vs = [v] ∧ ∀ d e, H1 d = none → H1 e = none → e ≠ d → Q (.ref e) (upd (upd H1 d (.xd [(fld, v)])) e (ExV C e (some d)))
theorem pe_mkV {a : Expr} {ta : TA} {p pos : Pos} {k : Nat} (FB : XBase B mk ini bmF bmB) (T : XTxt X.K X.mg cn fld mk bmB C fI) (D : InitDoes X.K C fI fld) (room : Room k X.A) (ha : PA X [a] ta) (hg : Gl X cn)
    (hdb : (cn == ("__debug__" : Str)) = false := by decide) (hst : starEach (a :: []) X.env = (false, eval a X.env) :: starEach [] X.env := by rfl) (hpl : (backTo pos (starEach [] X.env)).any (·.1) = false := by rfl) :
    PE X (.Call (.Name cn p) [a] [] pos) (tMkV C fld ta) := by
  refine ⟨fun pins s σ H Q I h => ?_⟩
  refine wpAny_Call_Name_kw (ld_glob I hg T.gC ?_ hdb)
  refine PySem.W.callWith_K (h₀ := X.base) I.ok.mod.kin T.kC (thn (ha.run pos pins s σ H _ I h) ?_) hst hpl
  rintro us s1 ⟨vs, H1, I1, r1, v, rfl, q1⟩
  refine ⟨I1.kIn, ?_⟩
  obtain ⟨u, rfl, rv⟩ := vals1 r1
  show wpAny _ _ (call (.ref C) [u]) _ _ _
  have lim := I1.nolimit
  obtain ⟨hp, g, dr, tk, os⟩ := s1
  refine wpAny_call (x_madeC FB T D I1.kIn lim (by have := room.dp; omega) fun h' tk' e d M => ?_)
  obtain ⟨oe, fv, hoe, hc, hd, hdat, h1⟩ := M.obj
  obtain ⟨G', g1, g2⟩ := restrict h' fun b => decide (b ≠ e)
  have off : ∀ b, b ≠ e → G'.get? b = h'.get? b := fun b hb => g1 b (decide_eq_true hb)
  have gone : G'.get? e = none := g2 e (by simp)
  have old : ∀ b o, hp.get? b = some o → G'.get? b = some o := fun b o q => (off b (Nat.ne_of_lt (Nat.lt_of_lt_of_le (Heap.lt_size q) M.new))).trans (M.keep b o q)
  have ob : ObjOk X.prog X.w (upd H1 d (.xd [(fld, v)])) G' d (.xd [(fld, v)]) := ⟨_, M.ns.at (fun o q => (off d M.ne).trans q), fun f => relO_one rv f⟩
  have J : Inv X pins σ (upd H1 d (.xd [(fld, v)])) ⟨G', g, dr, tk', os⟩ := I1.laid (t' := tk') old M.big ob
  have ne0 : H1 e = none := I1.hok.fresh M.new
  have J2 := J.laidN (h' := h') (t' := tk') (o := ExV C e (some d)) (fun b o q => by
    by_cases hb : b = e
    · have q' : G'.get? b = some o := q
      rw [hb, gone] at q'
      cases q'
    · exact (off b hb).symm.trans q) gone (by rw [upd_ne (Ne.symm M.ne)]; exact ne0) (exV_ok hoe hc hd hdat)
  exact ⟨.ref e, _, J2, rfl, q1 d e (I1.hok.fresh M.big) ne0 (Ne.symm M.ne)⟩
end
end Gx

set_option maxRecDepth 100000
set_option maxHeartbeats 4000000
namespace Gx
open PySem PySem.Spec PySem.W PySem.Calls PyProof.Rows L2
/-! ### own errors without an __init__ of their own, as values -/
/-- what the written part says of such a class -/
structure XPln (K : Frag) (mg : Str → Option Value) (cn : Str) (mk ini : String) (bmB : List Value) (C : Addr) : Prop where
  gC : mg cn = some (.ref C)
  cls : ∃ nm q N bs bm hd sn sub ab col dd k0 k1 k2 k3 k5, K.lookup C = some (excClassObj nm q C N bs bm hd sn sub ab col dd k0 k1 k2 k3 k5 mk) ∧ excTail bmB bm = true
  iC : findIn K (.ref C) "__init__" = some (some (.builtin ini))
  kC : keepIn K (.ref C) = true
/-- .. of any own class of errors, for isinstance -/
structure XCls (K : Frag) (C : Addr) : Prop where
  isC : isClsIn K C = true
  ga : findIn K (.ref C) "__getattribute__" = some (some (.builtin "BaseException.__getattribute__"))
  gg : findIn K (.ref C) "__getattr__" = some none
  ex : subIn K (.ref C) (.type "BaseException") = some true
  cl : findIn K (.ref C) "__class__" = some (some (.builtin "object.__class__"))
  sp : specialIn K (.builtin "object.__class__") "__get__" = some (some (.builtin "getset_descriptor.__get__"))
  ta : takesIn K (.builtin "object.__class__") = some true
  ob : mroIn K C (.type "object") = some true
section
variable {X : Cx} {C : Addr} {cn : Str} {B mk ini : String} {bmB : List Value}
def tMkP (C : Addr) (ta : TA) : TE := fun σ H Q => ta σ H fun vs H1 => vs.length ≤ 1000 ∧ ∀ e, H1 e = none → Q (.ref e) (upd H1 e (ExV C e none))
theorem pe_mkP {a : Expr} {ta : TA} {p pos : Pos} (F : ExcBaseFacts B mk ini bmB) (T : XPln X.K X.mg cn mk ini bmB C) (ha : PA X [a] ta) (hg : Gl X cn)
    (hdb : (cn == ("__debug__" : Str)) = false := by decide) (hst : starEach (a :: []) X.env = (false, eval a X.env) :: starEach [] X.env := by rfl) (hpl : (backTo pos (starEach [] X.env)).any (·.1) = false := by rfl) :
    PE X (.Call (.Name cn p) [a] [] pos) (tMkP C ta) := by
  refine ⟨fun pins s σ H Q I h => ?_⟩
  refine wpAny_Call_Name_kw (ld_glob I hg T.gC ?_ hdb)
  refine PySem.W.callWith_K (h₀ := X.base) I.ok.mod.kin T.kC (thn (ha.run pos pins s σ H _ I h) ?_) hst hpl
  rintro us s1 ⟨vs, H1, I1, r1, hz, q1⟩
  refine ⟨I1.kIn, ?_⟩
  obtain ⟨nm, q, N, bs, bm, hd, sn, sub, ab, col, dd, k0, k1, k2, k3, k5, hC, tail⟩ := T.cls
  have hl : us.length ≤ sizeLine := by
    rw [← r1.length]
    exact Nat.le_trans hz (by decide)
  obtain ⟨hp, g, dr, tk, os⟩ := s1
  refine PySem.W.call_B F (fun Y => excTail_contains Y bm tail) (I1.kIn _ _ hC) (looks_findIn I1.kIn T.iC) hl fun h' k he ht => ?_
  have fr := I1.hok.fresh (Nat.le_succ hp.objs.size)
  exact ⟨.ref (hp.objs.size + 1), _, I1.laid (t' := tk) k (Nat.le_succ _) (exV_ok he rfl rfl rfl), rfl, q1 _ fr⟩
end
/-- the error at e stands, with its dict if it has one -/
def ExAt (H : Hp) (e C : Addr) (d : Option Addr) (fs : List (Str × V)) : Prop := H e = some (ExV C e d) ∧ ∀ dd, d = some dd → H dd = some (.xd fs)
section
variable {X : Cx} {pins : List (Addr × Obj)} {σ : L2.St} {H : Hp} {s : Shared}
theorem exAt_inst {e C : Addr} {d : Option Addr} {fs : List (Str × V)} (I : Inv X pins σ H s) (h : ExAt H e C d fs) : ∃ (oe : Obj) (od : Option Obj), PySem.W.InstAt s.heap e oe C od := by
  obtain ⟨h1, h2⟩ := h
  obtain ⟨oe, vs, he, hc, hd, hf⟩ := exV_at I.hok h1
  have nc : PySem.W.notCls oe = true := by unfold PySem.W.notCls; rw [hf] <;> rfl
  cases d with
  | none => exact ⟨oe, none, he, hc, nc, by rw [hd]; trivial⟩
  | some dd =>
    obtain ⟨mA, hns, _⟩ := (show ObjOk X.prog X.w H s.heap dd (.xd fs) from I.hok dd _ (h2 dd rfl))
    obtain ⟨od, ho, _⟩ := lookIn_ns hns
    exact ⟨oe, some od, he, hc, nc, by rw [hd]; exact ho⟩
end
/-- isinstance(e, c), e an own error -/
def rIsV (K : PySem.W.Frag) : List V → Hp → VK → Prop := fun xs H Q => ∃ (e C : Addr) (d : Option Addr) (fs : List (Str × V)) (c : V) (u : Value) (b : Bool), xs = [.ref e, c] ∧ ExAt H e C d fs ∧ XCls K C ∧ ClsV c u ∧ PySem.W.kitOne K (.ref C) u = some b ∧ Q (.bl b) H
section
variable {X : Cx}
theorem call_isV : CallR X (.builtin "isinstance") (rIsV X.K) := by
  intro pins s σ H xs us Q I r h
  obtain ⟨e, C, d, fs, c, u, b, rfl, hx, T, k, hb, q⟩ := h
  obtain ⟨u1, u2, rfl, r1, r2⟩ := vals2 r
  have e2 := k.eq r2
  subst e2
  cases (show u1 = Value.ref e from r1)
  obtain ⟨oe, od, J⟩ := exAt_inst I hx
  exact PySem.W.kia_one (PySem.W.kitx_exc (ox := oe) (od := od) T.isC T.ga T.gg T.ex T.cl T.sp T.ta T.ob) I.kIn J hb (fun z => nomatch z) fun tk => ⟨.bl b, H, I.tok tk, rfl, q⟩
/-- e.fld, e an own error with that field -/
def tGetV (C : Addr) (fld : Str) (te : TE) : TE := fun σ H Q => te σ H fun x H1 => ∃ (e dd : Addr) (v : V), x = .ref e ∧ ExAt H1 e C (some dd) [(fld, v)] ∧ Q v H1
theorem pe_getV {C fI : Addr} {cn fld : Str} {mk : String} {bmB : List Value} {e : Expr} {te : TE} {pos : Pos} (T : XTxt X.K X.mg cn fld mk bmB C fI) (he : PE X e te)
    (hb : attributeBase e fld X.env (eval e X.env) = eval e X.env := by rfl) : PE X (.Attribute e fld pos) (tGetV C fld te) := by
  constructor
  intro pins s σ H Q I h
  refine attr_of hb (thn (he.run pins s σ H _ I h) ?_)
  rintro u s1 ⟨x, H1, I1, rx, e1, dd, v, rfl, ⟨h1, h2⟩, q⟩
  obtain rfl : u = Value.ref e1 := rx
  obtain ⟨oe, vs, here, hc, hd, hf⟩ := exV_at I1.hok h1
  obtain ⟨mA, hns, hr⟩ := (show ObjOk X.prog X.w H1 s1.heap dd (.xd [(fld, v)]) from I1.hok dd _ (h2 dd rfl))
  obtain ⟨od, ho, hl⟩ := lookIn_ns hns
  have l : List.lookup fld [(fld, v)] = some v := by simp [List.lookup]
  have hrf := hr fld
  rw [l] at hrf
  obtain ⟨u, hu, ru⟩ := RelO.some_of (v := v) (o := mA fld) hrf
  have J : PySem.W.InstAt s1.heap e1 oe C (some od) := ⟨here, hc, by unfold PySem.W.notCls; rw [hf] <;> rfl, by rw [hd]; exact ho⟩
  exact HandSPX.exc_get I1.kIn J T.ga T.gg T.exC (PySem.W.findObj_own T.hdC T.noN rfl (by rw [hl, hu])) (handed_of ru) ⟨v, H1, I1.tok _, ru, q⟩
end
end Gx

set_option maxRecDepth 100000
set_option maxHeartbeats 4000000
namespace Gx
open PySem PySem.Spec PySem.W PySem.Calls PyProof.Rows L2
/-! ### stores over KeyError -/
theorem store_KeyErr : StoreFacts "KeyError" bmKey "object.__setattr__" "object" := by
  constructor
  case mro => kernel_rfl
  case slot => exact .of (owner := "object") (n := "__setattr__") (by rw [typeLookup_type, builtinLookup_eq_fast]; kernel_rfl) (by decide +kernel) (by decide +kernel) (by decide +kernel) (.inl (by decide +kernel)) (by rw [isSubtype_type]; kernel_rfl)
  case entry => exact PySem.F.store_LookupError.entry
  case kind => decide +kernel
  case split => decide +kernel
  case hasOwner => decide +kernel
  case args => exact fun a b c => PySem.F.store_LookupError.args a b c
  case passes => exact fun o => by kernel_rfl
/-! ### the table of all errors: who is derived from whom -/
def subC (i j : Nat) : Bool := i == j || (j == 0 && decide (i ≤ 11))
def BS : List String := ["ValueError", "KeyError", "IndexError", "LookupError", "RuntimeError", "OverflowError", "ArithmeticError"]
def subB (i : Nat) (b : String) : Bool :=
  if b = "ValueError" then decide (i ≤ 11) else if b = "KeyError" then i == 12 || i == 13 else if b = "IndexError" then i == 15
  else if b = "LookupError" then decide (12 ≤ i) && decide (i ≤ 15) else if b = "RuntimeError" then i == 16 else if b = "OverflowError" then i == 17 else decide (17 ≤ i)
def xclsB (K : Frag) (C : Addr) : Bool :=
  isClsIn K C && (decide (findIn K (.ref C) "__getattribute__" = some (some (.builtin "BaseException.__getattribute__"))) && (decide (findIn K (.ref C) "__getattr__" = some none) && (decide (subIn K (.ref C) (.type "BaseException") = some true) &&
    (decide (findIn K (.ref C) "__class__" = some (some (.builtin "object.__class__"))) && (decide (specialIn K (.builtin "object.__class__") "__get__" = some (some (.builtin "getset_descriptor.__get__"))) &&
    (decide (takesIn K (.builtin "object.__class__") = some true) && decide (mroIn K C (.type "object") = some true)))))))
theorem xclsB_ok {K : Frag} {C : Addr} (h : xclsB K C = true) : XCls K C := by
  unfold xclsB at h
  simp only [Bool.and_eq_true, decide_eq_true_eq] at h
  obtain ⟨a, b, c, d, e, f, g, i⟩ := h
  exact ⟨a, b, c, d, e, f, g, i⟩
def tabB (K : Frag) (cs : List Addr) : Bool := (List.range 20).all fun i => xclsB K (cs.getD i 0) && (((List.range 20).all fun j => decide (kitOne K (.ref (cs.getD i 0)) (.ref (cs.getD j 0)) = some (subC i j))) && (BS.all fun b => decide (kitOne K (.ref (cs.getD i 0)) (.type b) = some (subB i b))))
theorem getD_range (c : Nat → Addr) {i : Nat} (h : i < 20) : ((List.range 20).map c).getD i 0 = c i := by
  rw [List.getD_eq_getElem?_getD, List.getElem?_map, List.getElem?_range h]
  rfl
section
variable {K : Frag} {c : Nat → Addr} (t : tabB K ((List.range 20).map c) = true) {i : Nat} (hi : i < 20)
include t hi
theorem tab_at : xclsB K (c i) = true ∧ (∀ j, j < 20 → kitOne K (.ref (c i)) (.ref (c j)) = some (subC i j)) ∧ ∀ b ∈ BS, kitOne K (.ref (c i)) (.type b) = some (subB i b) := by
  unfold tabB at t
  have h := List.all_eq_true.mp t i (List.mem_range.mpr hi)
  simp only [Bool.and_eq_true, List.all_eq_true, decide_eq_true_eq, List.mem_range] at h
  rw [getD_range c hi] at h
  refine ⟨h.1, fun j hj => ?_, fun b hb => h.2.2 b hb⟩
  have := h.2.1 j hj
  rw [getD_range c hj] at this
  exact this
theorem tab_cls : XCls K (c i) := xclsB_ok (tab_at t hi).1
theorem tab_own {j : Nat} (hj : j < 20) : kitOne K (.ref (c i)) (.ref (c j)) = some (subC i j) := (tab_at t hi).2.1 j hj
theorem tab_blt {b : String} (hb : b ∈ BS) : kitOne K (.ref (c i)) (.type b) = some (subB i b) := (tab_at t hi).2.2 b hb
end
end Gx

set_option maxRecDepth 100000
set_option maxHeartbeats 4000000
namespace Gx
open PySem PySem.Spec PySem.W PySem.Calls PyProof.Rows L2
/-- an own class of errors is caught by its own name -/
theorem exm_own {K : PySem.W.Frag} {S : Addr} (b : PySem.W.subIn K (.ref S) (.type "BaseException") = some true) (i : PySem.W.isClsIn K S = true) (t : PySem.W.typeIn K (.ref S) = some (.type "type")) (s : PySem.W.subIn K (.ref S) (.ref S) = some true) : PySem.W.exmOne K (.ref S) (.ref S) = some true := by
  have i' : (PySem.W.clsIn K S).isSome = true := i
  unfold PySem.W.exmOne PySem.W.kitCls
  simp [b, i', t, s]
section
variable {X : Cx} {C : Addr} {cn : Str} {B mk ini : String} {bmB : List Value}
/-- raise cn(a), an own error without an __init__ of its own -/
def tMkR (C : Addr) (ta : TA) : L2.St → Hp → XK → Prop := fun σ H Q => ta σ H fun vs H1 => vs.length ≤ 1000 ∧ Q (.ref C) none H1
theorem pmk_P {a : Expr} {ta : TA} {p pos : Pos} (F : ExcBaseFacts B mk ini bmB) (T : XPln X.K X.mg cn mk ini bmB C) (XC : XCls X.K C) (ha : PA X [a] ta) (hg : Gl X cn)
    (hdb : (cn == ("__debug__" : Str)) = false := by decide) (hst : starEach (a :: []) X.env = (false, eval a X.env) :: starEach [] X.env := by rfl) (hpl : (backTo pos (starEach [] X.env)).any (·.1) = false := by rfl) :
    PMk X (.Call (.Name cn p) [a] [] pos) (tMkR C ta) := by
  intro pins s σ H Q I h
  refine wpAny_Call_Name_kw (ld_glob I hg T.gC ?_ hdb)
  refine PySem.W.callWith_K (h₀ := X.base) I.ok.mod.kin T.kC (thn (ha.run pos pins s σ H _ I h) ?_) hst hpl
  rintro us s1 ⟨vs, H1, I1, r1, hz, q1⟩
  refine ⟨I1.kIn, ?_⟩
  obtain ⟨nm, q, N, bs, bm, hd, sn, sub, ab, col, dd, k0, k1, k2, k3, k5, hC, tail⟩ := T.cls
  have hl : us.length ≤ sizeLine := by
    rw [← r1.length]
    exact Nat.le_trans hz (by decide)
  have tyC : typeIn X.K (.ref C) = some (.type "type") := by
    show (X.K.lookup C).map (·.cls) = _
    rw [hC]
    rfl
  obtain ⟨hp, g, dr, tk, os⟩ := s1
  refine PySem.W.call_B F (fun Y => excTail_contains Y bm tail) (I1.kIn _ _ hC) (looks_findIn I1.kIn T.iC) hl fun h' k he ht => ?_
  obtain ⟨G', g1, g2⟩ := restrict h' fun b => decide (b ≠ hp.objs.size + 1)
  have off : ∀ b, b ≠ hp.objs.size + 1 → G'.get? b = h'.get? b := fun b hb => g1 b (decide_eq_true hb)
  have gone : G'.get? (hp.objs.size + 1) = none := g2 _ (by simp)
  have old : ∀ b o, hp.get? b = some o → G'.get? b = some o := fun b o q => (off b (Nat.ne_of_lt (Nat.lt_succ_of_lt (Heap.lt_size q)))).trans (k b o q)
  have J : Inv X pins σ H1 ⟨G', g, dr, tk, os⟩ := I1.kept (t' := tk) old
  refine ⟨hp.objs.size + 1, _, _, ⟨G', g, dr, tk, os⟩, H1, .ref C, none, rfl, J, ?_, gone, he, ⟨rfl, rfl⟩, rfl, rfl, I1.hok.fresh (Nat.le_succ _), rfl, I1.bare, raises_own XC.ex tyC, q1⟩
  intro b o q
  have q' : G'.get? b = some o := q
  by_cases hb : b = hp.objs.size + 1
  · rw [hb, gone] at q'
    cases q'
  · exact (off b hb).symm.trans q
end
/-! ### methods that may raise -/
/-- the class at C has a method m that keeps sp, and may raise -/
def CalMX (P : Program) (w : World) (K : PySem.W.Frag) (mg : Str → Option Value) (base : Heap) (C : Addr) (m : Str) (k : Nat) (ps : List Str) (sp : Sp) : Prop :=
  ∃ (f : Addr) (fd : FuncData), FnG P w K mg base (L2.CX P w) k f fd ps sp ∧ Meth K C m f ∧ Binds K fd ps []
theorem DefM.calX {P : Program} {w : World} {K : PySem.W.Frag} {mg : Str → Option Value} {base : Heap} {C : Addr} {m qual : Str} {st : Stmt} {k : Nat} {ps : List Str} {sp : Sp} (d : DefM K C m qual st ps)
    (h : ∀ f fd, Fun K m qual st f fd → FnG P w K mg base (L2.CX P w) k f fd ps sp) : CalMX P w K mg base C m k ps sp := by
  obtain ⟨f, fd, F, me, b, fi⟩ := d
  exact ⟨f, fd, h f fd F, me, b⟩
theorem CalMX.up {P : Program} {w : World} {K : PySem.W.Frag} {mg : Str → Option Value} {base : Heap} {C : Addr} {m : Str} {j k : Nat} {ps : List Str} {sp : Sp} (c : CalMX P w K mg base C m j ps sp) (h : j ≤ k) : CalMX P w K mg base C m k ps sp := by
  obtain ⟨f, fd, F, r⟩ := c
  exact ⟨f, fd, F.up h, r⟩
section
variable {X : Cx} {C : Addr} {m : Str} {k : Nat} {ps : List Str} {sp : Sp} {ta : TE} {t : TA} {o e : Expr} {es : List Expr} {pos apos : Pos} {E : L2.St → XK}
/-- o.m(..), which may raise -/
def tMethX (C : Addr) (m : Str) (sp : Sp) (E : L2.St → XK) (ta : TE) (t : TA) : TE := fun σ H Q => ta σ H fun x H1 => ∃ a dx fs, x = .ref a ∧ H1 a = some (.ins C dx fs) ∧ fs.lookup m = none ∧ t σ H1 fun vs H2 => sp (x :: vs) H2 Q (E σ)
theorem pe_methX {pl : Sem Bool} (he : PE X o ta) (cl : Cls X.K C) (c : CalMX X.prog X.w X.K X.mg X.base C m k ps sp) (g : Gd X.A) (room : Room k X.A) (hx : ∀ σ, PassesAt (L2.CX X.prog X.w) X σ (E σ)) (ha : PA X (e :: es) t)
    (hst : starEach (e :: es) X.env = (false, eval e X.env) :: starEach es X.env := by rfl) (hpl : (backTo pos (starEach es X.env)).any (·.1) = false := by rfl)
    (ht : eval (.Call (.Attribute o m apos) (e :: es) [] pos) X.env = (do
      let ov ← eval o X.env
      standAt apos.atName
      let (f, first) ← holding [ov] (getMethod ov m pl)
      callWith pos f first (backTo pos (starEach (e :: es) X.env)) (backToKw pos (keywordEach [] X.env))) := by rfl) :
    PE X (.Call (.Attribute o m apos) (e :: es) [] pos) (tMethX C m sp E ta t) := by
  obtain ⟨f, fd, F, hm, b⟩ := c
  refine ⟨fun pins s σ H Q I h => ?_⟩
  refine PySem.W.methodCall_KW (pl := pl) (thn (he.run pins s σ H _ I h) fun u s1 ⟨x, H1, I1, rx, a, dx, fs, ex, ea, l, q⟩ => ?_) ht
  subst ex
  obtain rfl : u = Value.ref a := rx
  refine getmeth_ok I1 ea cl hm l ?_
  refine PySem.W.callWith_K (first := [.ref a]) (h₀ := X.base) I.ok.mod.kin hm.kp (thn (ha.run pos pins s1 σ H1 _ I1 q) fun us s2 ⟨vs, H2, I2, r, q2⟩ => ⟨I2.kIn, ?_⟩) hst hpl
  have hl : (Value.ref a :: us).length = ps.length := by
    rw [← F.len _ _ _ _ q2, List.length_cons, List.length_cons, r.length]
  have b1 := b s2 (.ref a :: us) I2.kIn (by rw [List.append_nil]; exact hl)
  rw [List.append_nil] at b1
  exact runX (us := .ref a :: us) (vs := .ref a :: vs) (args := ⟨.ref a :: us, []⟩) F g room b1 (hx σ) I2 (.cons rfl r) q2
end
end Gx

set_option maxRecDepth 100000
set_option maxHeartbeats 4000000
/-! ### own end: a law whose promise holds where no repr is under way, and whose defs make lambdas -/
namespace Gx
open PySem PySem.Spec PyProof.Rows L2
/-- the abstract heap at the law's call: the script and the empty tables of the defs that make lambdas -/
def H0T (a : Addr) (o : Obj) (ns : List Int) (own : Bool) (ts : List Addr) : Hp := fun b => if b ∈ ts then some (.tbl #[]) else H00 a o ns own b
theorem h0t_in {a b : Addr} {o : Obj} {ns : List Int} {own : Bool} {ts : List Addr} (h : b ∈ ts) : H0T a o ns own ts b = some (.tbl #[]) := by
  unfold H0T
  rw [if_pos h]
theorem h0t_out {a b : Addr} {o : Obj} {ns : List Int} {own : Bool} {ts : List Addr} (h : b ∉ ts) : H0T a o ns own ts b = H00 a o ns own b := by
  unfold H0T
  rw [if_neg h]
theorem h0t_some {a b : Addr} {o : Obj} {ns : List Int} {own : Bool} {ts : List Addr} {u : HO} (h : H0T a o ns own ts b = some u) : (b ∈ ts ∧ u = .tbl #[]) ∨ (b ∉ ts ∧ own = false ∧ b = a ∧ u = .frz o (.lst (ns.map V.int))) := by
  by_cases c : b ∈ ts
  · rw [h0t_in c] at h
    cases h
    exact .inl ⟨c, rfl⟩
  · rw [h0t_out c] at h
    exact .inr ⟨c, h00_some h⟩
/-- the tables cs stand in the heap, and the module does not name them -/
structure TabsHere (K : PySem.W.Frag) (h : Heap) (cs : List (Addr × Addr)) : Prop where
  hd : ∀ c ∈ cs, PySem.W.CodeHd h c.1 c.2
  at_ : ∀ c ∈ cs, h.get? c.2 = some (PySem.W.tabObj #[])
  free : ∀ c ∈ cs, K.lookup c.2 = none
theorem lawGT {P : Program} {w : World} {K : PySem.W.Frag} {mg mb : Str → Option Value} {CX : CXT} {k : Nat} {fa a : Addr} {fd : FuncData} {x : Str} {sp : Sp} {t : Shared} {vs : List Value} {ns : List Int} {cs : List (Addr × Addr)}
    (inK : K.In t.heap) (glob : t.heap.Ns mainGlobals mg) (blt : t.heap.Ns builtinsNs mb) (boot : ∀ y : Str, y ≠ "__name__" → mb y = bootBuiltins y) (noLim : t.heap.NoLimit) (gens : t.gens = #[]) (tabs : TabsHere K t.heap cs)
    (bmod : ∃ (bm : Addr) (ob : Obj), mg "__builtins__" = some (.ref bm) ∧ bm ≠ builtinsNs ∧ t.heap.get? bm = some ob ∧ ob.cls = .type "module" ∧ ob.dict = some builtinsNs ∧ ob.data = .plain)
    (scr : t.heap.get? a = some { cls := .type "list", data := .seq vs.toArray }) (hints : IntsAre vs ns) (short : ns.length ≤ sizeLine) (room : Room k callerA)
    (F : ∀ base : Heap, K.In base → base.Ns mainGlobals mg → (∀ c ∈ cs, LamX.TabB base mg c.1 c.2) → FnG P w K mg base CX k fa fd [x] sp) (bind : ∀ (s : Shared) (u : Value), BindsTo s fd ⟨[u], []⟩ [(x, u)])
    (want : ∀ H : Hp, (∀ c ∈ cs, H c.2 = some (.tbl #[])) → SqL K H a (ns.map V.int) → sp [.ref a] H (fun v _ => v = .bl true) fun _ _ _ => False)
    (noErr : ∀ H e s', CX [] H t (fun _ _ _ => False) e s' → False) :
    codeAny (model P w) callerA (.call (.ref fa) ⟨[.ref a], []⟩) (fun r s' => r = .ok (.ret (.bool true)) ∧ OldK t.heap s'.heap ∧ s'.os = t.os ∧ AllBare s'.gens) t := by
  have hv : Vals (ns.map V.int) vs := vals_ints hints
  have hlv : vs.length = ns.length := hints.length
  obtain ⟨own, hown⟩ : ∃ own : Bool, own = (K.lookup a).isSome := ⟨_, rfl⟩
  obtain ⟨ts, hts⟩ : ∃ ts : List Addr, ts = cs.map (·.2) := ⟨_, rfl⟩
  have tin : ∀ {c : Addr × Addr}, c ∈ cs → c.2 ∈ ts := fun h => by
    rw [hts]
    exact List.mem_map.mpr ⟨_, h, rfl⟩
  have tout : ∀ {b : Addr}, b ∈ ts → ∃ c ∈ cs, c.2 = b := fun h => by
    rw [hts] at h
    exact List.mem_map.mp h
  have tget : ∀ {b : Addr}, b ∈ ts → t.heap.get? b = some (PySem.W.tabObj #[]) := fun h => by
    obtain ⟨c, hc, rfl⟩ := tout h
    exact tabs.at_ c hc
  have na : a ∉ ts := fun h => by
    have e := tget h
    rw [scr] at e
    have e2 := congrArg Obj.data (Option.some.inj e)
    cases e2
  let o : Obj := { cls := .type "list", data := .seq vs.toArray }
  let H0 : Hp := H0T a o ns own ts
  have hOk : HOk P w H0 t.heap := by
    intro b u e
    rcases h0t_some e with ⟨h, rfl⟩ | ⟨_, _, rfl, rfl⟩
    · exact tget h
    · exact ⟨scr, by rw [List.length_map]; exact short, vs, _, hv, scr⟩
  have none0 : ∀ {b : Addr}, b ∉ ts → own = true ∨ b ≠ a → H0 b = none := fun h1 h2 => (h0t_out h1).trans (h00_none h2)
  have keepT : ∀ {b : Addr} {ob : Obj}, t.heap.get? b = some ob → b ∉ ts → own = true ∨ b ≠ a → (hidT t.heap H0).get? b = some ob := fun e n1 n2 => hidT_get e (none0 n1 n2)
  -- what is neither the script nor a table
  have other : ∀ {b : Addr} {ob : Obj}, t.heap.get? b = some ob → (∀ xs n, ob.data ≠ .seq xs n) → ob.data ≠ .fields #[] → b ∉ ts ∧ b ≠ a := by
    intro b ob e n1 n2
    refine ⟨fun h => ?_, fun h => ?_⟩
    · rw [tget h] at e
      cases e
      exact n2 rfl
    · rw [h, scr] at e
      cases e
      exact n1 _ _ rfl
  have nsKeep : ∀ {b : Addr} {m : Str → Option Value}, t.heap.Ns b m → (hidT t.heap H0).Ns b m := by
    rintro b m ⟨ob, es, ep, e, dd, r⟩
    obtain ⟨n1, n2⟩ := other e (fun xs n z => by rw [dd] at z; cases z) (fun z => by rw [dd] at z; cases z)
    exact ⟨ob, es, ep, keepT e n1 (.inr n2), dd, r⟩
  have inK' : K.In (hidT t.heap H0) := by
    intro b ob e
    have nt : b ∉ ts := fun h => by
      obtain ⟨c, hc, rfl⟩ := tout h
      rw [tabs.free c hc] at e
      cases e
    refine keepT (inK b ob e) nt ?_
    by_cases hb : b = a
    · subst hb
      left
      rw [hown, e]
      rfl
    · exact .inr hb
  have noLim' : (hidT t.heap H0).NoLimit := by
    obtain ⟨mc, h1, h2⟩ := noLim
    exact ⟨mc, nsKeep h1, h2⟩
  have tabB : ∀ c ∈ cs, LamX.TabB (hidT t.heap H0) mg c.1 c.2 := by
    intro c hc
    have hP := tabs.at_ c hc
    constructor
    · obtain ⟨oc, us, file, tf, flags, tg, inF, text, tt, e, r1, r2, r3, r4⟩ := tabs.hd c hc
      obtain ⟨n1, n2⟩ := other e (fun xs n z => by rw [r2] at z; cases z) (fun z => by
        rw [r2] at z
        cases z
        cases r3)
      exact ⟨oc, us, file, tf, flags, tg, inF, text, tt, keepT e n1 (.inr n2), r1, r2, r3, r4⟩
    · obtain ⟨bm, ob, b1, b2, b3, b4, b5, b6⟩ := bmod
      obtain ⟨n1, n2⟩ := other b3 (fun xs n z => by rw [b6] at z; cases z) (fun z => by rw [b6] at z; cases z)
      refine ⟨bm, ob, b1, b2, ?_, fun z => n1 (z ▸ tin hc), keepT b3 n1 (.inr n2), b4, b5, b6⟩
      rintro rfl
      obtain ⟨og, es, ep, e, dd, _⟩ := glob
      rw [b3] at e
      cases e
      rw [b6] at dd
      cases dd
    · rintro z
      obtain ⟨og, es, ep, e, dd, _⟩ := glob
      rw [z, hP] at e
      cases e
      cases dd
  have env : Env0 P w K mg (hidT t.heap H0) callerA [] t H0 := by
    refine ⟨rfl, ⟨inK', nsKeep glob, ⟨mb, nsKeep blt, boot⟩, noLim'⟩, fun b ob e => of_hidT e, Nat.le_of_eq (hidT_size _ _), trivial, ?_, hOk, .of_eq gens⟩
    intro b hb
    exact absurd (show b ∈ ([] : List Addr) from hb) List.not_mem_nil
  have hS : SqL K H0 a (ns.map V.int) := by
    cases own with
    | false =>
      refine .inl (.inr ⟨o, ?_⟩)
      show H0T a o ns false ts a = _
      rw [h0t_out na]
      unfold H00
      rw [if_pos ⟨rfl, rfl⟩]
    | true =>
      obtain ⟨ob, e⟩ := Option.isSome_iff_exists.mp hown.symm
      have e2 := inK a ob e
      rw [scr] at e2
      cases e2
      exact .inr ⟨_, vs.toArray, _, e, rfl, rfl, rfl, by rw [List.size_toArray, hlv]; exact short, by simpa using hv⟩
  have runs := (F _ inK' (nsKeep glob) tabB).run callerA [] t H0 ⟨[.ref a], []⟩ [.ref a] [.ref a] _ _ rfl room env (bind t (.ref a)) (.cons rfl .nil) (want _ (fun c hc => h0t_in (tin hc)) hS)
  refine codeAny_mono runs ?_
  intro res s' hres
  match res, hres with
  | .error e, hres => exact (noErr _ e s' hres).elim
  | .ok (.ret u), hres =>
    obtain ⟨v, H', hos, bare, un, ok', rel, rfl⟩ := hres
    obtain rfl : u = Value.bool true := rel
    have stays : ∀ b ob, b ∉ ts → t.heap.get? b = some ob → s'.heap.get? b = some ob := by
      intro b ob nb e
      cases q : H0 b with
      | none => exact un.keep b ob e q (fun z => absurd (show b ∈ ([] : List Addr) from z) List.not_mem_nil) List.not_mem_nil
      | some u =>
        rcases h0t_some q with ⟨h, _⟩ | ⟨_, _, _, rfl⟩
        · exact absurd h nb
        · have q' := un.frzs b _ _ q
          have e1 := (hOk b _ q).1
          rw [e] at e1
          cases e1
          exact (ok' b _ q').1
    have grows : ∀ c ∈ cs, ∃ more : Array Value, s'.heap.get? c.2 = some (PySem.W.tabObj more) := by
      intro c hc
      obtain ⟨more, z⟩ := un.tbls c.2 #[] (h0t_in (tin hc))
      exact ⟨_, ok' c.2 _ z⟩
    refine ⟨rfl, ⟨fun b ob e => ?_, fun b ob e => ?_⟩, hos, bare⟩
    · by_cases hb : b ∈ ts
      · obtain ⟨c, hc, rfl⟩ := tout hb
        obtain ⟨more, hm⟩ := grows c hc
        have hP := tabs.at_ c hc
        rw [hP] at e
        cases e
        refine .inr (.inl ⟨((tabs.hd c hc).tab hP).isCodeTable, rfl, #[], more, rfl, ?_⟩)
        rw [Array.empty_append]
        exact hm
      · exact .inl (stays b ob hb e)
    · by_cases hb : b ∈ ts
      · obtain ⟨c, hc, rfl⟩ := tout hb
        obtain ⟨more, hm⟩ := grows c hc
        exact ⟨_, hm⟩
      · exact ⟨ob, stays b ob hb e⟩
/-- what k_head leaves, for such a law -/
theorem walkGT {l : PySem.W.OpenLaw} {n k : Nat} {q : Program} {loose : List Str} {XP : (Str → Option Value) → Heap → Prop} {YP : World → Heap → Prop} {d : DefRec} {K : Params → PySem.W.Frag} {CX : World → CXT} {x : Str}
    (most : l.most = some n) (small : n ≤ sizeLine) (plain : d.params.defaults = []) (room : Room k callerA) (hY : ∀ (w : World) (h : Heap), YP w h → (K w.params).In h)
    (F : ∀ (w : World) (mg : Str → Option Value) (fa : Addr) (h : Heap), (K w.params).In h → h.Ns mainGlobals mg → mg d.name = some (.ref fa) →
      ∃ (fd : FuncData) (cs : List (Addr × Addr)) (sp : Sp), (∀ c ∈ cs, (∃ (y : Str) (e : DefRec), (recsOf q).find? (fun r => r.name == y) = some e ∧ PySem.W.tabIn (K w.params) y = some c) ∧ (K w.params).lookup c.2 = none) ∧
        (∀ (s : Shared) (u : Value), BindsTo s fd ⟨[u], []⟩ [(x, u)]) ∧
        (∀ (H : Hp) (a : Addr) (ns : List Int), ns.length ≤ n → (∀ c ∈ cs, H c.2 = some (.tbl #[])) → SqL (K w.params) H a (ns.map V.int) → sp [.ref a] H (fun v _ => v = .bl true) fun _ _ _ => False) ∧
        ∀ base : Heap, (K w.params).In base → base.Ns mainGlobals mg → (∀ c ∈ cs, LamX.TabB base mg c.1 c.2) → FnG l.prog w (K w.params) mg base (CX w) k fa fd [x] sp)
    (noErr : ∀ (w : World) (H : Hp) (s : Shared) (e : Value) (s' : Shared), CX w [] H s (fun _ _ _ => False) e s' → False) :
    PySem.W.WalkO q loose XP YP l.row.toRowW d [] (fun f vs => PySem.call f vs) := by
  refine Att.attach_call most plain fun w s₀ t mg mb fa o pm cd doc a vs ns G Y ho hd hcd hmg scr hints hlen gens => ?_
  obtain ⟨fd, cs, sp, tabs, bind, want, body⟩ := F w mg fa _ (hY w _ Y) G.T.g hmg
  have th : ∀ c ∈ cs, PySem.W.CodeHd t.heap c.1 c.2 ∧ t.heap.get? c.2 = some (PySem.W.tabObj #[]) := fun c hc => by
    obtain ⟨⟨y, e, h1, h2⟩, _⟩ := tabs c hc
    exact PySem.W.tab_of G.T (hY w _ Y) h1 h2
  exact lawGT (hY w _ Y) G.T.g G.T.b G.T.builtins G.T.nolimit gens ⟨fun c hc => (th c hc).1, fun c hc => (th c hc).2, fun c hc => (tabs c hc).2⟩ G.T.bmain scr hints (Nat.le_trans hlen small) room body bind
    (fun H hO hS => want H a ns hlen hO hS) fun H e s' => noErr w H t e s'
/-! ### a def that makes lambdas: its own code is known -/
section
variable {P : Program} {w : World} {K : PySem.W.Frag} {mg : Str → Option Value} {base : Heap}
/-- .. where no repr is under way; its code object is at c -/
theorem okGL {x qual : Str} {st : Stmt} {f c : Addr} {fd : FuncData} {N ps : List Str} {k : Nat} {sp : Sp} (F : Fun K x qual st f fd) (hc : fd.code = .ref c) (S : FnScope N ps (defScope st)) (hlen : ∀ vs H Q E, sp vs H Q E → vs.length = ps.length)
    (hb : ∀ (A : Around) (outer : List Env) (s : Shared) (H : Hp) (vs : List V) (Q : VK) (E : XK), Gd (A.deeper (envOfC qual (defScope st) s.heap.objs.size f (.ref c))) → Room k (A.deeper (envOfC qual (defScope st) s.heap.objs.size f (.ref c))) → sp vs H Q E →
      ∃ t, PSs (cxOf CX0 P w K mg base N qual (defScope st) f (.ref c) A outer s H E).nox (defBody st) t ∧ t { nx := fun _ H' => Q .non H', rt := Q } (start N vs) H) : FnG P w K mg base CX0 (k + 1) f fd ps sp := by
  obtain ⟨oc, od, kV, doc, pm, an, cdv, ct, osl, rfl, lk, hcd⟩ := F.ex
  have e : cdv = .ref c := hc
  subst e
  refine fnG_body lk hcd S hlen fun A outer s H vs Q E g hr want => ?_
  obtain ⟨t, h, q⟩ := hb A outer s H vs Q E g hr want
  exact ⟨t, h.nox, q⟩
end
end Gx

set_option maxRecDepth 100000
set_option maxHeartbeats 4000000
namespace Gx
open PySem PySem.Spec PyProof.Rows L2 LamX
/-- an own class of errors is not caught by the name of another -/
theorem exm_no {K : PySem.W.Frag} {S C : Addr} (b : PySem.W.subIn K (.ref C) (.type "BaseException") = some true) (i : PySem.W.isClsIn K C = true) (t : PySem.W.typeIn K (.ref C) = some (.type "type")) (s : PySem.W.subIn K (.ref S) (.ref C) = some false) : PySem.W.exmOne K (.ref S) (.ref C) = some false := by
  have i' : (PySem.W.clsIn K C).isSome = true := i
  unfold PySem.W.exmOne PySem.W.kitCls
  simp [b, i', t, s]
/-- one table, one name -/
theorem one_of : ∀ {Tb : List (Addr × Str)} {P : Addr} {q : Str}, (Tb.map (·.1)).Nodup → (P, q) ∈ Tb → ∀ p ∈ Tb, p.1 = P → p.2 = q
  | (P0, q0) :: r, P, q, nd, m, p, hp, e => by
    rw [List.map_cons, List.nodup_cons] at nd
    rcases List.mem_cons.mp m with h | h
    · cases h
      rcases List.mem_cons.mp hp with rfl | h2
      · rfl
      · exact absurd (List.mem_map.mpr ⟨p, h2, e⟩) nd.1
    · rcases List.mem_cons.mp hp with rfl | h2
      · exact absurd (List.mem_map.mpr ⟨_, h, e.symm⟩) nd.1
      · exact one_of nd.2 h p h2 e
/-- as Def.calG, the name's address handed on -/
theorem Def.calGL {P : Program} {w : World} {K : PySem.W.Frag} {mg : Str → Option Value} {base : Heap} {x qual : Str} {st : Stmt} {ps : List Str} (d : Def K mg x qual st ps) {k : Nat} {sp : Sp} (h : ∀ f fd, mg x = some (.ref f) → Fun K x qual st f fd → FnG P w K mg base CX0 k f fd ps sp) : CalG P w K mg base k x ps sp := by
  obtain ⟨f, fd, F, b, g⟩ := d
  exact ⟨f, fd, h f fd g F, F.kp, b, g⟩
abbrev ln (x : Str) : Str := (x ++ ".<locals>.") ++ "<lambda>"
/-- a def of the module that makes lambdas: its code and its table -/
structure Lam (K : PySem.W.Frag) (mg : Str → Option Value) (base : Heap) (Tb : List (Addr × Str)) (x : Str) (c Pt : Addr) : Prop where
  tb : TabB base mg c Pt
  mem : (Pt, ln x) ∈ Tb
  one : ∀ p ∈ Tb, p.1 = Pt → p.2 = ln x
  code : ∀ (f : Addr) (oc : Value) (od : Option Addr) (fd : FuncData) (sl : Array (Option Value)), mg x = some (.ref f) → K.lookup f = some ⟨oc, od, .func fd, sl⟩ → fd.code = .ref c
theorem Lam.of {K : PySem.W.Frag} {mg : Str → Option Value} {base : Heap} {Tb : List (Addr × Str)} {x : Str} {c Pt : Addr} (L : Lam K mg base Tb x c Pt) {qual : Str} {st : Stmt} {f : Addr} {fd : FuncData} (g : mg x = some (.ref f)) (F : Fun K x qual st f fd) : fd.code = .ref c := by
  obtain ⟨oc, od, kV, doc, pm, an, cdv, ct, osl, _, lk, _⟩ := F.ex
  exact L.code f oc od fd osl g lk
theorem tabIn_of {K : PySem.W.Frag} {x : Str} {f c Pt : Addr} {oc oc2 : Value} {od od2 : Option Addr} {fd : FuncData} {sl sl2 : Array (Option Value)} {vs : Array Value} (a : PySem.W.nsIn K mainGlobals x = some (some (.ref f))) (l : K.lookup f = some ⟨oc, od, .func fd, sl⟩) (hc : fd.code = .ref c) (lc : K.lookup c = some ⟨oc2, od2, .fields vs, sl2⟩) (hp : vs[11]? = some (.ref Pt)) : PySem.W.tabIn K x = some (c, Pt) := by
  unfold PySem.W.tabIn
  simp only [a, l, hc, lc, hp]
/-- .. as the top has made it -/
theorem Lam.mk_of {K : PySem.W.Frag} {mg : Str → Option Value} {base : Heap} {Tb : List (Addr × Str)} {x : Str} {c Pt : Addr} (X : K.In base) (G : base.Ns mainGlobals mg) (ht : PySem.W.tabIn K x = some (c, Pt)) (tb : TabB base mg c Pt) (nd : (Tb.map (·.1)).Nodup) (m : (Pt, ln x) ∈ Tb) : Lam K mg base Tb x c Pt :=
  ⟨tb, m, one_of nd m, fun f oc od fd sl g lk => PySem.W.law_code X G ht g (X _ _ lk) rfl⟩
end Gx

set_option maxRecDepth 100000
set_option maxHeartbeats 4000000
namespace Kl
open PySem PySem.Spec PyProof.Rows L2 Gx
def topS (i : Nat) : Stmt := PySem.Challenge.pw_linkbooks_k77_plans_told.main.body.getD i (.Pass ⟨0, 0, 0, 0⟩)
abbrev s_wall : Stmt := topS 0
theorem sc_wall : FnScope ["k"] ["k"] (defScope s_wall) := ⟨rfl, rfl, rfl, by decide +kernel, rfl, by decide +kernel, by decide +kernel⟩
abbrev s_is_side : Stmt := topS 8
theorem sc_is_side : FnScope ["sign"] ["sign"] (defScope s_is_side) := ⟨rfl, rfl, rfl, by decide +kernel, rfl, by decide +kernel, by decide +kernel⟩
abbrev s_closed : Stmt := topS 9
theorem sc_closed : FnScope ["waiting", "deeds", "one", "other"] ["waiting", "deeds"] (defScope s_closed) := ⟨rfl, rfl, rfl, by decide +kernel, rfl, by decide +kernel, by decide +kernel⟩
abbrev s_put_behind : Stmt := topS 10
theorem sc_put_behind : FnScope ["waiting", "deeds"] ["waiting", "deeds"] (defScope s_put_behind) := ⟨rfl, rfl, rfl, by decide +kernel, rfl, by decide +kernel, by decide +kernel⟩
abbrev s_deeds_in : Stmt := topS 11
theorem sc_deeds_in : FnScope ["text", "deeds", "waiting", "sign", "fits"] ["text"] (defScope s_deeds_in) := ⟨rfl, rfl, rfl, by decide +kernel, rfl, by decide +kernel, by decide +kernel⟩
abbrev s_are_for : Stmt := topS 14
theorem sc_are_for : FnScope ["letters", "value", "letter"] ["letters", "value"] (defScope s_are_for) := ⟨rfl, rfl, rfl, by decide +kernel, rfl, by decide +kernel, by decide +kernel⟩
abbrev s_law_dice : Stmt := topS 17
theorem sc_law_dice : FnScope ["_law_script", "_law_spot", "_law_cell", "_law_left"] ["_law_script", "_law_spot"] (defScope s_law_dice) := ⟨rfl, rfl, rfl, by decide +kernel, rfl, by decide +kernel, by decide +kernel⟩
abbrev s_law_roll : Stmt := topS 18
theorem sc_law_roll : FnScope ["_law_dice_here", "_law_total", "_law_found", "_law_one", "_law_two"] ["_law_dice_here", "_law_total"] (defScope s_law_roll) := ⟨rfl, rfl, rfl, by decide +kernel, rfl, by decide +kernel, by decide +kernel⟩
abbrev s_law_pick : Stmt := topS 19
theorem sc_law_pick : FnScope ["_law_dice_here", "_law_items"] ["_law_dice_here", "_law_items"] (defScope s_law_pick) := ⟨rfl, rfl, rfl, by decide +kernel, rfl, by decide +kernel, by decide +kernel⟩
abbrev s_law_plan_text : Stmt := topS 20
theorem sc_law_plan_text : FnScope ["_law_plan"] ["_law_plan"] (defScope s_law_plan_text) := ⟨rfl, rfl, rfl, by decide +kernel, rfl, by decide +kernel, by decide +kernel⟩
abbrev s_law_drawn_plan : Stmt := topS 21
theorem sc_law_drawn_plan : FnScope ["_law_dice_here", "_law_many", "_law_left"] ["_law_dice_here", "_law_many"] (defScope s_law_drawn_plan) := ⟨rfl, rfl, rfl, by decide +kernel, rfl, by decide +kernel, by decide +kernel⟩
abbrev s_law_letters : Stmt := topS 22
theorem sc_law_letters : FnScope ["_law_plan", "_law_sign"] ["_law_plan"] (defScope s_law_letters) := ⟨rfl, rfl, rfl, by decide +kernel, rfl, by decide +kernel, by decide +kernel⟩
abbrev s_law_end_of : Stmt := topS 23
theorem sc_law_end_of : FnScope ["_law_text", "_law_at", "_law_end", "_law_middle", "_law_last"] ["_law_text", "_law_at"] (defScope s_law_end_of) := ⟨rfl, rfl, rfl, by decide +kernel, rfl, by decide +kernel, by decide +kernel⟩
abbrev s_law_is_plan : Stmt := topS 24
theorem sc_law_is_plan : FnScope ["_law_text"] ["_law_text"] (defScope s_law_is_plan) := ⟨rfl, rfl, rfl, by decide +kernel, rfl, by decide +kernel, by decide +kernel⟩
abbrev s_law_said : Stmt := topS 25
theorem sc_law_said : FnScope ["_law_call"] ["_law_call"] (defScope s_law_said) := ⟨rfl, rfl, rfl, by decide +kernel, rfl, by decide +kernel, by decide +kernel⟩
abbrev s_law_bent : Stmt := topS 26
theorem sc_law_bent : FnScope ["_law_dice_here", "_law_text", "_law_at", "_law_sign"] ["_law_dice_here", "_law_text"] (defScope s_law_bent) := ⟨rfl, rfl, rfl, by decide +kernel, rfl, by decide +kernel, by decide +kernel⟩
abbrev s_law_renamed_right : Stmt := topS 27
theorem sc_law_renamed_right : FnScope ["_law_dice_here", "_law_made", "_law_text", "_law_names", "_law_due", "_law_last", "_law_bad", "_law_wrong", "_law_letter", "_law_sign", "_law_one"] ["_law_dice_here", "_law_made", "_law_text"] (defScope s_law_renamed_right) := ⟨rfl, rfl, rfl, by decide +kernel, rfl, by decide +kernel, by decide +kernel⟩
abbrev s_law : Stmt := topS 28
theorem sc_law : FnScope ["_law_script", "_law_spot", "_law_dice_here", "_law_turn", "_law_plan", "_law_text", "_law_made", "_law_many", "_law_told", "_law_bent_here", "_law_bad", "_law_good"] ["_law_script"] (defScope s_law) := ⟨rfl, rfl, rfl, by decide +kernel, rfl, by decide +kernel, by decide +kernel⟩
abbrev s_Plan_init : Stmt := inClass (topS 15) 0
theorem sc_Plan_init : FnScope ["self", "text", "told", "letter"] ["self", "text"] (defScope s_Plan_init) := ⟨rfl, rfl, rfl, by decide +kernel, rfl, by decide +kernel, by decide +kernel⟩
abbrev s_Plan_text : Stmt := inClass (topS 15) 1
theorem sc_Plan_text : FnScope ["self"] ["self"] (defScope s_Plan_text) := ⟨rfl, rfl, rfl, by decide +kernel, rfl, by decide +kernel, by decide +kernel⟩
abbrev s_Plan_letters : Stmt := inClass (topS 15) 2
theorem sc_Plan_letters : FnScope ["self"] ["self"] (defScope s_Plan_letters) := ⟨rfl, rfl, rfl, by decide +kernel, rfl, by decide +kernel, by decide +kernel⟩
abbrev s_Plan_deeds : Stmt := inClass (topS 15) 3
theorem sc_Plan_deeds : FnScope ["self"] ["self"] (defScope s_Plan_deeds) := ⟨rfl, rfl, rfl, by decide +kernel, rfl, by decide +kernel, by decide +kernel⟩
abbrev s_Plan_renamed : Stmt := inClass (topS 15) 6
theorem sc_Plan_renamed : FnScope ["self", "letters", "old", "sign"] ["self", "letters"] (defScope s_Plan_renamed) := ⟨rfl, rfl, rfl, by decide +kernel, rfl, by decide +kernel, by decide +kernel⟩
abbrev s_Plan_len : Stmt := inClass (topS 15) 7
theorem sc_Plan_len : FnScope ["self"] ["self"] (defScope s_Plan_len) := ⟨rfl, rfl, rfl, by decide +kernel, rfl, by decide +kernel, by decide +kernel⟩
abbrev s_Plan_eq : Stmt := inClass (topS 15) 8
theorem sc_Plan_eq : FnScope ["self", "other"] ["self", "other"] (defScope s_Plan_eq) := ⟨rfl, rfl, rfl, by decide +kernel, rfl, by decide +kernel, by decide +kernel⟩
abbrev s_Plan_str : Stmt := inClass (topS 15) 9
theorem sc_Plan_str : FnScope ["self"] ["self"] (defScope s_Plan_str) := ⟨rfl, rfl, rfl, by decide +kernel, rfl, by decide +kernel, by decide +kernel⟩
/-- the class Plan as the top has made it -/
structure Cl_Plan (K : PySem.W.Frag) (mg : Str → Option Value) (C : Addr) : Prop where
  gC : mg "Plan" = some (.ref C)
  cl : Cls K C
  n_text : NoAttr K C "_text"
  n_letters : NoAttr K C "_letters"
  n_made : NoAttr K C "_made"
  n_result : NoAttr K C "_result"
  made : ∃ f fd, Mk K C f ∧ Fun K "__init__" "Plan.__init__" s_Plan_init f fd ∧ Binds K fd ["self", "text"] []
  p_text : PropD K C "text" "Plan.text" s_Plan_text
  p_letters : PropD K C "letters" "Plan.letters" s_Plan_letters
  p_deeds : PropD K C "deeds" "Plan.deeds" s_Plan_deeds
  m_renamed : DefM K C "renamed" "Plan.renamed" s_Plan_renamed ["self", "letters"]
  m_len : DefM K C "__len__" "Plan.__len__" s_Plan_len ["self"]
  m_eq : DefM K C "__eq__" "Plan.__eq__" s_Plan_eq ["self", "other"]
  m_str : DefM K C "__str__" "Plan.__str__" s_Plan_str ["self"]
  ne : PySem.W.findIn K (.ref C) "__ne__" = some (some (.builtin "object.__ne__"))
  ob : PySem.W.mroIn K C (.type "object") = some true
  kit : PySem.W.kitOne K (.ref C) (.ref C) = some true
  kitT : PySem.W.kitOne K (.type "tuple") (.ref C) = some false
  kitD : PySem.W.kitOne K (.type "dict") (.ref C) = some false
  kitR : PySem.W.kitOne K (.ref C) (.type "tuple") = some false
  kitS : PySem.W.kitOne K (.ref C) (.type "str") = some false
  kit_NoneType : PySem.W.kitOne K (.type "NoneType") (.ref C) = some false
  kit_int : PySem.W.kitOne K (.type "int") (.ref C) = some false
  kit_bool : PySem.W.kitOne K (.type "bool") (.ref C) = some false
  kit_str : PySem.W.kitOne K (.type "str") (.ref C) = some false
  kit_list : PySem.W.kitOne K (.type "list") (.ref C) = some false
  ca : PySem.W.findIn K (.ref C) "__class__" = some (some (.builtin "object.__class__"))
  cg : PySem.W.specialIn K (.builtin "object.__class__") "__get__" = some (some (.builtin "getset_descriptor.__get__"))
  ct : PySem.W.takesIn K (.builtin "object.__class__") = some true
/-- what the walk asks of the top -/
structure Top (K : PySem.W.Frag) (mg : Str → Option Value) : Prop where
  b_ValueError : mg "ValueError" = none
  b_abs : mg "abs" = none
  b_all : mg "all" = none
  b_dict : mg "dict" = none
  b_int : mg "int" = none
  b_isinstance : mg "isinstance" = none
  b_len : mg "len" = none
  b_list : mg "list" = none
  b_max : mg "max" = none
  b_min : mg "min" = none
  b_property : mg "property" = none
  b_range : mg "range" = none
  b_set : mg "set" = none
  b_sorted : mg "sorted" = none
  b_str : mg "str" = none
  b_tuple : mg "tuple" = none
  g_MAX_PLAN : ∃ t, mg "MAX_PLAN" = some (.int 4 t)
  t_LETTERS : ∃ (a : Addr) (o : Obj) (its : Array Value) (n : Nat), mg "LETTERS" = some (.ref a) ∧ K.lookup a = some o ∧ o.cls = .type "tuple" ∧ o.data = .seq its n ∧ its.size ≤ sizeLine ∧ Vals [V.str "A", V.str "B", V.str "C"] its.toList
  t__SIGNS : ∃ (a : Addr) (o : Obj) (its : Array Value) (n : Nat), mg "_SIGNS" = some (.ref a) ∧ K.lookup a = some o ∧ o.cls = .type "tuple" ∧ o.data = .seq its n ∧ its.size ≤ sizeLine ∧ Vals [V.str "A", V.str "B", V.str "C", V.str "(", V.str "+", V.str ")", V.str "'"] its.toList
  d_wall : Def K mg "_wall" "_wall" s_wall ["k"]
  d_is_side : Def K mg "_is_side" "_is_side" s_is_side ["sign"]
  d_closed : Def K mg "_closed" "_closed" s_closed ["waiting", "deeds"]
  d_put_behind : Def K mg "_put_behind" "_put_behind" s_put_behind ["waiting", "deeds"]
  d_deeds_in : Def K mg "deeds_in" "deeds_in" s_deeds_in ["text"]
  d_are_for : Def K mg "_are_for" "_are_for" s_are_for ["letters", "value"]
  d_law_dice : Def K mg "_law_dice" "_law_dice" s_law_dice ["_law_script", "_law_spot"]
  d_law_roll : Def K mg "_law_roll" "_law_roll" s_law_roll ["_law_dice_here", "_law_total"]
  d_law_pick : Def K mg "_law_pick" "_law_pick" s_law_pick ["_law_dice_here", "_law_items"]
  d_law_plan_text : Def K mg "_law_plan_text" "_law_plan_text" s_law_plan_text ["_law_plan"]
  d_law_drawn_plan : Def K mg "_law_drawn_plan" "_law_drawn_plan" s_law_drawn_plan ["_law_dice_here", "_law_many"]
  d_law_letters : Def K mg "_law_letters" "_law_letters" s_law_letters ["_law_plan"]
  d_law_end_of : Def K mg "_law_end_of" "_law_end_of" s_law_end_of ["_law_text", "_law_at"]
  d_law_is_plan : Def K mg "_law_is_plan" "_law_is_plan" s_law_is_plan ["_law_text"]
  d_law_said : Def K mg "_law_said" "_law_said" s_law_said ["_law_call"]
  d_law_bent : Def K mg "_law_bent" "_law_bent" s_law_bent ["_law_dice_here", "_law_text"]
  d_law_renamed_right : Def K mg "_law_renamed_right" "_law_renamed_right" s_law_renamed_right ["_law_dice_here", "_law_made", "_law_text"]
  c_Plan : ∃ C, Cl_Plan K mg C
  p_InvalidPlan : ∃ C, XPln K mg "InvalidPlan" "ValueError.__new__" "ValueError.__init__" [.type "ValueError", .type "Exception", .type "BaseException", .type "object"] C ∧ XCls K C ∧ PySem.W.exmOne K (.ref C) (.ref C) = some true
  p_InvalidOperation : ∃ C, XPln K mg "InvalidOperation" "ValueError.__new__" "ValueError.__init__" [.type "ValueError", .type "Exception", .type "BaseException", .type "object"] C ∧ XCls K C ∧ PySem.W.exmOne K (.ref C) (.ref C) = some true
end Kl

set_option maxRecDepth 100000
set_option maxHeartbeats 4000000
namespace Kl
open PySem PySem.Spec PyProof.Rows L2 Gx Mx
section
variable {P : Program} {w : World} {K : PySem.W.Frag} {mg : Str → Option Value} {base : Heap}
/-! ### the law's dice -/
def spDice (K : PySem.W.Frag) : Sp := fun vs H Q _ => ∃ (a : Addr) (ns : List Int) (i : Nat), vs = [.ref a, .int i] ∧ SqL K H a (ns.map V.int) ∧ ns.length ≤ 63 ∧ i ≤ 1000 ∧
  ∀ (p : Addr) (x b : Int), H p = none → Q (.ref p) (upd H p (.lst [.int x, .int b, .int 0]))
theorem ok_dice {f : Addr} {fd : FuncData} (F : Fun K "_law_dice" "_law_dice" s_law_dice f fd) (T : Top K mg) : FnOk P w K mg base CX0 1 f fd ["_law_script", "_law_spot"] (spDice K) := by
  refine F.ok sc_law_dice (fun vs H Q E h => ?_) (fun cdv A outer s H vs Q E hr h => ?_)
  · obtain ⟨a, ns, i, rfl, _⟩ := h
    rfl
  · obtain ⟨a, ns, i, rfl, hS, hlen, hi, q⟩ := h
    refine ⟨_, pss_cut (ps_set (i := 2) sc_law_dice.nd rfl (.inl rfl) (pe_ifExp
        (pt_cmpR op_lt (pv 1) (pe_callB call_len_seq (by rfl) T.b_len PySem.boot_len (pa_cons (pv 0) pa_nil)) (nomark _))
        (pe_callTy call_int1 (by rfl) T.b_int (by decide +kernel) (pa_cons (pe_ix ix_list (pv 0) (pv 1) (fun _ _ => rfl)) pa_nil))
        (pe_op op_add (pe_op op_mul pe_int (pv 1)) pe_int)))
      (pss_cons (ps_set (i := 3) sc_law_dice.nd rfl (.inl rfl) (pe_op op_mod
        (pe_callB (call_max2 rfl) (by rfl) T.b_max (by decide +kernel) (pa_cons pe_int (pa_cons (pe_op op_sub
          (pe_callB call_abs (by rfl) T.b_abs (by decide +kernel) (pa_cons (pv 2) pa_nil)) (pe_op op_pow pe_int pe_int)) pa_nil)))
        (pe_op op_mulW (pe_op op_pow pe_int pe_int) (pe_op op_pow pe_int pe_int))))
      (pss_one (ps_ret (pe_lst (pa_cons (pv 3) (pa_cons
        (pe_op op_add (pe_op op_add (pe_op op_add (pe_op op_mul (pe_op op_mod (pe_callB call_abs (by rfl) T.b_abs (by decide +kernel) (pa_cons (pv 2) pa_nil)) pe_int) pe_int)
          (pe_op op_mul pe_int (pv 1)))
          (pe_op op_mul pe_int (pe_callTy call_int1 (by rfl) T.b_int (by decide +kernel) (pa_cons (pe_cmpR op_lt (pv 2) pe_int (nomark _)) pa_nil)))) pe_int)
        (pa_cons pe_int pa_nil))))))), ?_⟩
    refine ⟨fun σ' H' => ∃ c : Int, σ' = [some (.ref a), some (.int i), some (.int c), none] ∧ H' = H, ?_, ?_⟩
    · refine ⟨_, rfl, .ref a, rfl, a, _, rfl, .inl hS, _, _, rfl, rfl, _, rfl, ite2 (fun e => ?_) (fun e => ?_)⟩
      · have e' : i < ns.length := by
          have := of_decide_eq_true e
          rw [List.length_map] at this
          omega
        refine ⟨.ref a, rfl, .int i, rfl, a, _, _, .int ns[i], rfl, rfl, hS, atI_nat (by rw [List.getElem?_map, List.getElem?_eq_getElem e']; rfl), .inl ⟨_, rfl, ns[i], rfl, rfl⟩⟩
      · refine ⟨_, rfl, _, _, rfl, rfl, .inl ⟨by decide, by decide⟩, _, _, rfl, rfl, _, rfl, rfl⟩
    · rintro σ' H' ⟨c, rfl, rfl⟩
      refine ⟨_, rfl, _, rfl, ?_⟩
      refine ⟨_, _, rfl, rfl, ⟨by decide, by decide, by decide⟩, ?_⟩
      refine ⟨_, _, rfl, rfl, ?_⟩
      refine ⟨_, _, rfl, ?_⟩
      refine ⟨_, _, rfl, rfl, ⟨by decide, by decide, by decide⟩, ?_⟩
      refine ⟨_, _, rfl, rfl, ⟨by decide, by decide, by decide⟩, ?_⟩
      refine ⟨_, _, rfl, rfl, wide_mul (a := 200) (b := 200) (by decide) (by decide) (by decide) (by decide) (by decide), ?_⟩
      refine ⟨_, _, rfl, rfl, by show (0 : Int) < _; decide, ?_⟩
      generalize (if (if c < 0 then -c else c) - 10 ^ Int.toNat 17 > 0 then (if c < 0 then -c else c) - 10 ^ Int.toNat 17 else 0) % (10 ^ Int.toNat 60 * 10 ^ Int.toNat 60) = left
      refine ⟨_, rfl, _, rfl, _, rfl, _, _, rfl, rfl, by show (0 : Int) < _; decide, _, _, rfl, rfl, .inr ⟨by decide, by decide⟩, ?_⟩
      refine ⟨_, rfl, _, _, rfl, rfl, .inl ⟨by decide, by decide⟩, _, _, rfl, rfl, _, rfl, _, _, rfl, rfl, .inr ⟨_, rfl, ?_⟩⟩
      refine ⟨_, _, rfl, rfl, .inl ⟨by decide, by decide⟩, _, _, rfl, rfl, _, _, rfl, rfl, by show 3 ≤ sizeLine; decide, fun p hp => ?_⟩
      exact q p _ _ hp
def spRoll : Sp := fun vs H Q _ => ∃ (d : Addr) (t : Int), vs = [.ref d, .int t] ∧ DiceAt H d ∧ 0 < t ∧ t.natAbs.log2 < 9000 ∧
  ∀ (r x b c : Int), 0 ≤ r → r < t → Q (.int r) (upd H d (.lst [.int x, .int b, .int c]))
theorem ok_roll {f : Addr} {fd : FuncData} (F : Fun K "_law_roll" "_law_roll" s_law_roll f fd) (T : Top K mg) : FnOk P w K mg base CX0 1 f fd ["_law_dice_here", "_law_total"] spRoll := by
  refine F.ok sc_law_roll (fun vs H Q E h => ?_) (fun cdv A outer s H vs Q E hr h => ?_)
  · obtain ⟨d, t, rfl, _⟩ := h
    rfl
  · obtain ⟨d, t, rfl, ⟨x, b, c, hd⟩, ht, ht2, q⟩ := h
    refine ⟨_, pss_cons (ps_if (pt_cmpR op_gt (pe_ix ix_list (pv 0) pe_int (fun _ _ => rfl)) pe_int (nomark _))
        (pss_cons (ps_set (i := 2) sc_law_roll.nd rfl (.inl rfl) (pe_op op_mod (pe_callTy call_int1 (by rfl) T.b_int (by decide +kernel) (pa_cons (pe_ix ix_list (pv 0) pe_int (fun _ _ => rfl)) pa_nil)) (pv 1)))
        (pss_cons (ps_asg (pe_op op_fdivW (pe_ix ix_list (pv 0) pe_int (fun _ _ => rfl)) (pv 1)) (pg_sub (pv 0) pe_int set_list))
        (pss_one (ps_ret (pv 2))))) pss_nil)
      (pss_cons (ps_asg (pe_op op_add (pe_ix ix_list (pv 0) pe_int (fun _ _ => rfl)) pe_int) (pg_sub (pv 0) pe_int set_list))
      (pss_cons (ps_set (i := 3) sc_law_roll.nd rfl (.inl rfl) (pe_op op_mod (pe_callTy call_int1 (by rfl) T.b_int (by decide +kernel) (pa_cons
        (pe_op op_add (pe_ix ix_list (pv 0) pe_int (fun _ _ => rfl)) (pe_op op_mul pe_int (pe_ix ix_list (pv 0) pe_int (fun _ _ => rfl)))) pa_nil)) pe_int))
      (pss_cons (ps_set (i := 4) sc_law_roll.nd rfl (.inl rfl) (pe_op op_add (pe_op op_mul (pe_op op_mod (pe_callTy call_int1 (by rfl) T.b_int (by decide +kernel) (pa_cons
        (pe_op op_add (pe_op op_mul (pv 3) (pv 3)) (pe_op op_mul pe_int (pe_ix ix_list (pv 0) pe_int (fun _ _ => rfl)))) pa_nil)) pe_int) pe_int) (pv 3)))
      (pss_one (ps_ret (pe_op op_mod (pe_callTy call_int1 (by rfl) T.b_int (by decide +kernel) (pa_cons (pe_op op_fdiv (pv 4) pe_int) pa_nil)) (pv 1))))))), ?_⟩
    have at0 : ∀ (x y z : V), atI [x, y, z] 0 = some x := fun x y z => atI_nat (j := 0) rfl
    have at1 : ∀ (x y z : V), atI [x, y, z] 1 = some y := fun x y z => atI_nat (j := 1) rfl
    have at2 : ∀ (x y z : V), atI [x, y, z] 2 = some z := fun x y z => atI_nat (j := 2) rfl
    have hS : SqL K H d [.int x, .int b, .int c] := .inl (.inl hd)
    refine ⟨_, rfl, d, _, _, _, rfl, rfl, hS, at0 _ _ _, _, _, rfl, rfl, _, rfl, ite2 (fun e => ?_) (fun e => ?_)⟩
    · refine ⟨_, rfl, d, _, _, _, rfl, rfl, hS, at0 _ _ _, .inl ⟨_, rfl, _, rfl, _, _, rfl, rfl, ht, ?_⟩⟩
      refine ⟨_, rfl, d, _, _, _, rfl, rfl, hS, at0 _ _ _, _, rfl, _, _, rfl, rfl, ⟨ht, ht2⟩, ?_⟩
      refine ⟨_, rfl, d, _, _, 0, rfl, rfl, hd, rfl, ?_⟩
      refine ⟨_, rfl, ?_⟩
      exact q _ _ _ _ (Int.emod_nonneg _ (by omega)) (Int.emod_lt_of_pos _ ht)
    · refine ⟨_, rfl, d, _, _, _, rfl, rfl, hS, at2 _ _ _, _, _, rfl, rfl, ?_⟩
      refine ⟨_, rfl, d, _, _, 2, rfl, rfl, hd, rfl, ?_⟩
      have hd1 : (upd H d (.lst ([V.int x, V.int b, V.int c].set 2 (.int (c + 1))))) d = some (.lst [V.int x, V.int b, V.int (c + 1)]) := upd_same
      have hS1 : SqL K (upd H d (.lst ([V.int x, V.int b, V.int c].set 2 (.int (c + 1))))) d [V.int x, V.int b, V.int (c + 1)] := .inl (.inl hd1)
      refine ⟨_, rfl, d, _, _, _, rfl, rfl, hS1, at1 _ _ _, _, rfl, d, _, _, _, rfl, rfl, hS1, at2 _ _ _, _, _, rfl, rfl, .inl ⟨by decide, by decide⟩, _, _, rfl, rfl, .inl ⟨_, rfl, ?_⟩⟩
      refine ⟨_, _, rfl, rfl, by show (0 : Int) < _; decide, ?_⟩
      have h1 := Int.emod_nonneg (b + 7919 * (c + 1)) (show (2305843009213693907 : Int) ≠ 0 by decide)
      have h2 := Int.emod_lt_of_pos (b + 7919 * (c + 1)) (show (0 : Int) < 2305843009213693907 by decide)
      generalize (b + 7919 * (c + 1)) % 2305843009213693907 = one at h1 h2
      refine ⟨_, rfl, _, rfl, _, _, rfl, rfl, .inl ⟨by omega, by omega⟩, _, rfl, d, _, _, _, rfl, rfl, hS1, at2 _ _ _, _, _, rfl, rfl, .inl ⟨by decide, by decide⟩, _, _, rfl, rfl, .inl ⟨_, rfl, ?_⟩⟩
      refine ⟨_, _, rfl, rfl, by show (0 : Int) < _; decide, _, _, rfl, rfl, .inr ⟨by decide, by decide⟩, _, rfl, _, _, rfl, rfl, ?_⟩
      refine ⟨_, rfl, _, _, rfl, rfl, ⟨by decide, by decide⟩, .inl ⟨_, rfl, _, rfl, _, _, rfl, rfl, ht, ?_⟩⟩
      exact q _ _ _ _ (Int.emod_nonneg _ (by omega)) (Int.emod_lt_of_pos _ ht)
/-- what may be picked from: the items of a list, a tuple, a text -/
def Items (K : PySem.W.Frag) (H : Hp) (d : Addr) (x : V) (xs : List V) : Prop :=
  (∃ p, x = .ref p ∧ p ≠ d ∧ (SqL K H p xs ∨ SqT K H p xs)) ∨ ∃ z : Str, x = .str z ∧ xs = signV z ∧ z.length ≤ sizeLine
def spPick (K : PySem.W.Frag) : Sp := fun vs H Q _ => ∃ (d : Addr) (x : V) (xs : List V), vs = [.ref d, x] ∧ DiceAt H d ∧ Items K H d x xs ∧ xs ≠ [] ∧ xs.length ≤ 100000 ∧
  ∀ (v : V) (x b c : Int), v ∈ xs → Q v (upd H d (.lst [.int x, .int b, .int c]))
theorem log2_small {n : Nat} (h : n ≤ 100000) : ((n : Int).natAbs).log2 < 9000 := by
  have h1 : ((n : Int).natAbs) < 2 ^ 20 := by
    rw [Int.natAbs_natCast]
    exact Nat.lt_of_le_of_lt h (by decide)
  exact Nat.lt_of_lt_of_le (PySem.Flt.log2_lt_of (by decide) h1) (by decide)
theorem ok_pick {f : Addr} {fd : FuncData} (F : Fun K "_law_pick" "_law_pick" s_law_pick f fd) (T : Top K mg) : FnOk P w K mg base CX0 2 f fd ["_law_dice_here", "_law_items"] (spPick K) := by
  have cr : Cal P w K mg base 1 "_law_roll" ["_law_dice_here", "_law_total"] spRoll := T.d_law_roll.cal fun f fd F => ok_roll F T
  refine F.ok sc_law_pick (fun vs H Q E h => ?_) (fun cdv A outer s H vs Q E hr h => ?_)
  · obtain ⟨d, x, xs, rfl, _⟩ := h
    rfl
  · obtain ⟨d, x, xs, rfl, hd, hI, hne, hlen, q⟩ := h
    refine ⟨_, pss_one (ps_ret (pe_ix ix_seq (pv 1) (pe_cal cr hr (by rfl) (pa_cons (pv 0) (pa_cons (pe_callB call_len (by rfl) T.b_len PySem.boot_len (pa_cons (pv 1) pa_nil)) pa_nil))) (fun _ _ => rfl))), ?_⟩
    have hpos : 0 < xs.length := List.length_pos_iff.mpr hne
    rcases hI with ⟨p, rfl, hp, hs⟩ | ⟨z, rfl, rfl, hz⟩
    · refine ⟨_, rfl, _, rfl, _, rfl, _, (xs.length : Nat), rfl, ?_, ?_⟩
      · rcases hs with hs | hs
        · exact .inl ⟨_, hs, rfl⟩
        · exact .inr ⟨_, hs, rfl⟩
      · refine ⟨d, _, rfl, hd, by omega, log2_small hlen, fun r x b c h0 h1 => ?_⟩
        obtain ⟨v, hv, ha⟩ := atI_int (xs := xs) h0 h1
        rcases hs with hs | hs
        · exact .inl ⟨p, _, _, v, rfl, rfl, sqL_ne hp hs, ha, q v x b c hv⟩
        · exact .inr (.inl ⟨p, _, _, v, rfl, rfl, sqT_ne hp hs, ha, q v x b c hv⟩)
    · have hlz := signV_len z
      refine ⟨_, rfl, _, rfl, _, rfl, _, (z.length : Nat), rfl, ⟨hz, rfl⟩, ?_⟩
      refine ⟨d, _, rfl, hd, by omega, log2_small (by omega), fun r x b c h0 h1 => ?_⟩
      obtain ⟨v, hv, ha⟩ := atI_int (xs := z.cps.toList) h0 (by rw [Array.length_toList]; exact h1)
      exact .inr (.inr ⟨z, r, v, rfl, rfl, hz, ha, q _ x b c (List.mem_map.mpr ⟨_, hv, rfl⟩)⟩)
end
end Kl

set_option maxRecDepth 100000
set_option maxHeartbeats 4000000
namespace Kl
open PySem PySem.Spec PyProof.Rows L2 Gx Mx
/-! ### all but the dice stays -/
/-- all but what stands at d is as it was -/
def SameX (d : Addr) (H H' : Hp) : Prop := ∀ b o, b ≠ d → H b = some o → H' b = some o
theorem SameX.refl (d : Addr) (H : Hp) : SameX d H H := fun _ _ _ e => e
theorem SameX.trans {d : Addr} {H H' H'' : Hp} (h : SameX d H H') (h' : SameX d H' H'') : SameX d H H'' := fun b o n e => h' b o n (h b o n e)
theorem SameX.atd {d : Addr} {H H' : Hp} {o : HO} (h : SameX d H H') : SameX d H (upd H' d o) := fun b u n e => by rw [upd_ne n]; exact h b u n e
theorem SameX.new {d p : Addr} {H H' : Hp} {o : HO} (h : SameX d H H') (n : H' p = none) : SameX d H (upd H' p o) := fun b u nb e => by
  have e' := h b u nb e
  rw [upd_ne (ne_of_none e' n)]
  exact e'
theorem SameX.at {d p : Addr} {H H' : Hp} {o : HO} (h : SameX d H H') (n : H p = none) : SameX d H (upd H' p o) := fun b u nb e => by
  rw [upd_ne (ne_of_none e n)]
  exact h b u nb e
theorem SameX.of {d : Addr} {H H' : Hp} (h : Same H H') : SameX d H H' := fun b o _ e => h b o e
theorem SameX.free {d p : Addr} {H H' : Hp} (h : SameX d H H') (n : p ≠ d) (e : H' p = none) : H p = none := by
  cases q : H p with
  | none => rfl
  | some o => rw [h p o n q] at e; cases e
theorem dice_ne {H : Hp} {d p : Addr} (h : DiceAt H d) (e : H p = none) : p ≠ d := fun q => by
  obtain ⟨_, _, _, h⟩ := h
  rw [q, h] at e
  cases e
theorem dice_upd {H : Hp} {d p : Addr} {o : HO} (h : DiceAt H d) (n : p ≠ d) : DiceAt (upd H p o) d := by
  obtain ⟨a, b, c, h⟩ := h
  exact ⟨a, b, c, by rw [upd_ne n.symm]; exact h⟩
theorem dice_new {H : Hp} {d : Addr} (x b c : Int) : DiceAt (upd H d (.lst [.int x, .int b, .int c])) d := ⟨_, _, _, upd_same⟩
end Kl

set_option maxRecDepth 100000
set_option maxHeartbeats 4000000
namespace Kl
open PySem PySem.Spec PyProof.Rows L2 Gx Mx
/-! ### plans: the mathematics -/
abbrev one (c : Nat) : Str := ⟨#[c]⟩
def isL (c : Nat) : Bool := decide (c = 65 ∨ c = 66 ∨ c = 67)
def isSg (c : Nat) : Bool := decide (c = 65 ∨ c = 66 ∨ c = 67 ∨ c = 40 ∨ c = 43 ∨ c = 41 ∨ c = 39)
inductive Pl where
  | lt (c : Nat)
  | put (p : Pl)
  | meld (p q : Pl)
namespace Pl
def ok : Pl → Prop
  | lt c => isL c = true
  | put p => p.ok
  | meld p q => p.ok ∧ q.ok
def txt : Pl → List Nat
  | lt c => [c]
  | put p => p.txt ++ [39]
  | meld p q => 40 :: (p.txt ++ 43 :: (q.txt ++ [41]))
def cnt : Pl → Nat
  | lt _ => 0
  | put p => p.cnt + 1
  | meld p q => p.cnt + q.cnt + 1
end Pl
/-! ### read from left to right -/
def sideV : V → Bool
  | .int _ => true
  | .str z => decide (z = one 65 ∨ z = one 66 ∨ z = one 67)
  | _ => false
def closeS (rs : List V) (m : Nat) : Option (List V × Nat) := match rs with
  | b :: p :: a :: o :: r => if p = .str (one 43) ∧ o = .str (one 40) ∧ sideV a = true ∧ sideV b = true then some (.int m :: r, m + 1) else none
  | _ => none
def putS (rs : List V) (m : Nat) : Option (List V × Nat) := match rs with
  | a :: r => if sideV a = true then some (.int m :: r, m + 1) else none
  | [] => none
def stepS (rs : List V) (m c : Nat) : Option (List V × Nat) :=
  if isSg c = true then (if c = 41 then closeS rs m else if c = 39 then putS rs m else some (.str (one c) :: rs, m)) else none
def runS : List Nat → List V → Nat → Option (List V × Nat)
  | [], rs, m => some (rs, m)
  | c :: cs, rs, m => (stepS rs m c).bind fun q => runS cs q.1 q.2
def readS (cs : List Nat) : Option Nat := match runS cs [] 0 with
  | some ([a], m) => if sideV a = true then some m else none
  | _ => none
theorem side_l {c : Nat} (h : isL c = true) : sideV (.str (one c)) = true ∧ isSg c = true ∧ c ≠ 41 ∧ c ≠ 39 := by
  have h := of_decide_eq_true h
  refine ⟨?_, decide_eq_true (by omega), by omega, by omega⟩
  show decide (one c = one 65 ∨ one c = one 66 ∨ one c = one 67) = true
  rcases h with rfl | rfl | rfl <;> decide
theorem run_txt : ∀ (p : Pl), p.ok → ∀ (rs : List V) (m : Nat) (rest : List Nat), ∃ a, sideV a = true ∧ runS (p.txt ++ rest) rs m = runS rest (a :: rs) (m + p.cnt)
  | .lt c, h, rs, m, rest => by
    obtain ⟨h1, h2, h3, h4⟩ := side_l h
    refine ⟨.str (one c), h1, ?_⟩
    show (stepS rs m c).bind _ = _
    unfold stepS
    rw [if_pos h2, if_neg h3, if_neg h4]
    rfl
  | .put p, h, rs, m, rest => by
    obtain ⟨a, ha, e⟩ := run_txt p h rs m ([39] ++ rest)
    refine ⟨.int (m + p.cnt : Nat), rfl, ?_⟩
    show runS ((p.txt ++ [39]) ++ rest) rs m = _
    rw [List.append_assoc, e]
    show (stepS (a :: rs) (m + p.cnt) 39).bind _ = _
    unfold stepS
    rw [if_pos (by decide), if_neg (by decide), if_pos rfl]
    unfold putS
    simp only [ha, if_true]
    rfl
  | .meld p q, h, rs, m, rest => by
    obtain ⟨a, ha, e⟩ := run_txt p h.1 (.str (one 40) :: rs) m (43 :: (q.txt ++ ([41] ++ rest)))
    obtain ⟨b, hb, e2⟩ := run_txt q h.2 (.str (one 43) :: a :: .str (one 40) :: rs) (m + p.cnt) ([41] ++ rest)
    refine ⟨.int (m + p.cnt + q.cnt : Nat), rfl, ?_⟩
    have e0 : (Pl.meld p q).txt ++ rest = 40 :: (p.txt ++ 43 :: (q.txt ++ ([41] ++ rest))) := by
      simp [Pl.txt]
    rw [e0]
    show (stepS rs m 40).bind _ = _
    have s40 : stepS rs m 40 = some (.str (one 40) :: rs, m) := by
      unfold stepS
      rw [if_pos (by decide), if_neg (by decide), if_neg (by decide)]
    rw [s40]
    show runS (p.txt ++ 43 :: (q.txt ++ ([41] ++ rest))) (.str (one 40) :: rs) m = _
    rw [e]
    show (stepS (a :: .str (one 40) :: rs) (m + p.cnt) 43).bind _ = _
    have s43 : stepS (a :: .str (one 40) :: rs) (m + p.cnt) 43 = some (.str (one 43) :: a :: .str (one 40) :: rs, m + p.cnt) := by
      unfold stepS
      rw [if_pos (by decide), if_neg (by decide), if_neg (by decide)]
    rw [s43]
    show runS (q.txt ++ ([41] ++ rest)) (.str (one 43) :: a :: .str (one 40) :: rs) (m + p.cnt) = _
    rw [e2]
    show (stepS (b :: .str (one 43) :: a :: .str (one 40) :: rs) (m + p.cnt + q.cnt) 41).bind _ = _
    have s41 : stepS (b :: .str (one 43) :: a :: .str (one 40) :: rs) (m + p.cnt + q.cnt) 41 = some (.int (m + p.cnt + q.cnt : Nat) :: rs, m + p.cnt + q.cnt + 1) := by
      unfold stepS
      rw [if_pos (by decide), if_pos rfl]
      unfold closeS
      simp only [ha, hb, and_self, if_true]
    rw [s41]
    show runS rest _ (m + p.cnt + q.cnt + 1) = runS rest _ (m + (p.cnt + q.cnt + 1))
    rw [show m + (p.cnt + q.cnt + 1) = m + p.cnt + q.cnt + 1 by omega]
inductive Stk : List V → List Nat → Nat → Prop
  | nil : Stk [] [] 0
  | raw {rs : List V} {w : List Nat} {n : Nat} (c : Nat) (hc : c = 40 ∨ c = 43) (h : Stk rs w n) : Stk (.str (one c) :: rs) (w ++ [c]) n
  | side {rs : List V} {w : List Nat} {n : Nat} (a : V) (p : Pl) (ha : sideV a = true) (hp : p.ok) (h : Stk rs w n) : Stk (a :: rs) (w ++ p.txt) (n + p.cnt)
theorem raw_no {c : Nat} (hc : c = 40 ∨ c = 43) : sideV (.str (one c)) = false := by
  rcases hc with rfl | rfl <;> decide
theorem stk_side {a : V} {rs : List V} {w : List Nat} {n : Nat} (h : Stk (a :: rs) w n) (ha : sideV a = true) : ∃ (p : Pl) (w' : List Nat) (n' : Nat), p.ok ∧ Stk rs w' n' ∧ w = w' ++ p.txt ∧ n = n' + p.cnt := by
  generalize e : a :: rs = q at h
  cases h with
  | nil => cases e
  | raw c hc h =>
    cases e
    rw [raw_no hc] at ha
    cases ha
  | side a' p ha' hp h =>
    cases e
    exact ⟨p, _, _, hp, h, rfl, rfl⟩
theorem stk_raw {c : Nat} {rs : List V} {w : List Nat} {n : Nat} (h : Stk (.str (one c) :: rs) w n) (hc : c = 40 ∨ c = 43) : ∃ w', Stk rs w' n ∧ w = w' ++ [c] := by
  generalize e : V.str (one c) :: rs = q at h
  cases h with
  | nil => cases e
  | raw c' hc' h =>
    obtain ⟨e1, rfl⟩ := List.cons.inj e
    have : c = c' := by
      have := V.str.inj e1
      have := congrArg (fun z : Str => z.cps.toList) this
      exact (List.cons.inj this).1
    subst this
    exact ⟨_, h, rfl⟩
  | side a' p ha' hp h =>
    obtain ⟨e1, _⟩ := List.cons.inj e
    rw [← e1, raw_no hc] at ha'
    cases ha'
theorem step_stk {rs rs' : List V} {w : List Nat} {m m' c : Nat} (h : Stk rs w m) (e : stepS rs m c = some (rs', m')) : Stk rs' (w ++ [c]) m' := by
  unfold stepS at e
  split at e
  · rename_i hs
    split at e
    · rename_i hc
      subst hc
      unfold closeS at e
      split at e
      · split at e
        · rename_i b p a o r hh
          obtain ⟨rfl, rfl, ha, hb⟩ := hh
          cases e
          obtain ⟨q2, w1, n1, ok2, s1, rfl, rfl⟩ := stk_side h hb
          obtain ⟨w2, s2, rfl⟩ := stk_raw s1 (.inr rfl)
          obtain ⟨q1, w3, n3, ok1, s3, rfl, rfl⟩ := stk_side s2 ha
          obtain ⟨w4, s4, rfl⟩ := stk_raw s3 (.inl rfl)
          have r := Stk.side (.int (n3 + q1.cnt + q2.cnt : Nat)) (.meld q1 q2) rfl ⟨ok1, ok2⟩ s4
          have e1 : w4 ++ (Pl.meld q1 q2).txt = w4 ++ [40] ++ q1.txt ++ [43] ++ q2.txt ++ [41] := by simp [Pl.txt]
          have e2 : n3 + (Pl.meld q1 q2).cnt = n3 + q1.cnt + q2.cnt + 1 := by
            show n3 + (q1.cnt + q2.cnt + 1) = _
            omega
          rw [e1, e2] at r
          exact r
        · cases e
      · cases e
    · split at e
      · rename_i hc
        subst hc
        unfold putS at e
        split at e
        · split at e
          · rename_i a r ha
            cases e
            obtain ⟨q, w1, n1, okq, s1, rfl, rfl⟩ := stk_side h ha
            have r := Stk.side (.int (n1 + q.cnt : Nat)) (.put q) rfl okq s1
            have e1 : w1 ++ (Pl.put q).txt = w1 ++ q.txt ++ [39] := by simp [Pl.txt]
            rw [e1] at r
            exact r
          · cases e
        · cases e
      · rename_i h41 h39
        cases e
        have hs := of_decide_eq_true hs
        by_cases hl : isL c = true
        · have := Stk.side (.str (one c)) (.lt c) (side_l hl).1 hl h
          exact this
        · exact Stk.raw c (by
            have : ¬ (c = 65 ∨ c = 66 ∨ c = 67) := fun x => hl (decide_eq_true x)
            omega) h
  · cases e
theorem run_stk : ∀ (cs : List Nat) {rs rs' : List V} {w : List Nat} {m m' : Nat}, Stk rs w m → runS cs rs m = some (rs', m') → Stk rs' (w ++ cs) m'
  | [], rs, rs', w, m, m', h, e => by
    cases e
    rw [List.append_nil]
    exact h
  | c :: cs, rs, rs', w, m, m', h, e => by
    have e : (stepS rs m c).bind (fun q => runS cs q.1 q.2) = some (rs', m') := e
    cases e1 : stepS rs m c with
    | none => rw [e1] at e; cases e
    | some q =>
      rw [e1] at e
      have := run_stk cs (step_stk h e1) e
      rw [List.append_assoc] at this
      exact this
theorem read_iff (cs : List Nat) (m : Nat) : readS cs = some m ↔ ∃ p : Pl, p.ok ∧ p.txt = cs ∧ p.cnt = m := by
  constructor
  · intro h
    unfold readS at h
    split at h
    · rename_i a m' e
      split at h
      · rename_i ha
        cases h
        have s := run_stk cs .nil e
        obtain ⟨p, w', n', hp, s', e1, e2⟩ := stk_side s ha
        cases s'
        rw [List.nil_append, List.nil_append] at e1
        exact ⟨p, hp, e1.symm, by omega⟩
      · cases h
    · cases h
  · rintro ⟨p, hp, rfl, rfl⟩
    obtain ⟨a, ha, e⟩ := run_txt p hp [] 0 []
    rw [List.append_nil] at e
    unfold readS
    rw [e]
    show (if sideV a = true then some (0 + p.cnt) else none) = _
    rw [if_pos ha, Nat.zero_add]
/-! ### the end of a plan, as the law finds it -/
def skipP (z : List Nat) (e : Nat) : Nat := e + ((z.drop e).takeWhile (fun c => decide (c = 39))).length
def endF : Nat → List Nat → Nat → Option Nat
  | 0, _, _ => none
  | n + 1, z, a => (match z[a]? with
      | none => none
      | some c => if isL c = true then some (a + 1) else if c = 40 then (endF n z (a + 1)).bind fun mid => if z[mid]? = some 43 then (endF n z (mid + 1)).bind fun l => if z[l]? = some 41 then some (l + 1) else none else none else none).map (skipP z)
theorem drop_at {z : List Nat} {a c : Nat} {r : List Nat} (h : z.drop a = c :: r) : z[a]? = some c ∧ z.drop (a + 1) = r := by
  constructor
  · have : (z.drop a)[0]? = some c := by rw [h]; rfl
    rw [List.getElem?_drop, Nat.add_zero] at this
    exact this
  · rw [← List.drop_drop, h]
    rfl
theorem drop_app {z : List Nat} {a : Nat} {x r : List Nat} (h : z.drop a = x ++ r) : z.drop (a + x.length) = r := by
  rw [← List.drop_drop, h, List.drop_append, List.drop_of_length_le (Nat.le_refl _), Nat.sub_self]
  rfl
theorem skip_eq {z : List Nat} {e k : Nat} {rest : List Nat} (h : z.drop e = List.replicate k 39 ++ rest) (hr : rest.head? ≠ some 39) : skipP z e = e + k := by
  unfold skipP
  rw [h]
  congr 1
  induction k with
  | zero =>
    cases rest with
    | nil => rfl
    | cons c r =>
      have : c ≠ 39 := fun x => hr (by rw [x]; rfl)
      rw [List.replicate_zero, List.nil_append, List.takeWhile_cons, decide_eq_false this]
      rfl
  | succ k ih =>
    have ih2 : ∀ l : List Nat, (List.takeWhile (fun c => decide (c = 39)) (List.replicate k 39 ++ rest)).length = k := fun _ => by
      clear h ih
      induction k with
      | zero =>
        cases rest with
        | nil => rfl
        | cons c r =>
          have : c ≠ 39 := fun x => hr (by rw [x]; rfl)
          rw [List.replicate_zero, List.nil_append, List.takeWhile_cons, decide_eq_false this]
          rfl
      | succ k ih =>
        rw [List.replicate_succ, List.cons_append, List.takeWhile_cons, decide_eq_true rfl, if_pos rfl, List.length_cons, ih]
    rw [List.replicate_succ, List.cons_append, List.takeWhile_cons, decide_eq_true rfl, if_pos rfl, List.length_cons, ih2 []]
theorem end_txt : ∀ (p : Pl), p.ok → ∀ (n k a : Nat) (z rest : List Nat), z.drop a = p.txt ++ (List.replicate k 39 ++ rest) → rest.head? ≠ some 39 → p.txt.length ≤ n → endF n z a = some (a + p.txt.length + k)
  | .lt c, h, n, k, a, z, rest, e, hr, hn => by
    obtain ⟨n, rfl⟩ : ∃ n', n = n' + 1 := ⟨n - 1, by simp [Pl.txt] at hn; omega⟩
    have e : z.drop a = c :: (List.replicate k 39 ++ rest) := e
    obtain ⟨h1, h2⟩ := drop_at e
    rw [endF, h1]
    show (if isL c = true then some (a + 1) else _).map _ = _
    have h : isL c = true := h
    rw [if_pos h]
    show some (skipP z (a + 1)) = _
    rw [skip_eq h2 hr]
    rfl
  | .put p, h, n, k, a, z, rest, e, hr, hn => by
    have hl : (Pl.put p).txt.length = p.txt.length + 1 := by simp [Pl.txt]
    rw [hl] at hn ⊢
    have := end_txt p h n (k + 1) a z rest (by rw [e]; simp [Pl.txt, List.replicate_succ]) hr (by omega)
    rw [this]
    congr 1
    omega
  | .meld p q, h, n, k, a, z, rest, e, hr, hn => by
    have hl : (Pl.meld p q).txt.length = p.txt.length + q.txt.length + 3 := by
      simp [Pl.txt]
      omega
    rw [hl] at hn ⊢
    obtain ⟨n, rfl⟩ : ∃ n', n = n' + 1 := ⟨n - 1, by omega⟩
    have e : z.drop a = 40 :: (p.txt ++ (List.replicate 0 39 ++ (43 :: (q.txt ++ (41 :: (List.replicate k 39 ++ rest)))))) := by
      rw [e]
      simp [Pl.txt]
    obtain ⟨h1, h2⟩ := drop_at e
    have i1 := end_txt p h.1 n 0 (a + 1) z _ h2 (by intro x; cases x) (by omega)
    have h3 := drop_app h2
    have h3 : z.drop (a + 1 + p.txt.length) = 43 :: (q.txt ++ (41 :: (List.replicate k 39 ++ rest))) := h3
    obtain ⟨h4, h5⟩ := drop_at h3
    have h5' : z.drop (a + 1 + p.txt.length + 1) = q.txt ++ (List.replicate 0 39 ++ (41 :: (List.replicate k 39 ++ rest))) := h5
    have i2 := end_txt q h.2 n 0 (a + 1 + p.txt.length + 1) z _ h5' (by intro x; cases x) (by omega)
    have h6 := drop_app h5
    obtain ⟨h7, h8⟩ := drop_at h6
    rw [endF, h1]
    show (if isL 40 = true then _ else if (40 : Nat) = 40 then (endF n z (a + 1)).bind _ else none).map _ = _
    rw [if_neg (by decide), if_pos rfl, i1]
    show (if z[a + 1 + p.txt.length + 0]? = some 43 then (endF n z (a + 1 + p.txt.length + 0 + 1)).bind _ else none).map _ = _
    rw [Nat.add_zero, if_pos h4, i2]
    show (if z[a + 1 + p.txt.length + 1 + q.txt.length + 0]? = some 41 then some (a + 1 + p.txt.length + 1 + q.txt.length + 0 + 1) else none).map _ = _
    rw [Nat.add_zero, if_pos h7]
    show some (skipP z _) = _
    rw [skip_eq h8 hr]
    congr 1
    omega
def puts : Nat → Pl → Pl
  | 0, p => p
  | k + 1, p => .put (puts k p)
theorem puts_txt (p : Pl) : ∀ k, (puts k p).txt = p.txt ++ List.replicate k 39
  | 0 => by simp [puts]
  | k + 1 => by
    show (puts k p).txt ++ [39] = _
    rw [puts_txt p k, List.append_assoc, List.replicate_succ']
theorem puts_ok {p : Pl} (h : p.ok) : ∀ k, (puts k p).ok
  | 0 => h
  | k + 1 => puts_ok h k
theorem skip_out (z : List Nat) (e : Nat) : ∃ k, skipP z e = e + k ∧ z.drop e = List.replicate k 39 ++ z.drop (skipP z e) := by
  refine ⟨_, rfl, ?_⟩
  unfold skipP
  generalize hk : z.drop e = y
  have h1 : y.takeWhile (fun c => decide (c = 39)) = List.replicate (y.takeWhile (fun c => decide (c = 39))).length 39 := by
    apply List.eq_replicate_of_mem
    intro b hb
    have := List.all_eq_true.mp (List.all_takeWhile (p := fun c => decide (c = 39)) (l := y)) b hb
    exact of_decide_eq_true this
  rw [← List.drop_drop, hk, ← h1]
  have h2 := List.takeWhile_append_dropWhile (p := fun c => decide (c = 39)) (l := y)
  have h3 : y.drop (y.takeWhile (fun c => decide (c = 39))).length = y.dropWhile (fun c => decide (c = 39)) := by
    conv => lhs; rhs; rw [← h2]
    rw [List.drop_append, List.drop_of_length_le (Nat.le_refl _), Nat.sub_self]
    rfl
  rw [h3, h2]
theorem end_out : ∀ (n : Nat) {z : List Nat} {a e : Nat}, endF n z a = some e → ∃ p : Pl, p.ok ∧ z.drop a = p.txt ++ z.drop e ∧ e = a + p.txt.length
  | 0, z, a, e, h => by cases h
  | n + 1, z, a, e, h => by
    rw [endF] at h
    obtain ⟨b, hb, rfl⟩ := Option.map_eq_some_iff.mp h
    have fin : ∀ {p : Pl} {b : Nat}, p.ok → z.drop a = p.txt ++ z.drop b → b = a + p.txt.length → ∃ p : Pl, p.ok ∧ z.drop a = p.txt ++ z.drop (skipP z b) ∧ skipP z b = a + p.txt.length := fun {p b} hp hd hb => by
      obtain ⟨k, e1, e2⟩ := skip_out z b
      refine ⟨puts k p, puts_ok hp k, ?_, ?_⟩
      · rw [puts_txt, List.append_assoc, ← e2, hd]
      · rw [puts_txt, List.length_append, List.length_replicate, e1]
        omega
    have dr : ∀ {i c : Nat}, z[i]? = some c → z.drop i = c :: z.drop (i + 1) := fun {i c} hi => by
      obtain ⟨hl, hc⟩ := List.getElem?_eq_some_iff.mp hi
      rw [← hc]
      exact List.drop_eq_getElem_cons hl
    split at hb
    · cases hb
    · rename_i c hc
      split at hb
      · rename_i hl
        cases hb
        exact fin (p := .lt c) hl (dr hc) rfl
      · split at hb
        · rename_i h40
          subst h40
          obtain ⟨mid, h1, hb⟩ := Option.bind_eq_some_iff.mp hb
          split at hb
          · rename_i h43
            obtain ⟨l, h2, hb⟩ := Option.bind_eq_some_iff.mp hb
            split at hb
            · rename_i h41
              cases hb
              obtain ⟨p, okp, d1, rfl⟩ := end_out n h1
              obtain ⟨q, okq, d2, rfl⟩ := end_out n h2
              refine fin (p := .meld p q) ⟨okp, okq⟩ ?_ ?_
              · rw [dr hc, d1, dr h43, d2, dr h41]
                simp [Pl.txt]
              · simp [Pl.txt]
                omega
            · cases hb
          · cases hb
        · cases hb
theorem end_iff (z : List Nat) : endF (z.length + 1) z 0 = some z.length ↔ ∃ p : Pl, p.ok ∧ p.txt = z := by
  constructor
  · intro h
    obtain ⟨p, hp, e, _⟩ := end_out _ h
    rw [List.drop_zero, List.drop_of_length_le (Nat.le_refl _), List.append_nil] at e
    exact ⟨p, hp, e.symm⟩
  · rintro ⟨p, hp, rfl⟩
    have := end_txt p hp (p.txt.length + 1) 0 0 p.txt [] (by simp) (by simp) (by omega)
    rw [this]
    simp
theorem cnt_txt : ∀ (p : Pl), p.ok → p.txt.count 39 + p.txt.count 43 = p.cnt
  | .lt c, h => by
    have h := of_decide_eq_true (h : isL c = true)
    rcases h with rfl | rfl | rfl <;> decide
  | .put p, h => by
    have := cnt_txt p h
    show (p.txt ++ [39]).count 39 + (p.txt ++ [39]).count 43 = p.cnt + 1
    rw [List.count_append, List.count_append]
    have e1 : List.count 39 [39] = 1 := by decide
    have e2 : List.count 43 [39] = 0 := by decide
    omega
  | .meld p q, h => by
    have h1 := cnt_txt p h.1
    have h2 := cnt_txt q h.2
    have e : (Pl.meld p q).txt = [40] ++ (p.txt ++ ([43] ++ (q.txt ++ [41]))) := rfl
    rw [e]
    simp only [List.count_append]
    have e1 : List.count 39 [40] = 0 := by decide
    have e2 : List.count 39 [43] = 0 := by decide
    have e3 : List.count 39 [41] = 0 := by decide
    have e4 : List.count 43 [40] = 0 := by decide
    have e5 : List.count 43 [43] = 1 := by decide
    have e6 : List.count 43 [41] = 0 := by decide
    show _ = p.cnt + q.cnt + 1
    omega
/-- a text is that of a plan -/
def planB (z : List Nat) : Bool := match readS z with
  | some m => decide (m ≤ 4)
  | none => false
theorem planB_iff (z : List Nat) : planB z = true ↔ ∃ p : Pl, p.ok ∧ p.txt = z ∧ p.cnt ≤ 4 := by
  unfold planB
  cases e : readS z with
  | none =>
    constructor
    · exact nofun
    · rintro ⟨p, hp, ht, _⟩
      have := (read_iff z p.cnt).mpr ⟨p, hp, ht, rfl⟩
      rw [e] at this
      cases this
  | some m =>
    constructor
    · intro h
      obtain ⟨p, hp, ht, hc⟩ := (read_iff z m).mp e
      exact ⟨p, hp, ht, by rw [hc]; exact of_decide_eq_true h⟩
    · rintro ⟨p, hp, ht, hc⟩
      have := (read_iff z p.cnt).mpr ⟨p, hp, ht, rfl⟩
      rw [e] at this
      cases this
      exact decide_eq_true hc
theorem planB_law (z : List Nat) : planB z = (decide (endF (z.length + 1) z 0 = some z.length) && (!decide (z = []) && decide (z.count 39 + z.count 43 ≤ 4))) := by
  rw [Bool.eq_iff_iff, planB_iff]
  simp only [Bool.and_eq_true, decide_eq_true_eq, Bool.not_eq_true', decide_eq_false_iff_not]
  rw [end_iff]
  constructor
  · rintro ⟨p, hp, rfl, hc⟩
    refine ⟨⟨p, hp, rfl⟩, fun h => ?_, by rw [cnt_txt p hp]; exact hc⟩
    cases p with
    | lt c => cases h
    | put p => exact absurd (congrArg List.length h) (by simp [Pl.txt])
    | meld p q => cases h
  · rintro ⟨⟨p, hp, rfl⟩, _, hc⟩
    exact ⟨p, hp, rfl, by rw [← cnt_txt p hp]; exact hc⟩
end Kl

set_option maxRecDepth 100000
set_option maxHeartbeats 4000000
/-! ### own rule: del xs[i:] of a list -/
namespace Gx
open PySem PySem.Spec PyProof.Rows L2
open PySem.SeqAt
open PySem.AutoSeq1 (wpAny_loadPart')
open PySem.MeetsSeq PySem.MeetsSeq2 PySem.MeetsSeq3
section
variable {prog : Program} {w : World} {A : Around} {E : Value → Shared → Prop} {s : Shared}
theorem keep_head (n : Nat) (f : Nat → Bool) : ∀ (xs : List Value) (k : Nat), (∀ j, j < k + xs.length → f j = decide (n ≤ j)) → ((xs.zipIdx k).filterMap fun p => if f p.2 = true then none else some p.1) = xs.take (n - k)
  | [], k, _ => by simp
  | x :: xs, k, h => by
    rw [List.zipIdx_cons, List.filterMap_cons, keep_head n f xs (k + 1) fun j hj => h j (by rw [List.length_cons]; omega)]
    have h0 := h k (by rw [List.length_cons]; omega)
    rw [h0]
    by_cases c : n ≤ k
    · rw [decide_eq_true c]
      simp only [if_true]
      rw [show n - (k + 1) = 0 by omega, show n - k = 0 by omega]
      rfl
    · rw [decide_eq_false c]
      simp only [Bool.false_eq_true, if_false]
      rw [show n - k = (n - (k + 1)) + 1 by omega, List.take_succ_cons]
theorem bounds_tail (i : Int) (n : Nat) : sliceBounds (some i) none none n = (((HT.sIx n 0 (some i) : Nat) : Int), (n : Int), 1) := by
  have h1 : (1 : Int) > 0 := by decide
  simp only [sliceBounds, Option.getD_none, h1, if_true]
  congr 1
  show max 0 (min (if i < 0 then i + (n : Int) else i) (n : Int)) = (((if i < 0 then (i + (n : Int)).toNat else min i.toNat n) : Nat) : Int)
  split <;> omega
theorem delItem_slice {l sl : Addr} {items : Array Value} {n : Nat} {vl : Value} {i : Int} {Q : Unit → Shared → Prop}
    (e : s.heap.get? l = some { cls := .type "list", data := .seq items n })
    (hs : s.heap.IsSliceOf sl vl .none .none) (pl : IsPart vl (some i)) (hsz : items.size ≤ sizeLine)
    (h : ∀ f : Array Value → Array Value, (f items = (items.toList.take (HT.sIx items.size 0 (some i))).toArray) → Q () { s with heap := s.heap.update l (Obj.mapSeq f) }) :
    wpAny (model prog w) A (delItem (.ref l) (.ref sl)) Q E s := by
  have hl : s.heap.IsList l items := PySem.IsL.isList e
  obtain ⟨os, hos, hcs, hds⟩ := id hs
  have hTs : s.TypeIs (.ref sl) "slice" := ⟨os, hos, hcs⟩
  have hstep : ¬ ((rawPart none == rawInt 0) = true) := Bool.false_ne_true
  unfold delItem
  try with_reducible refine wpAny_holding ?_
  first | refine wpAny_bind (wpAny_pure ?_) | skip
  refine wpAny_bind (wpAny_sequenceKey hl.typeIs (by decide) ?_)
  refine wpAny_bind (wpAny_callSpecial?_slot (name := Str.ofString "__delitem__") hl.typeIs F.slot_list_delitem
    (wpAny_call_entry F.slot_list_delitem hl.typeIs F.entry_list_delitem ?_ (F.args_list_delitem_2 _ _)))
  show wpAny _ _ (Builtin.List.listSubscript? (.ref sl) >>= _) _ _ s
  refine wpAny_bind ?_
  unfold Builtin.List.listSubscript?
  refine wpAny_bind (wpAny_specialOf hTs slice_no_index ?_)
  simp only [Option.isNone_none, if_true]
  refine wpAny_pure ?_
  show wpAny _ _ (typeOf (.ref sl) >>= _) _ _ s
  refine wpAny_bind (wpAny_typeOf hTs ?_)
  first
    | rw [if_neg (by decide)]
    | refine PySem.W.KFB.if_not (by decide) ?_
  rw [listSliceParts_eq]
  refine wpAny_bind (wpAny_bind (wpAny_field hos hds (x := .none) rfl (wpAny_bind (wpAny_listPart .none ?_))))
  rw [if_neg hstep]
  refine wpAny_bind (wpAny_field hos hds (x := vl) rfl (wpAny_bind (wpAny_listPart pl ?_)))
  refine wpAny_bind (wpAny_field hos hds (x := .none) rfl (wpAny_bind (wpAny_listPart .none (wpAny_pure ?_))))
  refine wpAny_bind (wpAny_bind (wpAny_seqItems e rfl (wpAny_pure ?_)))
  refine wpAny_bind (wpAny_of_eq (sliceIndices_raw (some i) none none items.size (by simp)) ?_)
  rw [bounds_tail]
  refine wpAny_bind (wpAny_rule ?_)
  have hle : HT.sIx items.size 0 (some i) ≤ items.size := HT.sIx_le _ _ (Nat.zero_le _) _
  generalize hk : HT.sIx items.size 0 (some i) = k at h hle
  show wpAny _ _ (updateSeq l (fun xs => _) >>= _) _ _ s
  have hsel : ∀ (f : Nat → Bool), (∀ j, j < items.size → f j = decide (k ≤ j)) → (List.filterMap (fun x : Value × Nat => if f x.2 = true then none else some x.1) items.toList.zipIdx).toArray = (items.toList.take k).toArray := fun f hf =>
    congrArg List.toArray (keep_head k f items.toList 0 fun j hj => hf j (by rw [Array.length_toList] at hj; omega))
  have sel1 : ∀ (j : Nat), j < items.size → (if (1 : Int) > 0 then decide ((k : Int) ≤ (j : Int)) && decide ((j : Int) < (items.size : Int)) && ((j : Int) - (k : Int)) % 1 == 0 else decide ((items.size : Int) < (j : Int)) && decide ((j : Int) ≤ (k : Int)) && ((k : Int) - (j : Int)) % (-1) == 0) = decide (k ≤ j) := fun j hj => by
    rw [if_pos (by decide), Int.emod_one, decide_eq_true (show (j : Int) < (items.size : Int) by omega), Bool.and_true, show decide ((k : Int) ≤ (j : Int)) = decide (k ≤ j) by rw [decide_eq_decide]; omega]
    simp
  refine wpAny_bind (wpAny_updateSeq (hz := hsz) (_hz' := ?hz) e rfl ?main)
  case main =>
    refine wpAny_bind (wpAny_letGo ?_)
    first
      | refine wpAny_bind (wpAny_pure (wpAny_pure ⟨.none, rfl, wpAny_pure (h _ ?_)⟩))
      | refine wpAny_pure ⟨.none, rfl, wpAny_pure (h _ ?_)⟩
    exact hsel _ fun j hj => sel1 j hj
  case hz =>
    have e2 := hsel _ fun j hj => sel1 j hj
    refine Nat.le_trans (Nat.le_of_eq (congrArg Array.size e2)) ?_
    rw [List.size_toArray, List.length_take, Array.length_toList]
    omega
end
section
variable {X : Cx}
/-- del xs[i:] -/
def tDelSl (to : TE) (tl : TO) : TS := fun D σ H => to σ H fun x H1 => tl σ H1 fun o H2 => ∃ (l : Addr) (xs : List V) (i : Int), x = .ref l ∧ o = some i ∧ H2 l = some (.lst xs) ∧ D.nx σ (upd H2 l (.lst (xs.take (HT.sIx xs.length 0 (some i)))))
theorem ps_delSl {o : Expr} {lo : Option Expr} {to : TE} {tl : TO} {tpos p2 pos : Pos} (ho : PE X o to) (hl : PO X lo tl) : PS X (.Delete [.Subscript o (.Slice lo none none p2) tpos] pos) (tDelSl to tl) := by
  refine ⟨fun pins s σ H D I h => ?_⟩
  refine wpAny_Delete (wpAny_deleteEach_cons (wpAny_delete_Subscript (thn (ho.run pins s σ H _ I h) fun u s1 ⟨x, H1, I1, rx, q1⟩ => ?_)))
  refine wpAny_Slice (thn (hl.run pins s1 σ H1 _ I1 q1) fun vl s2 ⟨op, H2, I2, pl, q2⟩ => ?_)
  rw [evalPart_none]
  refine wpAny_pure ?_
  refine wpAny_pure ?_
  have I4 : Inv X pins σ H2 { s2 with heap := s2.heap.push { cls := .type "slice", data := .fields #[vl, .none, .none] } } := I2.kept (t' := s2.toks) fun b ob q => Heap.get?_push_of_some _ q
  obtain ⟨l, xs, i, ex, eo, hH, q2⟩ := q2
  subst ex
  subst eo
  cases (show u = Value.ref l from rx)
  obtain ⟨z, its, n, r, hl2, e⟩ := I4.lstM hH
  have hsz : its.toArray.size ≤ sizeLine := by
    rw [List.size_toArray, ← hl2]
    omega
  refine delItem_slice e (Heap.IsSliceOf.new ..) pl hsz fun f hf => ?_
  refine wpAny_deleteEach_nil ⟨σ, _, I4.lset (its' := its.take (HT.sIx xs.length 0 (some i))) (t' := s2.toks) hH e ?_ (r.take _) ?_, q2⟩
  · rw [hf, List.size_toArray, hl2]
  · rw [List.length_take]
    omega
end
end Gx

set_option maxRecDepth 100000
set_option maxHeartbeats 4000000
namespace Gx
open PySem PySem.Spec PyProof.Rows L2
/-! data stay while nothing is changed -/
theorem sqT_st {K : PySem.W.Frag} {H H' : Hp} {a : Addr} {xs : List V} (s : ∀ b o, H b = some o → H' b = some o) (h : SqT K H a xs) : SqT K H' a xs := by
  rcases h with (h | ⟨o, h⟩) | h
  · exact .inl (.inl (s _ _ h))
  · exact .inl (.inr ⟨o, s _ _ h⟩)
  · exact .inr h
theorem sqL_st {K : PySem.W.Frag} {H H' : Hp} {a : Addr} {xs : List V} (s : ∀ b o, H b = some o → H' b = some o) (h : SqL K H a xs) : SqL K H' a xs := by
  rcases h with (h | ⟨o, h⟩) | h
  · exact .inl (.inl (s _ _ h))
  · exact .inl (.inr ⟨o, s _ _ h⟩)
  · exact .inr h
mutual
theorem dp_st {K : PySem.W.Frag} {H H' : Hp} (s : ∀ b o, H b = some o → H' b = some o) : ∀ (d : PyData) (v : V), Dp K H v d → Dp K H' v d
  | .none, _, h => by cases h; exact .non
  | .bool _, _, h => by cases h; exact .bl _
  | .int _, _, h => by cases h; exact .int _
  | .str _, _, h => by cases h; exact .str _
  | .list ds, _, h => by
    cases h with
    | lst e r => exact .lst (sqL_st s e) (dpAll_st s ds _ r)
  | .tuple ds, _, h => by
    cases h with
    | tup e r => exact .tup (sqT_st s e) (dpAll_st s ds _ r)
  | .dict _, _, h => by cases h
theorem dpAll_st {K : PySem.W.Frag} {H H' : Hp} (s : ∀ b o, H b = some o → H' b = some o) : ∀ (ds : List PyData) (vs : List V), DpAll K H vs ds → DpAll K H' vs ds
  | [], _, h => by cases h; exact .nil
  | d :: ds, _, h => by
    cases h with
    | cons a r => exact .cons (dp_st s d _ a) (dpAll_st s ds _ r)
end
theorem _root_.L2.Dp.st {K : PySem.W.Frag} {H H' : Hp} {v : V} {d : PyData} (h : Dp K H v d) (s : ∀ b o, H b = some o → H' b = some o) : Dp K H' v d := dp_st s d v h
theorem _root_.L2.DpAll.st {K : PySem.W.Frag} {H H' : Hp} {vs : List V} {ds : List PyData} (h : DpAll K H vs ds) (s : ∀ b o, H b = some o → H' b = some o) : DpAll K H' vs ds := dpAll_st s ds vs h
end Gx

set_option maxRecDepth 100000
set_option maxHeartbeats 4000000
/-! ### own rules: a def that may raise, whatever is under way -/
namespace Gx
open PySem PySem.Spec PyProof.Rows L2
section
variable {X : Cx} {C : Addr} {k : Nat} {ps : List Str} {sp : Sp} {E : L2.St → XK}
theorem runX_below {f : Addr} {fd : FuncData} {A : Around} {pins : List (Addr × Obj)} {σ : L2.St} {H : Hp} {s : Shared} {us : List Value} {vs : List V} {Q : VK} (F : FnOk X.prog X.w X.K X.mg X.base (L2.CX X.prog X.w) k f fd ps sp) (room : Room k A) (fr : A.frames = X.A.frames) (b : Binds X.K fd ps [])
    (hx : PassesAt (L2.CX X.prog X.w) X σ (E σ)) (I : Inv X pins σ H s) (r : Vals vs us) (want : sp vs H Q (E σ)) : wpAny (model X.prog X.w) A (call (.ref f) us) (EP X pins σ Q) X.xe s := by
  have e0 : Env0 X.prog X.w X.K X.mg X.base A X.stack s H := by
    have e := I.env0
    exact ⟨by rw [fr]; exact e.frames, e.mod, e.bs, e.bsz, e.funs, e.frf, e.hok, e.bare⟩
  have hl : us.length = ps.length := r.length.symm.trans (F.len _ _ _ _ want)
  have bt : BindsTo s fd ⟨us, []⟩ (ps.zip us) := by
    have q := b s us I.kIn (by rw [List.append_nil]; exact hl)
    rw [List.append_nil] at q
    exact q
  refine wpAny_call (codeAny_mono (F.run A X.stack s H ⟨us, []⟩ us vs Q (E σ) room e0 bt r want) fun res s' hres => ?_)
  match res, hres with
  | .error e, hres => exact hx pins H s e s' I hres
  | .ok (.ret u), hres => exact I.after hres
end
/-- the name x is a def that keeps sp and may raise, whatever is under way -/
def CalY (P : Program) (w : World) (K : PySem.W.Frag) (mg : Str → Option Value) (base : Heap) (k : Nat) (x : Str) (ps : List Str) (sp : Sp) : Prop :=
  ∃ (f : Addr) (fd : FuncData), FnOk P w K mg base (L2.CX P w) k f fd ps sp ∧ PySem.W.keepIn K (.ref f) = true ∧ Binds K fd ps [] ∧ mg x = some (.ref f)
section
variable {P : Program} {w : World} {K : PySem.W.Frag} {mg : Str → Option Value} {base : Heap}
theorem CalY.up {j k : Nat} {x : Str} {ps : List Str} {sp : Sp} (c : CalY P w K mg base j x ps sp) (h : j ≤ k) : CalY P w K mg base k x ps sp := by
  obtain ⟨f, fd, F, r⟩ := c
  exact ⟨f, fd, F.mono h, r⟩
theorem Def.calY {x qual : Str} {st : Stmt} {ps : List Str} (d : Def K mg x qual st ps) {k : Nat} {sp : Sp} (h : ∀ f fd, Fun K x qual st f fd → FnOk P w K mg base (L2.CX P w) k f fd ps sp) : CalY P w K mg base k x ps sp := by
  obtain ⟨f, fd, F, b, g⟩ := d
  exact ⟨f, fd, h f fd F, F.kp, b, g⟩
end
section
variable {X : Cx} {k : Nat} {ps : List Str} {sp : Sp} {E : L2.St → XK}
def tClY (sp : Sp) (E : L2.St → XK) (t : TA) : TE := fun σ H Q => t σ H fun vs H1 => sp vs H1 Q (E σ)
theorem pe_calY {x : Str} {e : Expr} {es : List Expr} {t : TA} {p pos : Pos} (c : CalY X.prog X.w X.K X.mg X.base k x ps sp) (room : Room k X.A) (hg : Gl X x) (hx : ∀ σ, PassesAt (L2.CX X.prog X.w) X σ (E σ)) (h : PA X (e :: es) t)
    (hdb : (x == ("__debug__" : Str)) = false := by decide) (hst : starEach (e :: es) X.env = (false, eval e X.env) :: starEach es X.env := by rfl) (hpl : (backTo pos (starEach es X.env)).any (·.1) = false := by rfl) :
    PE X (.Call (.Name x p) (e :: es) [] pos) (tClY sp E t) := by
  obtain ⟨f, fd, F, kp, b, hm⟩ := c
  refine ⟨fun pins s σ H Q I want => wpAny_Call_Name_kw (ld_glob I hg hm ?_ hdb)⟩
  refine PySem.W.callWith_K (h₀ := X.base) I.ok.mod.kin kp (thn (h.run pos pins s σ H _ I want) fun us s1 ⟨vs, H1, I1, r, q⟩ => ⟨I1.kIn, ?_⟩) hst hpl
  exact runX_below F room rfl b (hx σ) I1 r q
end
end Gx

set_option maxRecDepth 100000
set_option maxHeartbeats 4000000
namespace Kl
open PySem PySem.Spec PyProof.Rows L2 Gx Mx
theorem same_new {H H1 : Hp} {p : Addr} {o : HO} (s : Same H H1) (n : H1 p = none) : Same H (upd H1 p o) := fun b u e => by
  rw [upd_ne (ne_of_none (s b u e) n)]
  exact s b u e
theorem flat_strs' (zs : List Str) : (zs.map V.str).all flatV = true := by
  rw [List.all_map]
  exact List.all_eq_true.mpr fun _ _ => rfl
theorem inV_strs (z : Str) (zs : List Str) : inV (.str z) (zs.map V.str) = decide (z ∈ zs) := by
  unfold inV
  rw [List.any_map]
  have e : (fun y => eqV y (V.str z)) ∘ V.str = fun y => decide (y = z) := by
    funext y
    show (y == z) = decide (y = z)
    by_cases h : y = z
    · subst h
      rw [decide_eq_true rfl]
      exact beq_self_eq_true y
    · rw [decide_eq_false h]
      exact beq_eq_false_iff_ne.mpr h
  rw [e, Bool.eq_iff_iff, List.any_eq_true, decide_eq_true_eq]
  constructor
  · rintro ⟨y, hy, q⟩
    rw [← of_decide_eq_true q]
    exact hy
  · intro h
    exact ⟨z, h, decide_eq_true rfl⟩
/-! ### _are_kinds of kinds -/
theorem at_texts {zs : List Str} {j : Nat} {x : V} (hj : (zs.map V.str)[j]? = some x) : ∃ z, zs[j]? = some z ∧ V.str z = x := by
  rw [List.getElem?_map] at hj
  cases e : zs[j]? with
  | none => rw [e] at hj; cases hj
  | some z => rw [e] at hj; exact ⟨z, rfl, by cases hj; rfl⟩
theorem sqT_sx {K : PySem.W.Frag} {G G' : Hp} {d a : Addr} {xs : List V} (hd : DiceAt G d) (s : SameX d G G') (h : SqT K G a xs) : SqT K G' a xs := by
  obtain ⟨p, q, r, e⟩ := hd
  rcases h with (h | ⟨o, h⟩) | h
  · exact .inl (.inl (s _ _ (fun z => by rw [z, e] at h; cases h) h))
  · exact .inl (.inr ⟨o, s _ _ (fun z => by rw [z, e] at h; cases h) h⟩)
  · exact .inr h
theorem ins_sx {G G' : Hp} {d a C dx : Addr} {fs : List (Str × V)} (hd : DiceAt G d) (s : SameX d G G') (h : G a = some (.ins C dx fs)) : G' a = some (.ins C dx fs) := by
  obtain ⟨p, q, r, e⟩ := hd
  exact s _ _ (fun z => by rw [z, e] at h; cases h) h
theorem dice_sm {H H' : Hp} {d : Addr} (s : ∀ b o, H b = some o → H' b = some o) (q : DiceAt H d) : DiceAt H' d := by
  obtain ⟨x, b, c, h⟩ := q
  exact ⟨x, b, c, s _ _ h⟩
theorem putF_app {k : Str} {v : V} : ∀ fs : List (Str × V), (∀ p ∈ fs, p.1 ≠ k) → putF k v fs = fs ++ [(k, v)]
  | [], _ => rfl
  | p :: fs, h => by
    have ih := putF_app (v := v) fs fun q hq => h q (List.mem_cons_of_mem _ hq)
    obtain ⟨a, b⟩ := p
    show (if a = k then (a, v) :: fs else (a, b) :: putF k v fs) = _
    rw [if_neg (h (a, b) List.mem_cons_self), ih]
    rfl
end Kl

set_option maxRecDepth 100000
set_option maxHeartbeats 4000000
namespace Kl
open PySem PySem.Spec PyProof.Rows L2 Gx Mx
theorem at_end {xs : List V} {k : Nat} {v : V} (h1 : 1 ≤ k) (h2 : k ≤ xs.length) (h : xs[xs.length - k]? = some v) : atI xs (-(k : Int)) = some v := by
  unfold atI ixN
  rw [if_neg (by omega), if_pos (by omega)]
  show xs[(-(k : Int) + (xs.length : Int)).toNat]? = _
  rw [show (-(k : Int) + (xs.length : Int)).toNat = xs.length - k by omega]
  exact h
abbrev LT3 : List Str := ["A", "B", "C"]
abbrev SG7 : List Str := ["A", "B", "C", "(", "+", ")", "'"]
theorem one_inj {c d : Nat} : one c = one d ↔ c = d := by
  constructor
  · intro h
    have := congrArg (fun z : Str => z.cps.toList) h
    exact (List.cons.inj this).1
  · intro h
    rw [h]
theorem lits : ("A" : Str) = one 65 ∧ ("B" : Str) = one 66 ∧ ("C" : Str) = one 67 ∧ ("(" : Str) = one 40 ∧ ("+" : Str) = one 43 ∧ (")" : Str) = one 41 ∧ ("'" : Str) = one 39 := by decide +kernel
theorem mem_lt (z : Str) : decide (z ∈ LT3) = decide (z = one 65 ∨ z = one 66 ∨ z = one 67) := by
  obtain ⟨a, b, c, _⟩ := lits
  rw [decide_eq_decide]
  simp only [List.mem_cons, List.not_mem_nil, or_false]
  rw [a, b, c]
theorem mem_sg (c : Nat) : decide (one c ∈ SG7) = isSg c := by
  obtain ⟨a1, a2, a3, a4, a5, a6, a7⟩ := lits
  unfold isSg
  rw [decide_eq_decide]
  simp only [List.mem_cons, List.not_mem_nil, or_false]
  rw [a1, a2, a3, a4, a5, a6, a7]
  simp only [one_inj]
/-- what stands on the stack -/
def StkV (v : V) : Prop := (∃ n : Int, v = .int n) ∨ ∃ c : Nat, v = .str (one c)
theorem run_snoc : ∀ (cs : List Nat) (c : Nat) (rs : List V) (m : Nat), runS (cs ++ [c]) rs m = (runS cs rs m).bind fun q => stepS q.1 q.2 c
  | [], c, rs, m => by
    show (stepS rs m c).bind (fun q => runS [] q.1 q.2) = stepS rs m c
    cases stepS rs m c with
    | none => rfl
    | some q => rfl
  | d :: cs, c, rs, m => by
    show (stepS rs m d).bind (fun q => runS (cs ++ [c]) q.1 q.2) = ((stepS rs m d).bind fun q => runS cs q.1 q.2).bind _
    cases stepS rs m d with
    | none => rfl
    | some q => exact run_snoc cs c q.1 q.2
theorem run_app : ∀ (cs ds : List Nat) (rs : List V) (m : Nat), runS (cs ++ ds) rs m = (runS cs rs m).bind fun q => runS ds q.1 q.2
  | [], ds, rs, m => rfl
  | d :: cs, ds, rs, m => by
    show (stepS rs m d).bind (fun q => runS (cs ++ ds) q.1 q.2) = ((stepS rs m d).bind fun q => runS cs q.1 q.2).bind _
    cases stepS rs m d with
    | none => rfl
    | some q => exact run_app cs ds q.1 q.2
theorem run_bad {cs : List Nat} {j c : Nat} {rs : List V} {m : Nat} (h : runS (cs.take j) [] 0 = some (rs, m)) (hc : cs[j]? = some c) (n : stepS rs m c = none) : readS cs = none := by
  have e : cs = cs.take j ++ (c :: cs.drop (j + 1)) := by
    obtain ⟨hl, e⟩ := List.getElem?_eq_some_iff.mp hc
    rw [← e, ← List.drop_eq_getElem_cons hl, List.take_append_drop]
  have : runS cs [] 0 = none := by
    rw [e, run_app, h]
    show (stepS rs m c).bind _ = none
    rw [n]
    rfl
  unfold readS
  rw [this]
theorem run_go {cs : List Nat} {j c : Nat} {rs : List V} {m : Nat} (h : runS (cs.take j) [] 0 = some (rs, m)) (hc : cs[j]? = some c) : runS (cs.take (j + 1)) [] 0 = stepS rs m c := by
  rw [List.take_add_one, hc]
  show runS (cs.take j ++ [c]) [] 0 = _
  rw [run_snoc, h]
  rfl
theorem at_rev {rs : List V} {k : Nat} {v : V} (h : rs[k]? = some v) : atI rs.reverse (-((k + 1 : Nat) : Int)) = some v := by
  have hk := (List.getElem?_eq_some_iff.mp h).1
  refine at_end (by omega) (by rw [List.length_reverse]; omega) ?_
  rw [List.length_reverse, List.getElem?_reverse (by omega), show rs.length - 1 - (rs.length - (k + 1)) = k by omega]
  exact h
theorem rev_take {rs : List V} {k : Nat} (h1 : 1 ≤ k) (h : k ≤ rs.length) : rs.reverse.take (HT.sIx rs.reverse.length 0 (some (-(k : Int)))) = (rs.drop k).reverse := by
  have e : HT.sIx rs.reverse.length 0 (some (-(k : Int))) = rs.length - k := by
    rw [List.length_reverse]
    show (if -(k : Int) < 0 then (-(k : Int) + (rs.length : Int)).toNat else min (-(k : Int)).toNat rs.length) = _
    split <;> omega
  rw [e, List.take_reverse, show rs.length - (rs.length - k) = k by omega]
theorem close_short {rs : List V} {m : Nat} (h : rs.length < 4) : closeS rs m = none := by
  unfold closeS
  split
  · simp at h
    omega
  · rfl
theorem four {rs : List V} (h : ¬ rs.length < 4) : ∃ b p a o r, rs = b :: p :: a :: o :: r := by
  match rs, h with
  | b :: p :: a :: o :: r, _ => exact ⟨b, p, a, o, r, rfl⟩
  | [_, _, _], h => exact absurd (by show 3 < 4; decide) h
  | [_, _], h => exact absurd (by show 2 < 4; decide) h
  | [_], h => exact absurd (by show 1 < 4; decide) h
  | [], h => exact absurd (by show 0 < 4; decide) h
theorem stk_scal {v : V} (h : StkV v) (c : Nat) : scal v (.str (one c)) = true := by
  rcases h with ⟨n, rfl⟩ | ⟨d, rfl⟩ <;> rfl
/-- all but two lists stays -/
def KeepX (a b : Addr) (H H' : Hp) : Prop := ∀ x o, x ≠ a → x ≠ b → H x = some o → H' x = some o
section
variable {P : Program} {w : World} {K : PySem.W.Frag} {mg : Str → Option Value} {base : Heap}
/-! ### _is_side -/
def spSide : Sp := fun vs H Q _ => ∃ v : V, vs = [v] ∧ StkV v ∧ Q (.bl (sideV v)) H
theorem ok_side {f : Addr} {fd : FuncData} (F : Fun K "_is_side" "_is_side" s_is_side f fd) (T : Top K mg) : FnOk P w K mg base CX0 1 f fd ["sign"] spSide := by
  obtain ⟨aL, oL, iL, nL, gL, lL, cL, dL, zL, vL⟩ := T.t_LETTERS
  have hL : ∀ H : Hp, SqT K H aL (LT3.map V.str) := fun H => .inr ⟨oL, iL, nL, lL, cL, dL, zL, vL⟩
  refine F.ok sc_is_side (fun vs H Q E h => ?_) (fun cdv A outer s H vs Q E hr h => ?_)
  · obtain ⟨v, rfl, _⟩ := h
    rfl
  · obtain ⟨v, rfl, hv, q⟩ := h
    refine ⟨_, pss_one (ps_ret (pe_or (pe_cmpR op_in_seq (pv 0) (pe_glob (v := .ref aL) (by rfl) gL rfl) (by rfl)) (pe_one (pe_callB call_isi (by rfl) T.b_isinstance (by decide +kernel) (pa_cons (pv 0) (pa_cons (pe_bltn (v := .ty "int") (by rfl) T.b_int (by decide +kernel) rfl) pa_nil)))))), ?_⟩
    rcases hv with ⟨n, rfl⟩ | ⟨c, rfl⟩
    · refine ⟨_, rfl, aL, _, rfl, .inr (hL H), rfl, flat_strs' LT3, _, rfl, ?_⟩
      rw [show inV (V.int n) (LT3.map V.str) = false from rfl, if_neg (by decide)]
      exact ⟨_, rfl, _, .ty "int", .type "int", .type "int", true, rfl, .ty _, .base (.int n), kit_ty (by decide +kernel), q⟩
    · refine ⟨_, rfl, aL, _, rfl, .inr (hL H), rfl, flat_strs' LT3, _, rfl, ?_⟩
      rw [inV_strs, mem_lt]
      have q : Q (.bl (decide (one c = one 65 ∨ one c = one 66 ∨ one c = one 67))) H := q
      cases e : decide (one c = one 65 ∨ one c = one 66 ∨ one c = one 67) with
      | true =>
        rw [e] at q
        exact q
      | false =>
        rw [e] at q
        rw [if_neg (by decide)]
        exact ⟨_, rfl, _, .ty "int", .type "str", .type "int", false, rfl, .ty _, .base (.str _), kit_ty (by decide +kernel), q⟩
/-! ### _closed -/
def spClosed : Sp := fun vs H Q _ => ∃ (wl dl : Addr) (rs ds : List V), vs = [V.ref wl, .ref dl] ∧ H wl = some (.lst rs.reverse) ∧ H dl = some (.lst ds) ∧ wl ≠ dl ∧ (∀ v ∈ rs, StkV v) ∧ rs.length ≤ 5000 ∧ ds.length ≤ 5000 ∧
  (∀ (H' : Hp) (rs' : List V) (t : Addr), closeS rs ds.length = some (rs', ds.length + 1) → H' wl = some (.lst rs'.reverse) → H' dl = some (.lst (ds ++ [.ref t])) → KeepX wl dl H H' → Q (.bl true) H') ∧
  (closeS rs ds.length = none → Q (.bl false) H)
theorem ok_closed {f : Addr} {fd : FuncData} (F : Fun K "_closed" "_closed" s_closed f fd) (T : Top K mg) : FnOk P w K mg base CX0 2 f fd ["waiting", "deeds"] spClosed := by
  have cs : Cal P w K mg base 1 "_is_side" ["sign"] spSide := T.d_is_side.cal fun f fd F => ok_side F T
  refine F.ok sc_closed (fun vs H Q E h => ?_) (fun cdv A outer s H vs Q E hr h => ?_)
  · obtain ⟨wl, dl, rs, ds, rfl, _⟩ := h
    rfl
  · obtain ⟨wl, dl, rs, ds, rfl, ew, ed, nwd, hst, lw, ld, q1, q2⟩ := h
    refine ⟨_, pss_cut (ps_if (PW.pt (pw_or (pt_cmpR op_lt (pe_callB call_len_seq (by rfl) T.b_len PySem.boot_len (pa_cons (pv 0) pa_nil)) pe_int (nomark _))
          (pw_or (pt_cmpR op_ne (pe_ix ix_list (pv 0) (pe_un un_neg pe_int) (fun _ _ => rfl)) pe_str (by rfl)) (pw_or1 (pt_cmpR op_ne (pe_ix ix_list (pv 0) (pe_un un_neg pe_int) (fun _ _ => rfl)) pe_str (by rfl)))))) (pss_one (ps_ret pe_bl)) pss_nil)
      (pss_cut (ps_par (i := 2) (j := 3) rfl sc_closed.nd rfl rfl (by decide) rfl rfl (pa_cons (pe_ix ix_list (pv 0) (pe_un un_neg pe_int) (fun _ _ => rfl)) (pa_cons (pe_ix ix_list (pv 0) (pe_un un_neg pe_int) (fun _ _ => rfl)) pa_nil)) (by kernel_rfl))
      (pss_cut (ps_if (PW.pt (pw_or (pt_not (pt_val (pe_cal cs hr (by rfl) (pa_cons (pv 2) pa_nil)))) (pw_or1 (pt_not (pt_val (pe_cal cs hr (by rfl) (pa_cons (pv 3) pa_nil))))))) (pss_one (ps_ret pe_bl)) pss_nil)
      (pss_cut (ps_delSl (pv 0) (po_some (pe_un un_neg pe_int)))
      (pss_cut (ps_expr (pe_bm PySem.F.plainAttrs_list PySem.F.slot_list_append PySem.F.type_list_append mt_append (pv 0) (pa_cons (pe_callB call_len_seq (by rfl) T.b_len PySem.boot_len (pa_cons (pv 1) pa_nil)) pa_nil)))
      (pss_cut (ps_expr (pe_bm PySem.F.plainAttrs_list PySem.F.slot_list_append PySem.F.type_list_append mt_append (pv 1) (pa_cons (pe_tup (pa_cons pe_str (pa_cons (pv 2) (pa_cons (pv 3) pa_nil)))) pa_nil)))
      (pss_one (ps_ret pe_bl))))))), ?_⟩
    have big : 10000 ≤ sizeLine := by decide
    obtain ⟨_, _, _, k40, k43, _, _⟩ := lits
    refine ⟨fun σ' G => σ' = [some (.ref wl), some (.ref dl), none, none] ∧ H = G ∧ ∃ b a r, rs = b :: .str (one 43) :: a :: .str (one 40) :: r, ?_, ?_⟩
    · refine ⟨_, rfl, wl, _, rfl, .inl (.inl (.inl ew)), _, _, rfl, rfl, _, rfl, ?_⟩
      rw [List.length_reverse]
      by_cases c4 : rs.length < 4
      · rw [decide_eq_true (show ((rs.length : Nat) : Int) < 4 by omega)]
        show (if true = true then _ else _)
        rw [if_pos rfl]
        show (if true = true then _ else _)
        rw [if_pos rfl]
        exact q2 (close_short c4)
      rw [decide_eq_false (show ¬ ((rs.length : Nat) : Int) < 4 by omega)]
      show (if false = true then _ else _)
      rw [if_neg (by decide)]
      obtain ⟨b, p, a, o, r, rfl⟩ := four c4
      refine ⟨_, rfl, _, rfl, wl, _, _, o, rfl, rfl, .inl (.inl ew), at_rev (k := 3) rfl, ?_⟩
      rw [k40]
      refine ⟨stk_scal (hst o (by simp)) 40, _, rfl, ?_⟩
      by_cases ho : o = .str (one 40)
      rotate_left
      · rw [decide_eq_false ho]
        show (if true = true then _ else _)
        rw [if_pos rfl]
        show (if true = true then _ else _)
        rw [if_pos rfl]
        exact q2 (by
          unfold closeS
          simp only
          rw [if_neg (fun h => ho h.2.1)])
      subst ho
      rw [decide_eq_true rfl]
      show (if (!true) = true then _ else _)
      rw [if_neg (by decide)]
      refine ⟨_, rfl, _, rfl, wl, _, _, p, rfl, rfl, .inl (.inl ew), at_rev (k := 1) rfl, ?_⟩
      rw [k43]
      refine ⟨stk_scal (hst p (by simp)) 43, _, rfl, ?_⟩
      by_cases hp : p = .str (one 43)
      rotate_left
      · rw [decide_eq_false hp]
        show (if true = true then _ else _)
        rw [if_pos rfl]
        exact q2 (by
          unfold closeS
          simp only
          rw [if_neg (fun h => hp h.1)])
      subst hp
      rw [decide_eq_true rfl]
      show (if (!true) = true then _ else _)
      rw [if_neg (by decide)]
      exact ⟨rfl, rfl, b, a, r, rfl⟩
    rintro σ' G ⟨rfl, rfl, b, a, r, rfl⟩
    refine ⟨fun σ' G => σ' = [some (.ref wl), some (.ref dl), some a, some b] ∧ H = G, ?_, ?_⟩
    · refine ⟨_, rfl, _, rfl, wl, _, _, a, rfl, rfl, .inl (.inl ew), at_rev (k := 2) rfl, ?_⟩
      refine ⟨_, rfl, _, rfl, wl, _, _, b, rfl, rfl, .inl (.inl ew), at_rev (k := 0) rfl, ?_⟩
      exact ⟨_, _, rfl, rfl, rfl⟩
    rintro σ' G ⟨rfl, rfl⟩
    refine ⟨fun σ' G => σ' = [some (.ref wl), some (.ref dl), some a, some b] ∧ H = G ∧ sideV a = true ∧ sideV b = true, ?_, ?_⟩
    · have bad : ¬ (sideV a = true ∧ sideV b = true) → Q (.bl false) H := fun n => q2 (by
          unfold closeS
          simp only
          rw [if_neg (fun h => n h.2.2)])
      refine ⟨_, rfl, a, rfl, hst a (by simp), _, rfl, ?_⟩
      cases ha : sideV a with
      | false =>
        show (if true = true then _ else _)
        rw [if_pos rfl]
        show (if true = true then _ else _)
        rw [if_pos rfl]
        exact bad (fun h => by rw [ha] at h; cases h.1)
      | true =>
        show (if (!true) = true then _ else _)
        rw [if_neg (by decide)]
        refine ⟨_, rfl, b, rfl, hst b (by simp), _, rfl, ?_⟩
        cases hb : sideV b with
        | false =>
          show (if (!false) = true then _ else _)
          rw [if_pos (by decide)]
          exact bad (fun h => by rw [hb] at h; cases h.2)
        | true =>
          show (if (!true) = true then _ else _)
          rw [if_neg (by decide)]
          exact ⟨rfl, rfl, rfl, rfl⟩
    rintro σ' G ⟨rfl, rfl, ha, hb⟩
    have hc : closeS (b :: .str (one 43) :: a :: .str (one 40) :: r) ds.length = some (.int (ds.length : Nat) :: r, ds.length + 1) := by
      unfold closeS
      simp only [ha, hb, and_self, if_true]
    refine ⟨fun σ' G => σ' = [some (.ref wl), some (.ref dl), some a, some b] ∧ G = upd H wl (.lst r.reverse), ?_, ?_⟩
    · refine ⟨_, rfl, _, rfl, _, rfl, wl, _, _, rfl, rfl, ew, rfl, ?_⟩
      have e := rev_take (rs := b :: .str (one 43) :: a :: .str (one 40) :: r) (k := 4) (by decide) (by simp)
      exact congrArg (fun l => upd H wl (.lst l)) e
    rintro σ' G ⟨rfl, rfl⟩
    refine ⟨fun σ' G => σ' = [some (.ref wl), some (.ref dl), some a, some b] ∧ G = upd (upd H wl (.lst r.reverse)) wl (.lst (r.reverse ++ [.int (ds.length : Nat)])), ?_, ?_⟩
    · have e1 : (upd H wl (.lst r.reverse)) wl = some (.lst r.reverse) := upd_same
      refine ⟨_, rfl, ⟨.inl ⟨rfl, _, .inl (.inl e1)⟩, ?_⟩⟩
      refine ⟨_, rfl, dl, _, rfl, .inl (.inl (.inl (by rw [upd_ne nwd.symm]; exact ed))), wl, _, _, rfl, rfl, e1, ?_, rfl, rfl⟩
      rw [List.length_reverse]
      simp at lw
      omega
    rintro σ' G ⟨rfl, rfl⟩
    refine ⟨fun σ' G => σ' = [some (.ref wl), some (.ref dl), some a, some b] ∧ ∃ t, G wl = some (.lst (.int (ds.length : Nat) :: r).reverse) ∧ G dl = some (.lst (ds ++ [.ref t])) ∧ KeepX wl dl H G, ?_, ?_⟩
    · generalize hG : upd (upd H wl (.lst r.reverse)) wl (.lst (r.reverse ++ [.int (ds.length : Nat)])) = G
      have e1 : G wl = some (.lst (r.reverse ++ [.int (ds.length : Nat)])) := by rw [← hG]; exact upd_same
      have e2 : G dl = some (.lst ds) := by rw [← hG, upd_ne nwd.symm, upd_ne nwd.symm]; exact ed
      have kp : KeepX wl dl H G := fun x o n1 n2 e => by rw [← hG, upd_ne n1, upd_ne n1]; exact e
      refine ⟨_, rfl, ⟨.inl ⟨rfl, _, .inl (.inl e2)⟩, ?_⟩⟩
      refine ⟨_, rfl, _, rfl, by show 3 ≤ sizeLine; omega, fun t nt => ?_⟩
      refine ⟨dl, _, _, rfl, rfl, by rw [upd_ne (ne_of_none e2 nt)]; exact e2, by omega, rfl, t, ?_, upd_same, fun x o n1 n2 e => ?_⟩
      · rw [upd_ne nwd, upd_ne (ne_of_none e1 nt), e1, List.reverse_cons]
      · have := kp x o n1 n2 e
        rw [upd_ne n2, upd_ne (ne_of_none this nt)]
        exact this
    rintro σ' G ⟨rfl, t, e1, e2, kp⟩
    exact q1 G _ t hc e1 e2 kp
end
end Kl

set_option maxRecDepth 100000
set_option maxHeartbeats 4000000
namespace Kl
open PySem PySem.Spec PyProof.Rows L2 Gx Mx
section
variable {P : Program} {w : World} {K : PySem.W.Frag} {mg : Str → Option Value} {base : Heap}
/-! ### _put_behind -/
def spPutB : Sp := fun vs H Q _ => ∃ (wl dl : Addr) (rs ds : List V), vs = [V.ref wl, .ref dl] ∧ H wl = some (.lst rs.reverse) ∧ H dl = some (.lst ds) ∧ wl ≠ dl ∧ (∀ v ∈ rs, StkV v) ∧ rs.length ≤ 5000 ∧ ds.length ≤ 5000 ∧
  (∀ (H' : Hp) (rs' : List V) (t : Addr), putS rs ds.length = some (rs', ds.length + 1) → H' wl = some (.lst rs'.reverse) → H' dl = some (.lst (ds ++ [.ref t])) → KeepX wl dl H H' → Q (.bl true) H') ∧
  (putS rs ds.length = none → Q (.bl false) H)
theorem ok_putb {f : Addr} {fd : FuncData} (F : Fun K "_put_behind" "_put_behind" s_put_behind f fd) (T : Top K mg) : FnOk P w K mg base CX0 2 f fd ["waiting", "deeds"] spPutB := by
  have cs : Cal P w K mg base 1 "_is_side" ["sign"] spSide := T.d_is_side.cal fun f fd F => ok_side F T
  refine F.ok sc_put_behind (fun vs H Q E h => ?_) (fun cdv A outer s H vs Q E hr h => ?_)
  · obtain ⟨wl, dl, rs, ds, rfl, _⟩ := h
    rfl
  · obtain ⟨wl, dl, rs, ds, rfl, ew, ed, nwd, hst, lw, ld, q1, q2⟩ := h
    refine ⟨_, pss_cut (ps_if (PW.pt (pw_or (pt_not (pt_truth (pv 0) (fun _ => rfl))) (pw_or1 (pt_not (pt_val (pe_cal cs hr (by rfl) (pa_cons (pe_ix ix_list (pv 0) (pe_un un_neg pe_int) (fun _ _ => rfl)) pa_nil))))))) (pss_one (ps_ret pe_bl)) pss_nil)
      (pss_cut (ps_expr (pe_bm PySem.F.plainAttrs_list PySem.F.slot_list_append PySem.F.type_list_append mt_append (pv 1) (pa_cons (pe_tup (pa_cons pe_str (pa_cons (pe_bm0 PySem.F.plainAttrs_list PySem.F.slot_list_pop PySem.F.type_list_pop mt_pop (pv 0)) pa_nil))) pa_nil)))
      (pss_cut (ps_expr (pe_bm PySem.F.plainAttrs_list PySem.F.slot_list_append PySem.F.type_list_append mt_append (pv 0) (pa_cons (pe_op op_sub (pe_callB call_len_seq (by rfl) T.b_len PySem.boot_len (pa_cons (pv 1) pa_nil)) pe_int) pa_nil)))
      (pss_one (ps_ret pe_bl)))), ?_⟩
    have big : 10000 ≤ sizeLine := by decide
    refine ⟨fun σ' G => σ' = [some (.ref wl), some (.ref dl)] ∧ H = G ∧ ∃ a r, rs = a :: r ∧ sideV a = true, ?_, ?_⟩
    · refine ⟨_, rfl, !rs.reverse.isEmpty, .inl ⟨_, .inl (.inl ew), rfl⟩, ?_⟩
      cases rs with
      | nil =>
        show (if (!(!true)) = true then _ else _)
        rw [if_pos (by decide)]
        show (if true = true then _ else _)
        rw [if_pos rfl]
        exact q2 rfl
      | cons a r =>
        have e0 : (a :: r).reverse.isEmpty = false := by
          rw [List.reverse_cons]
          cases r.reverse <;> rfl
        rw [e0]
        show (if (!(!false)) = true then _ else _)
        rw [if_neg (by decide)]
        refine ⟨_, rfl, _, rfl, wl, _, _, a, rfl, rfl, .inl (.inl ew), at_rev (k := 0) rfl, a, rfl, hst a (by simp), _, rfl, ?_⟩
        cases ha : sideV a with
        | false =>
          show (if (!false) = true then _ else _)
          rw [if_pos (by decide)]
          exact q2 (by unfold putS; simp only [ha, Bool.false_eq_true, if_false])
        | true =>
          show (if (!true) = true then _ else _)
          rw [if_neg (by decide)]
          exact ⟨rfl, rfl, a, r, rfl, ha⟩
    rintro σ' G ⟨rfl, rfl, a, r, rfl, ha⟩
    have hc : putS (a :: r) ds.length = some (.int (ds.length : Nat) :: r, ds.length + 1) := by
      unfold putS
      simp only [ha, if_true]
    refine ⟨fun σ' G => σ' = [some (.ref wl), some (.ref dl)] ∧ ∃ t, G wl = some (.lst r.reverse) ∧ G dl = some (.lst (ds ++ [.ref t])) ∧ KeepX wl dl H G, ?_, ?_⟩
    · refine ⟨_, rfl, ⟨.inl ⟨rfl, _, .inl (.inl ed)⟩, ?_⟩⟩
      have hlast : (a :: r).reverse[(a :: r).reverse.length - 1]? = some a := by
        rw [List.reverse_cons, List.length_append, List.length_singleton, Nat.add_sub_cancel, List.getElem?_append_right (Nat.le_refl _), Nat.sub_self]
        rfl
      refine ⟨_, rfl, ⟨.inl ⟨rfl, _, .inl (.inl ew)⟩, wl, _, _, rfl, rfl, ew, hlast, ?_⟩⟩
      have ed0 : (a :: r).reverse.dropLast = r.reverse := by rw [List.reverse_cons, List.dropLast_concat]
      rw [ed0]
      generalize hG : upd H wl (.lst r.reverse) = G
      have e1 : G wl = some (.lst r.reverse) := by rw [← hG]; exact upd_same
      have e2 : G dl = some (.lst ds) := by rw [← hG, upd_ne nwd.symm]; exact ed
      refine ⟨by show 2 ≤ sizeLine; omega, fun t nt => ?_⟩
      refine ⟨dl, _, _, rfl, rfl, by rw [upd_ne (ne_of_none e2 nt)]; exact e2, by omega, rfl, t, ?_, upd_same, fun x o n1 n2 e => ?_⟩
      · rw [upd_ne nwd, upd_ne (ne_of_none e1 nt), e1]
      · have e3 : G x = some o := by rw [← hG, upd_ne n1]; exact e
        rw [upd_ne n2, upd_ne (ne_of_none e3 nt)]
        exact e3
    rintro σ' G ⟨rfl, t, e1, e2, kp⟩
    refine ⟨fun σ' G' => σ' = [some (.ref wl), some (.ref dl)] ∧ G' = upd G wl (.lst (.int (ds.length : Nat) :: r).reverse), ?_, ?_⟩
    · refine ⟨_, rfl, ⟨.inl ⟨rfl, _, .inl (.inl e1)⟩, ?_⟩⟩
      refine ⟨_, rfl, dl, _, rfl, .inl (.inl (.inl e2)), _, _, rfl, rfl, wl, _, _, rfl, rfl, e1, ?_, rfl, ?_⟩
      · rw [List.length_reverse]
        simp at lw
        omega
      · rw [List.reverse_cons, List.length_append, List.length_singleton]
        show upd G wl (.lst (r.reverse ++ [V.int (((ds.length + 1 : Nat) : Int) - 1)])) = _
        rw [show (((ds.length + 1 : Nat) : Int)) - 1 = ((ds.length : Nat) : Int) by omega]
    rintro σ' G' ⟨rfl, rfl⟩
    refine q1 _ _ t hc upd_same (by rw [upd_ne nwd.symm]; exact e2) fun x o n1 n2 e => ?_
    rw [upd_ne n1]
    exact kp x o n1 n2 e
/-! ### deeds_in -/
def spDeeds : Sp := fun vs H Q _ => ∃ z : Str, vs = [V.str z] ∧ z.length ≤ 4500 ∧
  (∀ (H' : Hp) (t dl : Addr) (ds : List V) (v : V), readS z.cps.toList = some ds.length → H' t = some (.tup [.ref dl, v]) → H' dl = some (.lst ds) → H dl = none → Same H H' → Q (.ref t) H') ∧
  (∀ H', readS z.cps.toList = none → Same H H' → Q .non H')
theorem ok_deeds {f : Addr} {fd : FuncData} (F : Fun K "deeds_in" "deeds_in" s_deeds_in f fd) (T : Top K mg) : FnOk P w K mg base CX0 3 f fd ["text"] spDeeds := by
  obtain ⟨aS, oS, iS, nS, gS, lS, cS, dS, zS, vS⟩ := T.t__SIGNS
  have hS : ∀ H : Hp, SqT K H aS (SG7.map V.str) := fun H => .inr ⟨oS, iS, nS, lS, cS, dS, zS, vS⟩
  have cs : Cal P w K mg base 2 "_is_side" ["sign"] spSide := (T.d_is_side.cal fun f fd F => ok_side F T).mono (by decide)
  have cc : Cal P w K mg base 2 "_closed" ["waiting", "deeds"] spClosed := T.d_closed.cal fun f fd F => ok_closed F T
  have cp : Cal P w K mg base 2 "_put_behind" ["waiting", "deeds"] spPutB := T.d_put_behind.cal fun f fd F => ok_putb F T
  refine F.ok sc_deeds_in (fun vs H Q E h => ?_) (fun cdv A outer s H vs Q E hr h => ?_)
  · obtain ⟨z, rfl, _⟩ := h
    rfl
  · obtain ⟨z, rfl, hz, q1, q2⟩ := h
    refine ⟨_, pss_cut (ps_par (i := 1) (j := 2) rfl sc_deeds_in.nd rfl rfl (by decide) rfl rfl (pa_cons (pe_lst pa_nil) (pa_cons (pe_lst pa_nil) pa_nil)) (by kernel_rfl))
      (pss_cut (ps_for PassesOwn.never rfl (pi_str (pv 0)) (pg_name (i := 3) sc_deeds_in.nd rfl (.inl rfl))
        (pss_cut (ps_if (pt_cmpR op_notIn_seq (pv 3) (pe_glob (v := .ref aS) (by rfl) gS rfl) (by rfl)) (pss_one (ps_ret pe_non)) pss_nil)
        (pss_cut (ps_if (pt_cmpR op_eq (pv 3) pe_str (nomark _)) (pss_one (ps_set (i := 4) sc_deeds_in.nd rfl (.inl rfl) (pe_cal cc hr (by rfl) (pa_cons (pv 2) (pa_cons (pv 1) pa_nil)))))
          (pss_one (ps_if (pt_cmpR op_eq (pv 3) pe_str (nomark _)) (pss_one (ps_set (i := 4) sc_deeds_in.nd rfl (.inl rfl) (pe_cal cp hr (by rfl) (pa_cons (pv 2) (pa_cons (pv 1) pa_nil)))))
            (pss_cons (ps_expr (pe_bm PySem.F.plainAttrs_list PySem.F.slot_list_append PySem.F.type_list_append mt_append (pv 2) (pa_cons (pv 3) pa_nil))) (pss_one (ps_set (i := 4) sc_deeds_in.nd rfl (.inl rfl) pe_bl))))))
        (pss_one (ps_if (pt_not (pt_val (pv 4))) (pss_one (ps_ret pe_non)) pss_nil)))))
      (pss_cut (ps_if (PW.pt (pw_or (pt_cmpR op_ne (pe_callB call_len_seq (by rfl) T.b_len PySem.boot_len (pa_cons (pv 2) pa_nil)) pe_int (nomark _)) (pw_or1 (pt_not (pt_val (pe_cal cs hr (by rfl) (pa_cons (pe_ix ix_list (pv 2) pe_int (fun _ _ => rfl)) pa_nil))))))) (pss_one (ps_ret pe_non)) pss_nil)
      (pss_one (ps_ret (pe_tup (pa_cons (pv 1) (pa_cons (pe_ix ix_list (pv 2) pe_int (fun _ _ => rfl)) pa_nil))))))), ?_⟩
    have big : 10000 ≤ sizeLine := by decide
    obtain ⟨_, _, _, k40, k43, k41, k39⟩ := lits
    have hlz : z.cps.toList.length = z.length := Array.length_toList ..
    refine ⟨fun σ' G => ∃ dl wl : Addr, σ' = [some (.str z), some (.ref dl), some (.ref wl), none, none] ∧ G dl = some (.lst []) ∧ G wl = some (.lst []) ∧ wl ≠ dl ∧ H dl = none ∧ H wl = none ∧ Same H G, ?_, ?_⟩
    · refine ⟨Nat.zero_le _, fun dl ndl => ⟨Nat.zero_le _, fun wl nwl => ⟨_, _, rfl, dl, wl, rfl, ?_, upd_same, ?_, ndl, ?_, ?_⟩⟩⟩
      · rw [upd_ne (ne_of_none upd_same nwl)]
        exact upd_same
      · exact (ne_of_none upd_same nwl).symm
      · exact (Same.refl H).trans (same_new (Same.refl H) ndl) |> fun s => by
          cases h : H wl with
          | none => rfl
          | some o => rw [s _ _ h] at nwl; cases nwl
      · exact same_new (same_new (Same.refl H) ndl) nwl
    rintro σ' G0 ⟨dl, wl, rfl, ed0, ew0, nwd, ndl, nwl, s0⟩
    refine ⟨fun σ' G => ∃ (y3 y4 : Option V) (rs ds : List V), σ' = [some (.str z), some (.ref dl), some (.ref wl), y3, y4] ∧ G wl = some (.lst rs.reverse) ∧ G dl = some (.lst ds) ∧ runS z.cps.toList [] 0 = some (rs, ds.length) ∧ Same H G ∧ (∀ v ∈ rs, StkV v) ∧ rs.length ≤ z.length, ?_, ?_⟩
    · refine ⟨_, rfl, z, rfl, ?_⟩
      refine for_it (walk_str (z := z)) (fun j σ' G => ∃ (y3 y4 : Option V) (rs ds : List V), σ' = [some (.str z), some (.ref dl), some (.ref wl), y3, y4] ∧ G wl = some (.lst rs.reverse) ∧ G dl = some (.lst ds) ∧ runS (z.cps.toList.take j) [] 0 = some (rs, ds.length) ∧ Same H G ∧ (∀ v ∈ rs, StkV v) ∧ rs.length ≤ j ∧ ds.length ≤ j)
        ⟨none, none, [], [], rfl, ew0, ed0, rfl, s0, nofun, Nat.zero_le _, Nat.zero_le _⟩ (fun j σ' G _ h => True.intro) (fun j u σ' Gx G hj h hy => ?_) (fun σ' G h => ?_)
      rotate_left
      · obtain ⟨y3, y4, rs, ds, rfl, h1, h2, h3, h4, h5, h6, h7⟩ := h
        rw [List.take_of_length_le (by rw [Array.length_toList]; exact Nat.le_refl _)] at h3
        exact ⟨y3, y4, rs, ds, rfl, h1, h2, h3, h4, h5, h6⟩
      obtain ⟨y3, y4, rs, ds, rfl, ew, ed, hrun, sm, hst, lrs, lds⟩ := h
      obtain ⟨rfl, c, hc, rfl⟩ := hy
      have hc2 : z.cps.toList[j]? = some c := by rw [Array.getElem?_toList]; exact hc
      have hj' : j < z.length := hj
      have bad := fun n => run_bad (cs := z.cps.toList) hrun hc2 n
      have go := run_go (cs := z.cps.toList) hrun hc2
      -- a sign
      refine ⟨fun σ' G' => σ' = [some (.str z), some (.ref dl), some (.ref wl), some (.str (one c)), y4] ∧ G = G' ∧ isSg c = true, ?_, ?_⟩
      · refine ⟨_, rfl, aS, _, rfl, .inr (hS G), rfl, flat_strs' SG7, _, rfl, ?_⟩
        rw [inV_strs, mem_sg]
        cases hs : isSg c with
        | false =>
          show (if (!false) = true then _ else _)
          rw [if_pos (by decide)]
          refine q2 G (bad ?_) sm
          unfold stepS
          rw [if_neg (by rw [hs]; decide)]
        | true =>
          show (if (!true) = true then _ else _)
          rw [if_neg (by decide)]
          exact ⟨rfl, rfl, rfl⟩
      rintro σ' G' ⟨rfl, rfl, hs⟩
      have hstep : stepS rs ds.length c = if c = 41 then closeS rs ds.length else if c = 39 then putS rs ds.length else some (.str (one c) :: rs, ds.length) := by
        unfold stepS
        rw [if_pos hs]
      -- what it does
      refine ⟨fun σ' G' => ∃ (b : Bool), σ' = [some (.str z), some (.ref dl), some (.ref wl), some (.str (one c)), some (.bl b)] ∧ Same H G' ∧ (b = false → stepS rs ds.length c = none) ∧ (b = true → ∃ rs' ds', G' wl = some (.lst rs'.reverse) ∧ G' dl = some (.lst ds') ∧ stepS rs ds.length c = some (rs', ds'.length) ∧ (∀ v ∈ rs', StkV v) ∧ rs'.length ≤ j + 1 ∧ ds'.length ≤ j + 1), ?_, ?_⟩
      · have kx : ∀ {H' : Hp}, KeepX wl dl G H' → Same H H' := fun {H'} k b o e => k b o (ne_of_none e nwl) (ne_of_none e ndl) (sm _ _ e)
        refine ⟨_, rfl, rfl, _, rfl, ?_⟩
        rw [k41]
        by_cases c41 : c = 41
        · subst c41
          rw [decide_eq_true rfl, if_pos rfl]
          rw [if_pos rfl] at hstep
          refine ⟨_, rfl, _, rfl, wl, dl, rs, ds, rfl, ew, ed, nwd, hst, by omega, by omega, fun H' rs' t hcl e1 e2 kp => ?_, fun hcl => ?_⟩
          · refine ⟨true, rfl, kx kp, nofun, fun _ => ⟨rs', ds ++ [.ref t], e1, e2, by rw [hstep, hcl, List.length_append]; rfl, ?_, ?_, by rw [List.length_append, List.length_singleton]; omega⟩⟩
            · unfold closeS at hcl
              split at hcl
              · split at hcl
                · cases hcl
                  intro v hv
                  rcases List.mem_cons.mp hv with rfl | hv
                  · exact .inl ⟨_, rfl⟩
                  · exact hst v (by simp [hv])
                · cases hcl
              · cases hcl
            · unfold closeS at hcl
              split at hcl
              · split at hcl
                · cases hcl
                  simp at lrs ⊢
                  omega
                · cases hcl
              · cases hcl
          · exact ⟨false, rfl, sm, fun _ => by rw [hstep, hcl], nofun⟩
        rw [if_neg c41] at hstep
        rw [decide_eq_false (fun h => c41 (one_inj.mp (V.str.inj h))), if_neg (by decide)]
        refine ⟨_, rfl, rfl, _, rfl, ?_⟩
        rw [k39]
        by_cases c39 : c = 39
        · subst c39
          rw [decide_eq_true rfl, if_pos rfl]
          rw [if_pos rfl] at hstep
          refine ⟨_, rfl, _, rfl, wl, dl, rs, ds, rfl, ew, ed, nwd, hst, by omega, by omega, fun H' rs' t hcl e1 e2 kp => ?_, fun hcl => ?_⟩
          · refine ⟨true, rfl, kx kp, nofun, fun _ => ⟨rs', ds ++ [.ref t], e1, e2, by rw [hstep, hcl, List.length_append]; rfl, ?_, ?_, by rw [List.length_append, List.length_singleton]; omega⟩⟩
            · unfold putS at hcl
              split at hcl
              · split at hcl
                · cases hcl
                  intro v hv
                  rcases List.mem_cons.mp hv with rfl | hv
                  · exact .inl ⟨_, rfl⟩
                  · exact hst v (by simp [hv])
                · cases hcl
              · cases hcl
            · unfold putS at hcl
              split at hcl
              · split at hcl
                · cases hcl
                  simp at lrs ⊢
                  omega
                · cases hcl
              · cases hcl
          · exact ⟨false, rfl, sm, fun _ => by rw [hstep, hcl], nofun⟩
        rw [if_neg c39] at hstep
        rw [decide_eq_false (fun h => c39 (one_inj.mp (V.str.inj h))), if_neg (by decide)]
        refine ⟨_, rfl, ⟨.inl ⟨rfl, _, .inl (.inl ew)⟩, ?_⟩⟩
        refine ⟨_, rfl, wl, _, _, rfl, rfl, ew, by rw [List.length_reverse]; omega, ?_⟩
        refine ⟨true, rfl, fun b o e => by rw [upd_ne (ne_of_none e nwl)]; exact sm _ _ e, nofun, fun _ => ⟨.str (one c) :: rs, ds, by rw [upd_same, List.reverse_cons], by rw [upd_ne nwd.symm]; exact ed, hstep, fun v hv => ?_, by rw [List.length_cons]; omega, by omega⟩⟩
        rcases List.mem_cons.mp hv with rfl | hv
        · exact .inr ⟨c, rfl⟩
        · exact hst v hv
      rintro σ' G' ⟨b, rfl, sm', hb0, hb1⟩
      refine ⟨_, rfl, _, rfl, ?_⟩
      cases b with
      | false =>
        show (if (!false) = true then _ else _)
        rw [if_pos (by decide)]
        exact q2 G' (bad (hb0 rfl)) sm'
      | true =>
        show (if (!true) = true then _ else _)
        rw [if_neg (by decide)]
        obtain ⟨rs', ds', e1, e2, hs', hst', l1, l2⟩ := hb1 rfl
        exact ⟨_, _, rs', ds', rfl, e1, e2, by rw [go, hs'], sm', hst', l1, l2⟩
    rintro σ' G ⟨y3, y4, rs, ds, rfl, ew, ed, hrun, sm, hst, lrs⟩
    refine ⟨fun σ' G' => σ' = [some (.str z), some (.ref dl), some (.ref wl), y3, y4] ∧ G = G' ∧ ∃ a, rs = [a] ∧ readS z.cps.toList = some ds.length, ?_, ?_⟩
    · have no : (∀ a, rs = [a] → sideV a = false) → readS z.cps.toList = none := fun h => by
        unfold readS
        rw [hrun]
        split
        · rename_i a m e
          cases e
          rw [h a rfl]
          rfl
        · rfl
      refine ⟨_, rfl, wl, _, rfl, .inl (.inl (.inl ew)), rfl, _, rfl, ?_⟩
      rw [List.length_reverse]
      by_cases c1 : rs.length = 1
      rotate_left
      · rw [decide_eq_false (fun h => c1 (by have := V.int.inj h; omega))]
        show (if true = true then _ else _)
        rw [if_pos rfl]
        show (if true = true then _ else _)
        rw [if_pos rfl]
        exact q2 G (no fun a e => absurd (by rw [e]; rfl) c1) sm
      obtain ⟨a, rfl⟩ : ∃ a, rs = [a] := by
        match rs, c1 with
        | [a], _ => exact ⟨a, rfl⟩
      show (if (!decide (V.int 1 = V.int 1)) = true then _ else _)
      rw [decide_eq_true rfl, if_neg (by decide)]
      refine ⟨_, rfl, wl, _, _, a, rfl, rfl, .inl (.inl ew), rfl, a, rfl, hst a (by simp), _, rfl, ?_⟩
      cases ha : sideV a with
      | false =>
        show (if (!false) = true then _ else _)
        rw [if_pos (by decide)]
        exact q2 G (no fun b e => by cases e; exact ha) sm
      | true =>
        show (if (!true) = true then _ else _)
        rw [if_neg (by decide)]
        refine ⟨rfl, rfl, a, rfl, ?_⟩
        unfold readS
        rw [hrun]
        show (if sideV a = true then _ else _) = _
        rw [if_pos ha]
    rintro σ' G' ⟨rfl, rfl, a, rfl, hread⟩
    refine ⟨_, rfl, _, rfl, wl, _, _, a, rfl, rfl, .inl (.inl ew), rfl, by show 2 ≤ sizeLine; omega, fun t nt => ?_⟩
    have s2 := same_new (o := .tup [.ref dl, a]) (Same.refl G) nt
    exact q1 _ t dl ds a hread upd_same (s2 _ _ ed) ndl fun b o e => s2 _ _ (sm _ _ e)
end
end Kl

set_option maxRecDepth 100000
set_option maxHeartbeats 4000000
namespace Gx
open PySem PySem.Spec PyProof.Rows L2
/-! ### set(tuple of texts); a field as one of several targets -/
section
variable {P : Program} {w : World} {A : Around} {s : Shared} {E : Value → Shared → Prop}
theorem call_setXT {l : Addr} {items : Array Value} {xs : List Str} {Q : Value → Shared → Prop} (hh : A.handled = none) (hl : s.heap.IsTuple l items) (hi : StrsAre items.toList xs) (few : xs.length + 1 < scanBound)
    (h : ∀ (h' : Heap) (tk : Nat), SetX P w h' s.heap.objs.size xs → (∀ b o, b < s.heap.objs.size → s.heap.get? b = some o → h'.get? b = some o) → Q (.ref s.heap.objs.size) { s with heap := h', toks := tk }) :
    wpAny (model P w) A (call (.type "set") [.ref l]) Q E s := by
  obtain ⟨c, tl, hmro⟩ := PySem.F.called_set.mro
  have hmade := PySem.F.called_set.made
  have hsub := PySem.F.called_set.sub
  refine wpAny_call (codeAny_of_tree ?_)
  show wpAny _ _ (callAny (.type "set") _) _ _ _
  refine wpAny_pure ⟨Code.quiet_builtin _ (by decide +kernel), codeAny_builtin PySem.F.entry_type_call ?_⟩
  rw [Around.under_plain (weight_type_call_type "set" [.ref l] []) rfl]
  have h1 := PySem.F.called_set.notType
  have h2 := PySem.F.called_set.canCreate
  have hct := PySem.F.typeCall_set_1 (.ref l)
  repeat (any_goals (first | assumption | wp_step))
  have R0 : SetX P w (s.heap.push { cls := .type "set", dict := none, data := .set #[] 0 (.fresh 0 0 (!w.params.followText "set-order")) }) s.heap.objs.size [] := setX_fresh
  refine codeAny_mono (code_setX (x := .ref l) (E := E) (Q₁ := fun obj s₁ => obj = .ref s.heap.objs.size ∧ s₁ = { s with heap := s.heap.push { cls := .type "set", dict := none, data := .set #[] 0 (.fresh 0 0 (!w.params.followText "set-order")) } }) ⟨rfl, rfl⟩) fun r s₁ hr => ?_
  have hS : (s.heap.push { cls := .type "set", dict := none, data := .set #[] 0 (.fresh 0 0 (!w.params.followText "set-order")) }).get? s.heap.objs.size = some { cls := .type "set", dict := none, data := .set #[] 0 (.fresh 0 0 (!w.params.followText "set-order")) } := Heap.get?_push_size _ rfl
  cases r with
  | error e => exact hr
  | ok fl =>
    cases fl with
    | ret obj =>
      obtain ⟨rfl, rfl⟩ := hr
      have hT : Shared.TypeIs { s with heap := s.heap.push ({ cls := .type "set", dict := none, data := .set #[] 0 (.fresh 0 0 (!w.params.followText "set-order")) } : Obj) } (.ref s.heap.objs.size) "set" := ⟨_, hS, rfl⟩
      have hli := PySem.F.called_set.init.lookup
      have hbi := PySem.F.called_set.init.bind (.ref s.heap.objs.size)
      repeat (any_goals (first | assumption | wp_step))
      refine codeAny_mono (codeAny_call_builtin (R := wants (fun r s₂ => r = .none ∧ ∃ h' tk, s₂ = { s with heap := h', toks := tk } ∧ SetX P w h' s.heap.objs.size xs ∧
          (∀ b o, b < s.heap.objs.size → s.heap.get? b = some o → h'.get? b = some o)) E) PySem.F.called_set.init.plain PySem.F.entry_set_init (check_set_init_1 hT ?_)) fun r₂ s₂ hr₂ => ?_
      · obtain ⟨ol, hol, hcl, nl, hdl⟩ := hl
        obtain ⟨ocls, odict, odata, oslots⟩ := ol
        simp only at hcl hdl
        subst hcl; subst hdl
        have hol' : (s.heap.push ({ cls := .type "set", dict := none, data := .set #[] 0 (.fresh 0 0 (!w.params.followText "set-order")) } : Obj)).get? l = some { cls := .type "tuple", dict := odict, data := .seq items nl, slots := oslots } := Heap.get?_push_of_some _ hol
        have hsls := PySem.F.sub_tuple_set
        have hslf := PySem.F.sub_tuple_frozenset
        have hne : (Value.type "tuple" == Value.type "dict") = false := by decide
        have hl1 : (s.heap.push ({ cls := .type "set", dict := none, data := .set #[] 0 (.fresh 0 0 (!w.params.followText "set-order")) } : Obj)).IsTuple l items := ⟨_, hol', rfl, nl, rfl⟩
        unfold Builtin.«set.__init__» noKeywords Builtin.Frozenset.updateFrom
        generalize hPI : pyIter = PI
        wp_walk
        subst hPI
        refine wpAny_pyIter_tuple hl1 ?_
        refine wpAny_bind (wpAny_runValue ?_)
        have hlS : l < s.heap.objs.size := Heap.lt_size hol
        have hh3 : A.in1.in1.in1.handled = none := by simp [hh]
        have szp : (s.heap.push ({ cls := .type "set", dict := none, data := .set #[] 0 (.fresh 0 0 (!w.params.followText "set-order")) } : Obj)).objs.size = s.heap.objs.size + 1 := Heap.size_push _ _
        have hneI : l ≠ (s.heap.push ({ cls := .type "set", dict := none, data := .set #[] 0 (.fresh 0 0 (!w.params.followText "set-order")) } : Obj)).objs.size := by rw [szp]; exact Nat.ne_of_lt (Nat.lt_succ_of_lt hlS)
        have hSf : s.heap.objs.size ∉ [(s.heap.push ({ cls := .type "set", dict := none, data := .set #[] 0 (.fresh 0 0 (!w.params.followText "set-order")) } : Obj)).objs.size, l] := by
          rw [szp]
          simp only [List.mem_cons, List.not_mem_nil, or_false, not_or]
          exact ⟨Nat.ne_of_lt (Nat.lt_succ_self _), Nat.ne_of_gt hlS⟩
        have hsz : xs.length = items.size := by rw [← StrsAre.len_eq hi, Array.length_toList]
        refine setX_loop ((Walks.tuple hh3 _ l hneI items).toS) s.heap.objs.size hSf xs hsz (by rw [← hsz]; exact few) (fun i v hv => texts_at hi i v (by rw [Array.getElem?_toList]; exact hv))
          (items.size - 0) 0 _ (by omega) (Nat.zero_le _) ⟨⟨_, Heap.get?_push_size _ rfl, rfl, rfl⟩, (hl1.push _)⟩ ?hS0 ?hR
        case hS0 => exact R0.at fun o e => Heap.get?_push_of_some _ e
        case hR =>
          intro s' hm hS'
          obtain ⟨h', g', d', tk', os'⟩ := s'
          obtain rfl : g' = s.gens := hm.gens
          obtain rfl : d' = s.drawn := hm.drawn
          obtain rfl : os' = s.os := hm.os
          show wpAny _ _ _ _ _ _
          refine wpAny_pure ?_
          show wpAny _ _ (ret Value.none) _ _ _
          refine wpAny_pure ⟨rfl, h', tk', rfl, hS', fun b o hb e => hm.heap b o ?_ (Heap.get?_push_of_some _ (Heap.get?_push_of_some _ e))⟩
          rw [szp]
          simp only [List.mem_cons, List.not_mem_nil, or_false, not_or]
          exact ⟨Nat.ne_of_lt hb, Nat.ne_of_lt (Nat.lt_succ_of_lt hb)⟩
      · cases r₂ with
        | error e => exact hr₂
        | ok fl₂ =>
          cases fl₂ with
          | ret r =>
            obtain ⟨rfl, h', tk, rfl, hS', hk'⟩ := hr₂
            repeat (any_goals (first | assumption | wp_step))
            exact h _ _ hS' hk'
          | _ => exact hr₂.elim
    | _ => exact hr.elim
end
section
variable {X : Cx}
def rSetXT (K : PySem.W.Frag) (P : Program) (w : World) : List V → Hp → VK → Prop := fun vs H Q => ∃ (l : Addr) (xs : List Str), vs = [V.ref l] ∧ SqT K H l (xs.map V.str) ∧ xs.length ≤ 1000 ∧ ∀ p, H p = none → Q (.ref p) (upd H p (SetO' P w p xs))
theorem cr_setXT (hc : X.calm = true) : CallR X (.type "set") (rSetXT X.K X.prog X.w) := by
  intro pins s σ H vs us Q I r h
  obtain ⟨l, xs, rfl, hq, few, q⟩ := h
  rw [Vals.ref1 r]
  obtain ⟨its, rv, pl, hz⟩ := I.tuple hq
  refine call_setXT (I.ok.hd hc) (show s.heap.IsTuple l its.toArray from pl) (by simpa using rv.strs) (Nat.lt_of_le_of_lt (Nat.succ_le_succ few) (by decide)) fun h' tk hS hk => ?_
  have kp : ∀ b o, s.heap.get? b = some o → h'.get? b = some o := fun b o e => hk b o (Heap.lt_size e) e
  obtain ⟨ob, ms, ep, tb, here, more⟩ := id hS
  exact ⟨.ref s.heap.objs.size, _, I.laid (t' := tk) kp (Nat.le_refl _) (show ObjOk X.prog X.w _ h' _ (SetO' X.prog X.w s.heap.objs.size xs) from ⟨hS, ⟨ob, here⟩, fun h1 h2 p k => SetX.at p k⟩), rfl, q _ (I.hok.fresh (Nat.le_refl _))⟩
theorem cr_setXTK {K : PySem.W.Frag} {P : Program} {w : World} (hk : X.K = K) (hp : X.prog = P) (hw : X.w = w) (hc : X.calm = true) : CallR X (.type "set") (rSetXT K P w) := by
  subst hk
  subst hp
  subst hw
  exact cr_setXT hc
theorem cr_sortedXK {P : Program} {w : World} (hp : X.prog = P) (hw : X.w = w) (hc : X.calm = true) : CallR X (.builtin "sorted") (rSortedX P w) := by
  subst hp
  subst hw
  exact cr_sortedX hc
/-- o.f as a target -/
def gFld (K : PySem.W.Frag) (to : TE) (f : Str) : TG := fun v σ H Q => to σ H fun x H1 => ∃ a C dx fs, x = .ref a ∧ H1 a = some (.ins C dx fs) ∧ Cls K C ∧ NoAttr K C f ∧ fs.length < 1000 ∧ Q σ (upd H1 a (.ins C dx (putF f v fs)))
theorem pg_fld {o : Expr} {f : Str} {pos' : Pos} {to : TE} (ho : PE X o to) : PG X (.Attribute o f pos') (gFld X.K to f) := by
  refine ⟨fun pins s σ H v u Q I r h => ?_⟩
  rw [assign_Attribute]
  refine wpAny_bind (wpAny_holding (thn (ho.run pins s σ H _ I h) fun ov s1 ⟨x, H1, I1, r1, q1⟩ => ?_))
  obtain ⟨a, C, dx, fs, ex, ea, c, n, l, q2⟩ := q1
  subst ex
  obtain rfl : ov = Value.ref a := r1
  refine wpAny_bind (wpAny_standAt (wpAny_bind (wpAny_holding (setattr_ok I1 ea c n l r fun s3 I3 => ?_))))
  exact wpAny_release ⟨σ, _, I3, q2⟩
end
end Gx

set_option maxRecDepth 100000
set_option maxHeartbeats 4000000
/-! ### own rules: classmethods that may raise; a class held by a local name -/
namespace Gx
open PySem PySem.Spec PyProof.Rows L2 ClX
/-- C.m is a classmethod -/
def ClsMd (K : PySem.W.Frag) (C : Addr) (m qual : Str) (st : Stmt) (ps : List Str) : Prop :=
  ∃ (p g : Addr) (fd : FuncData), CRead K C (.type "type") ∧ CMet K C (.type "type") m p g ∧ Fun K m qual st g fd ∧ Binds K fd ps []
/-- the classmethod m of C keeps sp and may raise -/
def CalQ (P : Program) (w : World) (K : PySem.W.Frag) (mg : Str → Option Value) (base : Heap) (C : Addr) (m : Str) (k : Nat) (ps : List Str) (sp : Sp) : Prop :=
  ∃ (p g : Addr) (fd : FuncData), FnOk P w K mg base (L2.CX P w) k g fd ps sp ∧ CRead K C (.type "type") ∧ CMet K C (.type "type") m p g ∧ Binds K fd ps []
theorem ClsMd.cal {P : Program} {w : World} {K : PySem.W.Frag} {mg : Str → Option Value} {base : Heap} {C : Addr} {m qual : Str} {st : Stmt} {k : Nat} {ps : List Str} {sp : Sp} (d : ClsMd K C m qual st ps)
    (h : ∀ f fd, Fun K m qual st f fd → FnOk P w K mg base (L2.CX P w) k f fd ps sp) : CalQ P w K mg base C m k ps sp := by
  obtain ⟨p, g, fd, r, c, F, b⟩ := d
  exact ⟨p, g, fd, h g fd F, r, c, b⟩
theorem CalQ.up {P : Program} {w : World} {K : PySem.W.Frag} {mg : Str → Option Value} {base : Heap} {C : Addr} {m : Str} {j k : Nat} {ps : List Str} {sp : Sp} (c : CalQ P w K mg base C m j ps sp) (h : j ≤ k) : CalQ P w K mg base C m k ps sp := by
  obtain ⟨p, g, fd, F, r⟩ := c
  exact ⟨p, g, fd, F.mono h, r⟩
section
variable {X : Cx} {C : Addr} {k : Nat} {ps : List Str} {sp : Sp} {E : L2.St → XK} {pins : List (Addr × Obj)} {σ : L2.St} {H : Hp} {s : Shared}
def tCMethX (C : Addr) (sp : Sp) (E : L2.St → XK) (ta : TE) (t : TA) : TE := fun σ H Q => ta σ H fun x H1 => x = .ref C ∧ t σ H1 fun vs H2 => sp (.ref C :: vs) H2 Q (E σ)
theorem run_fnX {f : Addr} {fd : FuncData} {us : List Value} {vs : List V} {Q : VK} (F : FnOk X.prog X.w X.K X.mg X.base (L2.CX X.prog X.w) k f fd ps sp) (room : Room k X.A) (b : Binds X.K fd ps [])
    (hx : PassesAt (L2.CX X.prog X.w) X σ (E σ)) (I : Inv X pins σ H s) (r : Vals vs us) (want : sp vs H Q (E σ)) :
    codeAny (model X.prog X.w) X.A (.call (.ref f) ⟨us, []⟩) (fun r s' => match r with | .ok (.ret v) => EP X pins σ Q v s' | .ok _ => False | .error e => X.xe e s') s := by
  have hl : us.length = ps.length := r.length.symm.trans (F.len _ _ _ _ want)
  have bt : BindsTo s fd ⟨us, []⟩ (ps.zip us) := by
    have q := b s us I.kIn (by rw [List.append_nil]; exact hl)
    rw [List.append_nil] at q
    exact q
  refine codeAny_mono (F.run X.A X.stack s H ⟨us, []⟩ us vs Q (E σ) room I.env0 bt r want) fun res s' hres => ?_
  match res, hres with
  | .error e, hres => exact hx pins H s e s' I hres
  | .ok (.ret u), hres => exact I.after hres
theorem run_cmX {g : Addr} {fd : FuncData} {q : Addr} {Q : VK} {us : List Value} {vs : List V} (F : FnOk X.prog X.w X.K X.mg X.base (L2.CX X.prog X.w) k g fd ps sp) (hr : Room k X.A) (b : Binds X.K fd ps []) (hx : PassesAt (L2.CX X.prog X.w) X σ (E σ))
    (I : Inv X ((q, PySem.W.methodObj (.ref g) (.ref C)) :: pins) σ H s) (r : Vals vs us) (h : sp (.ref C :: vs) H Q (E σ)) : wpAny (model X.prog X.w) X.A (call (.ref q) us) (EP X pins σ Q) X.xe s := by
  have z : wpAny (model X.prog X.w) X.A (call (.ref q) us) (EP X ((q, PySem.W.methodObj (.ref g) (.ref C)) :: pins) σ Q) X.xe s :=
    wpAny_call (PySem.W.method_call (pin_at I) (run_fnX (us := .ref C :: us) (vs := .ref C :: vs) F hr b hx I (.cons rfl r) h))
  exact thn z fun _ _ y => unpinE y
/-- C.m(..), m a classmethod that may raise -/
theorem pe_cmX {m : Str} {o e : Expr} {es : List Expr} {ta : TE} {t : TA} {pos apos : Pos} {pl : Sem Bool} (he : PE X o ta) (c : CalQ X.prog X.w X.K X.mg X.base C m k ps sp) (hr : Room k X.A) (hx : ∀ σ, PassesAt (L2.CX X.prog X.w) X σ (E σ)) (ha : PA X (e :: es) t)
    (hst : starEach (e :: es) X.env = (false, eval e X.env) :: starEach es X.env := by rfl) (hpl : (backTo pos (starEach es X.env)).any (·.1) = false := by rfl)
    (ht : eval (.Call (.Attribute o m apos) (e :: es) [] pos) X.env = (do
      let ov ← eval o X.env
      standAt apos.atName
      let (f, first) ← holding [ov] (getMethod ov m pl)
      callWith pos f first (backTo pos (starEach (e :: es) X.env)) (backToKw pos (keywordEach [] X.env))) := by rfl) :
    PE X (.Call (.Attribute o m apos) (e :: es) [] pos) (tCMethX C sp E ta t) := by
  obtain ⟨p, g, fd, F, r, c, b⟩ := c
  refine ⟨fun pins s σ H Q I h => ?_⟩
  refine PySem.W.methodCall_KW (pl := pl) (thn (he.run pins s σ H _ I h) fun u s1 ⟨x, H1, I1, rx, ex, q⟩ => ?_) ht
  subst ex
  obtain rfl : u = Value.ref C := rx
  refine getmethcm_ok I1 r c fun s2 I2 => ?_
  refine callwith_cm I2 (base_none I1 (Nat.le_refl _)) c.fi (thn (ha.run pos _ s2 σ H1 _ I2 q) fun us s3 ⟨vs, H2, I3, rv, q2⟩ => ⟨⟨pin_at I3, I3.kIn⟩, ?_⟩) hst hpl
  exact run_cmX F hr b (hx σ) I3 rv q2
/-- x(..), x a local name that holds the class at C -/
def tMakeL (i : Nat) (C : Addr) (sp : Sp) (t : TA) : TE := fun σ H Q => σ[i]? = some (some (.ref C)) ∧ tMakeC C sp t σ H Q
theorem pe_makeL {i : Nat} {x : Str} {p pos : Pos} {e : Expr} {es : List Expr} {t : TA} (c : CalI X.prog X.w X.K X.mg X.base C k ps sp) (hr : Room (k + 1) X.A) (hN : X.N[i]? = some x) (hv : Vis X.env.scope x) (ha : PA X (e :: es) t)
    (hd : (x == ("__debug__" : Str)) = false := by decide) (hcd : (x == ("__classdict__" : Str)) = false := by decide) (he : starEach (e :: es) X.env = (false, eval e X.env) :: starEach es X.env := by rfl) (hpl : (backTo pos (starEach es X.env)).any (·.1) = false := by rfl) :
    PE X (.Call (.Name x p) (e :: es) [] pos) (tMakeL i C sp t) := by
  obtain ⟨f, fd, M, F, b⟩ := c
  refine ⟨fun pins s σ H Q I h => ?_⟩
  obtain ⟨h0, h⟩ := h
  rw [← tMakeC_eq] at h
  refine wpAny_Call_Name_kw (thn ((pe_var (pos := p) (i := i) hN hv hd hcd).run pins s σ H (fun v H1 => v = .ref C ∧ H1 = H) I ⟨.ref C, h0, rfl, rfl⟩) fun u s1 ⟨v, H1, I1, r1, q1⟩ => ?_)
  obtain ⟨ev, eH⟩ := q1
  subst ev
  rw [eH] at I1
  obtain rfl : u = Value.ref C := r1
  refine PySem.W.callWith_K (h₀ := X.base) I1.ok.mod.kin M.kp (thn (ha.run pos pins s1 σ H _ I1 h) fun us s2 ⟨vs, H1, I2, r, q⟩ => ⟨I2.kIn, ?_⟩) he hpl
  exact run_make M F hr b .nil pass0 I2 r q
end
end Gx

set_option maxRecDepth 100000
set_option maxHeartbeats 4000000
/-! ### own rules: a class whose __init__ may raise; two attributes set at once -/
namespace Gx
open PySem PySem.Spec PySem.W PySem.Calls PyProof.Rows L2
/-- the __init__ of the class at C keeps sp and may raise -/
def CalIX (P : Program) (w : World) (K : PySem.W.Frag) (mg : Str → Option Value) (base : Heap) (C : Addr) (k : Nat) (ps : List Str) (sp : Sp) : Prop :=
  ∃ (f : Addr) (fd : FuncData), Mk K C f ∧ FnOk P w K mg base (L2.CX P w) k f fd ps sp ∧ Binds K fd ps []
section
variable {X : Cx} {C : Addr} {k : Nat} {ps : List Str} {sp : Sp} {E : L2.St → XK}
theorem run_makeX {f : Addr} {fd : FuncData} {pins : List (Addr × Obj)} {σ : L2.St} {H : Hp} {s : Shared} {Q : VK} {us : List Value} {vs : List V} (M : Mk X.K C f) (F : FnOk X.prog X.w X.K X.mg X.base (L2.CX X.prog X.w) k f fd ps sp) (hr : Room (k + 1) X.A) (hb : Binds X.K fd ps [])
    (hx : PassesAt (L2.CX X.prog X.w) X σ (E σ)) (I : Inv X pins σ H s) (r : Vals vs us)
    (h : ∀ x dx, H x = none → H dx = none → dx ≠ x → sp (.ref x :: vs) (upd (upd H dx (.own x)) x (.ins C dx [])) (fun v H2 => v = .non ∧ Q (.ref x) H2) (E σ)) :
    wpAny (model X.prog X.w) X.A (call (.ref C) us) (EP X pins σ Q) X.xe s := by
  have hq := h (s.heap.objs.size + 1) s.heap.objs.size (I.hok.fresh (Nat.le_succ _)) (I.hok.fresh (Nat.le_refl _)) (Nat.ne_of_lt (Nat.lt_succ_self _))
  have I2 := Inv.made (C := C) I
  have r2 : Vals (V.ref (s.heap.objs.size + 1) :: vs) (Value.ref (s.heap.objs.size + 1) :: us) := .cons rfl r
  have hl : (Value.ref (s.heap.objs.size + 1) :: us).length = ps.length := by
    have e := r2.length
    rw [F.len _ _ _ _ hq] at e
    exact e.symm
  have hb1 := hb _ (Value.ref (s.heap.objs.size + 1) :: us) I2.kIn (by rw [List.append_nil]; exact hl)
  rw [List.append_nil] at hb1
  refine wpAny_call (make_map (f := f) I.kIn M.makes M.init (beq_iff_eq.mp M.fn) (codeAny_mono (F.run _ X.stack _ _ ⟨Value.ref (s.heap.objs.size + 1) :: us, []⟩ (Value.ref (s.heap.objs.size + 1) :: us) _ _ (E σ) (hr.make C us [])
    (I2.env0.make C us []) hb1 r2 hq) fun r s' hq' => ?_))
  cases r with
  | error e => exact hx pins _ _ e s' I2 hq'
  | ok fl =>
    cases fl with
    | ret u =>
      obtain ⟨v, H', I3, rv, ev, q3⟩ := I2.after hq'
      subst ev
      exact ⟨rv, ⟨V.ref (s.heap.objs.size + 1), H', I3, rfl, q3⟩⟩
    | next => exact False.elim hq'
    | brk => exact False.elim hq'
    | cont => exact False.elim hq'
/-- x(..), an own class whose __init__ may raise -/
def tMakeX (C : Addr) (sp : Sp) (E : L2.St → XK) (t : TA) : TE := fun σ H Q => t σ H fun vs H1 => ∀ x dx, H1 x = none → H1 dx = none → dx ≠ x → sp (.ref x :: vs) (upd (upd H1 dx (.own x)) x (.ins C dx [])) (fun v H2 => v = .non ∧ Q (.ref x) H2) (E σ)
theorem pe_makeX {x : Str} {p pos : Pos} {e : Expr} {es : List Expr} {t : TA} (c : CalIX X.prog X.w X.K X.mg X.base C k ps sp) (hr : Room (k + 1) X.A) (hg : Gl X x) (hm : X.mg x = some (.ref C)) (hx : ∀ σ, PassesAt (L2.CX X.prog X.w) X σ (E σ)) (ha : PA X (e :: es) t)
    (hdb : (x == ("__debug__" : Str)) = false := by decide) (he : starEach (e :: es) X.env = (false, eval e X.env) :: starEach es X.env := by rfl) (hpl : (backTo pos (starEach es X.env)).any (·.1) = false := by rfl) :
    PE X (.Call (.Name x p) (e :: es) [] pos) (tMakeX C sp E t) := by
  obtain ⟨f, fd, M, F, b⟩ := c
  refine ⟨fun pins s σ H Q I h => ?_⟩
  refine wpAny_Call_Name_kw (ld_glob I hg hm ?_ hdb)
  refine PySem.W.callWith_K (h₀ := X.base) I.ok.mod.kin M.kp (thn (ha.run pos pins s σ H _ I h) fun us s2 ⟨vs, H1, I2, r, q⟩ => ⟨I2.kIn, ?_⟩) he hpl
  exact run_makeX M F hr b (hx σ) I2 r q
end
end Gx

set_option maxRecDepth 100000
set_option maxHeartbeats 4000000
namespace Kl
open PySem PySem.Spec PyProof.Rows L2 Gx Mx
/-! ### plans -/
abbrev qf (z : Str) (ml : Addr) (v : V) (ll : Addr) : List (Str × V) := [("_text", .str z), ("_made", .ref ml), ("_result", v), ("_letters", .ref ll)]
theorem qf_text (z : Str) (ml : Addr) (v : V) (ll : Addr) : List.lookup ("_text" : Str) (qf z ml v ll) = some (.str z) := by simp [List.lookup]
theorem qf_made (z : Str) (ml : Addr) (v : V) (ll : Addr) : List.lookup ("_made" : Str) (qf z ml v ll) = some (.ref ml) := by
  have h : (("_made" : Str) == "_text") = false := by decide +kernel
  simp [List.lookup, h]
theorem qf_letters (z : Str) (ml : Addr) (v : V) (ll : Addr) : List.lookup ("_letters" : Str) (qf z ml v ll) = some (.ref ll) := by
  have h1 : (("_letters" : Str) == "_text") = false := by decide +kernel
  have h2 : (("_letters" : Str) == "_made") = false := by decide +kernel
  have h3 : (("_letters" : Str) == "_result") = false := by decide +kernel
  simp [List.lookup, h1, h2, h3]
theorem qf_renamed (z : Str) (ml : Addr) (v : V) (ll : Addr) : List.lookup ("renamed" : Str) (qf z ml v ll) = none := by
  have h1 : (("renamed" : Str) == "_text") = false := by decide +kernel
  have h2 : (("renamed" : Str) == "_made") = false := by decide +kernel
  have h3 : (("renamed" : Str) == "_result") = false := by decide +kernel
  have h4 : (("renamed" : Str) == "_letters") = false := by decide +kernel
  simp [List.lookup, h1, h2, h3, h4]
theorem qf_2 (z : Str) (m : V) : putF ("_made" : Str) m [("_text", .str z)] = ([("_text", .str z), ("_made", m)] : List (Str × V)) := putF_app _ fun q hq => by
  rw [List.mem_singleton.mp hq]
  show ("_text" : Str) ≠ "_made"
  decide +kernel
theorem qf_3 (z : Str) (m r : V) : putF ("_result" : Str) r [("_text", .str z), ("_made", m)] = ([("_text", .str z), ("_made", m), ("_result", r)] : List (Str × V)) := putF_app _ fun q hq => by
  rcases List.mem_cons.mp hq with rfl | hq
  · show ("_text" : Str) ≠ "_result"
    decide +kernel
  · rw [List.mem_singleton.mp hq]
    show ("_made" : Str) ≠ "_result"
    decide +kernel
theorem qf_4 (z : Str) (m r l : V) : putF ("_letters" : Str) l [("_text", .str z), ("_made", m), ("_result", r)] = ([("_text", .str z), ("_made", m), ("_result", r), ("_letters", l)] : List (Str × V)) := putF_app _ fun q hq => by
  rcases List.mem_cons.mp hq with rfl | hq
  · show ("_text" : Str) ≠ "_letters"
    decide +kernel
  rcases List.mem_cons.mp hq with rfl | hq
  · show ("_made" : Str) ≠ "_letters"
    decide +kernel
  · rw [List.mem_singleton.mp hq]
    show ("_result" : Str) ≠ "_letters"
    decide +kernel
/-- the letters of a text -/
def letc (z : Str) : List Nat := [65, 66, 67].filter fun c => decide (c ∈ z.cps.toList)
def lets (z : Str) : List Str := (letc z).map one
theorem lt3_eq : LT3 = [65, 66, 67].map one := by decide +kernel
/-- a plan stands at x -/
structure PlanAt (K : PySem.W.Frag) (C : Addr) (H : Hp) (x : Addr) (z : Str) : Prop where
  ex : ∃ dx ml v ll ds, H x = some (.ins C dx (qf z ml v ll)) ∧ H ml = some (.lst ds) ∧ readS z.cps.toList = some ds.length ∧ SqT K H ll ((lets z).map V.str)
  ok : planB z.cps.toList = true
theorem PlanAt.same {K : PySem.W.Frag} {C x : Addr} {H H' : Hp} {z : Str} (h : PlanAt K C H x z) (s : Same H H') : PlanAt K C H' x z := by
  obtain ⟨⟨dx, ml, v, ll, ds, a, b, c, d⟩, e⟩ := h
  exact ⟨⟨dx, ml, v, ll, ds, s _ _ a, s _ _ b, c, sqT_st s d⟩, e⟩
section
variable {P : Program} {w : World} {K : PySem.W.Frag} {mg : Str → Option Value} {base : Heap}
/-! ### Plan.__init__ -/
abbrev NQI : List Str := ["self", "text", "told", "letter"]
def spQInit (K : PySem.W.Frag) (C Cp : Addr) : Sp := fun vs H Q E => ∃ (x dx : Addr) (v : V), vs = [.ref x, v] ∧ H x = some (.ins C dx []) ∧
  ((∃ z, v = .str z ∧ z.length ≤ 4500 ∧ (∀ H', planB z.cps.toList = true → PlanAt K C H' x z → (∀ b o, b ≠ x → H b = some o → H' b = some o) → (∀ d, DiceAt H d → ∀ G, (∀ b o, b ≠ d → H' b = some o → (∀ ps, o ≠ .tbl ps) → G b = some o) → PlanAt K C G x z) → Q .non H') ∧ (∀ H', planB z.cps.toList = false → Same H H' → E (.ref Cp) none H')) ∨
   ((∃ t, TyX K H v t ∧ PySem.W.kitOne K t (.type "str") = some false) ∧ E (.ref Cp) none H))
theorem ok_qinit {C Cp f : Addr} {fd : FuncData} (F : Fun K "__init__" "Plan.__init__" s_Plan_init f fd) (T : Top K mg) (TC : Cl_Plan K mg C) (XO : XPln K mg "InvalidPlan" "ValueError.__new__" "ValueError.__init__" [.type "ValueError", .type "Exception", .type "BaseException", .type "object"] Cp) (XC : XCls K Cp) :
    FnOk P w K mg base (L2.CX P w) 4 f fd ["self", "text"] (spQInit K C Cp) := by
  obtain ⟨tm, gm⟩ := T.g_MAX_PLAN
  obtain ⟨aL, oL, iL, nL, gL, lL, cL, dL, zL, vL⟩ := T.t_LETTERS
  have hL : ∀ H : Hp, SqT K H aL (([65, 66, 67].map one).map V.str) := fun H => by
    rw [← lt3_eq]
    exact .inr ⟨oL, iL, nL, lL, cL, dL, zL, vL⟩
  have cd : Cal P w K mg base 3 "deeds_in" ["text"] spDeeds := T.d_deeds_in.cal fun f fd F => ok_deeds F T
  refine F.okX sc_Plan_init (fun vs H Q E h => ?_) (fun cdv A outer s H vs Q E hr h => ?_)
  · obtain ⟨x, dx, v, rfl, _⟩ := h
    rfl
  · obtain ⟨x, dx, v, rfl, hx, hv⟩ := h
    refine ⟨_, pss_cut (ps_set (i := 2) sc_Plan_init.nd rfl (.inl rfl) (pe_ifExp (pt_val (pe_callB call_isi (by rfl) T.b_isinstance (by decide +kernel) (pa_cons (pv 1) (pa_cons (pe_bltn (v := .ty "str") (by rfl) T.b_str (by decide +kernel) rfl) pa_nil)))) (pe_cal cd hr (by rfl) (pa_cons (pv 1) pa_nil)) pe_non))
      (pss_cut (ps_if (PW.pt (pw_or (pt_cmpR op_isN (pv 2) pe_non (nomark _)) (pw_or1 (pt_cmpR op_gt (pe_callB call_len_seq (by rfl) T.b_len PySem.boot_len (pa_cons (pe_ix ix_tup (pv 2) pe_int (fun _ _ => rfl)) pa_nil)) (pe_glob (v := .int 4) (by rfl) gm ⟨_, rfl⟩) (nomark _)))))
          (pss_one (ps_raise rfl (takes_of rfl rfl rfl rfl) (pmk_P PySem.F.excBase_ValueError XO XC (pa_cons pe_str pa_nil) (by rfl)))) pss_nil)
      (pss_cut (ps_fld (pv 0) (pv 1) rfl)
      (pss_cut (ps_asg (pv 2) (pg_tup (n := 2) rfl (pgs_cons (pg_fld (pv 0)) (pgs_cons (pg_fld (pv 0)) pgs_nil))))
      (pss_one (ps_fld (pv 0) (pe_callTy call_tuple_of (by rfl) T.b_tuple (by decide +kernel) (pa_cons (pe_lc (own := [("letter", 3)]) (g := gName 3) rfl sc_Plan_init.nd (pi_tup (pe_glob (v := .ref aL) (by rfl) gL rfl))
          (blkOk_by (N := NQI) (sc := defScope s_Plan_init) (by decide +kernel)) (fun _ _ _ _ _ => pg_name (i := 3) sc_Plan_init.nd rfl (.inl rfl)) (fun _ _ _ _ _ => pts_one (pt_cmpR op_in_sign (pv 3) (pv 1) (by rfl))) (fun _ _ _ _ _ => pv 3)) pa_nil)) rfl))))), ?_⟩
    refine ⟨fun σ' G => (∃ (z : Str) (t dl : Addr) (ds : List V) (r : V), v = .str z ∧ σ' = [some (.ref x), some v, some (.ref t), none] ∧ G t = some (.tup [.ref dl, r]) ∧ G dl = some (.lst ds) ∧ readS z.cps.toList = some ds.length ∧ H dl = none ∧ Same H G ∧
        (∀ H', planB z.cps.toList = true → PlanAt K C H' x z → (∀ b o, b ≠ x → H b = some o → H' b = some o) → (∀ d, DiceAt H d → ∀ G, (∀ b o, b ≠ d → H' b = some o → (∀ ps, o ≠ .tbl ps) → G b = some o) → PlanAt K C G x z) → Q .non H') ∧ (∀ H', planB z.cps.toList = false → Same H H' → E (.ref Cp) none H')) ∨
        (σ' = [some (.ref x), some v, some .non, none] ∧ E (.ref Cp) none G), ?_, ?_⟩
    · rcases hv with ⟨z, rfl, hz, q1, q2⟩ | ⟨⟨ty, ht, hk⟩, q⟩
      · refine ⟨_, rfl, _, .ty "str", .type "str", .type "str", true, rfl, .ty _, .base (.str z), kit_ty (by decide +kernel), true, rfl, ?_⟩
        show (if true = true then _ else _)
        rw [if_pos rfl]
        refine ⟨_, rfl, z, rfl, hz, fun H' t dl ds r hr e1 e2 e0 s => ?_, fun H' hr s => ?_⟩
        · exact .inl ⟨z, t, dl, ds, r, rfl, rfl, e1, e2, hr, e0, s, q1, q2⟩
        · exact .inr ⟨rfl, q2 H' (by unfold planB; rw [hr]) s⟩
      · refine ⟨_, rfl, _, .ty "str", ty, .type "str", false, rfl, .ty _, ht, hk, false, rfl, ?_⟩
        show (if false = true then _ else _)
        rw [if_neg (by decide)]
        exact .inr ⟨rfl, q⟩
    rintro σ' G (⟨z, t, dl, ds, r, rfl, rfl, et, edl, hrd, hdn, s0, q1, q2⟩ | ⟨rfl, q⟩)
    rotate_left
    · refine ⟨fun _ _ => False, ?_, fun _ _ h => h.elim⟩
      refine ⟨_, rfl, rfl, _, rfl, ?_⟩
      show (if decide (V.non = V.non) = true then _ else _)
      rw [decide_eq_true rfl, if_pos rfl]
      show (if true = true then _ else _)
      rw [if_pos rfl]
      exact ⟨by decide, q⟩
    refine ⟨fun σ' G' => σ' = [some (.ref x), some (.str z), some (.ref t), none] ∧ G = G' ∧ planB z.cps.toList = true, ?_, ?_⟩
    · refine ⟨_, rfl, rfl, _, rfl, ?_⟩
      show (if decide (V.ref t = V.non) = true then _ else _)
      rw [decide_eq_false (fun h => nomatch h), if_neg (by decide)]
      refine ⟨_, rfl, t, _, _, .ref dl, rfl, rfl, .inl (.inl et), rfl, dl, _, rfl, .inl (.inl (.inl edl)), _, _, rfl, rfl, _, rfl, ?_⟩
      have hp : planB z.cps.toList = decide (ds.length ≤ 4) := by
        unfold planB
        rw [hrd]
      by_cases c : ds.length ≤ 4
      · rw [decide_eq_false (show ¬ ((ds.length : Nat) : Int) > 4 by omega)]
        show (if false = true then _ else _)
        rw [if_neg (by decide)]
        exact ⟨rfl, rfl, by rw [hp]; exact decide_eq_true c⟩
      · rw [decide_eq_true (show ((ds.length : Nat) : Int) > 4 by omega)]
        show (if true = true then _ else _)
        rw [if_pos rfl]
        exact ⟨by decide, q2 G (by rw [hp]; exact decide_eq_false c) s0⟩
    rintro σ' G' ⟨rfl, rfl, hpl⟩
    have hx0 := s0 _ _ hx
    have ntx : t ≠ x := fun h => by rw [h, hx0] at et; cases et
    have ndx : dl ≠ x := fun h => by rw [h, hx0] at edl; cases edl
    refine ⟨fun σ' G' => σ' = [some (.ref x), some (.str z), some (.ref t), none] ∧ G' x = some (.ins C dx [("_text", .str z)]) ∧ SameX x G G', ?_, ?_⟩
    · refine ⟨_, rfl, _, rfl, x, C, dx, [], rfl, hx0, TC.cl, TC.n_text, by decide, rfl, upd_same, (SameX.refl x G).atd⟩
    rintro σ' G1 ⟨rfl, hx1, sx1⟩
    refine ⟨fun σ' G' => σ' = [some (.ref x), some (.str z), some (.ref t), none] ∧ G' x = some (.ins C dx [("_text", .str z), ("_made", .ref dl), ("_result", r)]) ∧ SameX x G G', ?_, ?_⟩
    · refine ⟨_, rfl, t, _, rfl, .inl (.inl (sx1 _ _ ntx et)), rfl, _, _, rfl, _, rfl, x, C, dx, _, rfl, hx1, TC.cl, TC.n_made, by show 1 < 1000; decide, ?_⟩
      rw [qf_2]
      refine ⟨_, _, rfl, _, rfl, x, C, dx, _, rfl, upd_same, TC.cl, TC.n_result, by show 2 < 1000; decide, rfl, ?_⟩
      rw [qf_3]
      exact ⟨rfl, upd_same, sx1.atd.atd⟩
    clear hx1 sx1
    rintro σ' G1 ⟨rfl, hx1, sx1⟩
    refine ⟨aL, rfl, ⟨_, hL _⟩, fun D hD => ?_⟩
    have letT : ∀ (c : Nat) (l : List Nat), (l ++ [c]).filter (fun c => decide (c ∈ z.cps.toList)) = l.filter (fun c => decide (c ∈ z.cps.toList)) ++ (if c ∈ z.cps.toList then [c] else []) := fun c l => by
      rw [List.filter_append]
      congr 1
      rw [List.filter_cons, List.filter_nil]
      by_cases h : c ∈ z.cps.toList
      · rw [decide_eq_true h, if_pos rfl, if_pos h]
      · rw [decide_eq_false h, if_neg (by decide), if_neg h]
    refine lc_it (g := gName 3) (vs := [3]) (walk_tup (K := K) (a := aL) (xs := ([65, 66, 67].map one).map V.str)) (fun j G' => G' D = some (.lst (((([65, 66, 67].take j).filter fun c => decide (c ∈ z.cps.toList)).map one).map V.str)) ∧ Same G1 G')
      ⟨upd_same, same_new (Same.refl G1) hD⟩ (fun j G' _ h => hL G') (fun j u Gx G' hj h hy => ?_) (fun G' h => ?_)
    · obtain ⟨eD, sm⟩ := h
      obtain ⟨rfl, hu⟩ := hy
      have hu : (([65, 66, 67].map one).map V.str)[j]? = some u := hu
      rw [List.getElem?_map, List.getElem?_map, Option.map_map] at hu
      obtain ⟨c, hc, rfl⟩ := Option.map_eq_some_iff.mp hu
      have ht : [65, 66, 67].take (j + 1) = [65, 66, 67].take j ++ [c] := by
        rw [List.take_add_one, hc]
        rfl
      rw [ht, letT]
      refine ⟨rfl, _, rfl, _, rfl, c, z, rfl, rfl, _, rfl, ?_⟩
      by_cases hcz : c ∈ z.cps.toList
      · rw [decide_eq_true hcz, if_pos hcz]
        show (if true = true then _ else _)
        rw [if_pos rfl]
        refine ⟨_, rfl, _, eD, ?_, ?_, fun b o e => by rw [upd_ne (ne_of_none e hD)]; exact sm b o e⟩
        · rw [List.length_map, List.length_map]
          have : (([65, 66, 67].take j).filter fun c => decide (c ∈ z.cps.toList)).length ≤ 3 := Nat.le_trans (List.length_filter_le _ _) (by rw [List.length_take]; exact Nat.min_le_right _ _)
          exact Nat.lt_of_le_of_lt this (by decide)
        · rw [upd_same, List.map_append, List.map_append]
          rfl
      · rw [decide_eq_false hcz, if_neg hcz, List.append_nil]
        show (if false = true then _ else _)
        rw [if_neg (by decide)]
        exact ⟨eD, sm⟩
    · obtain ⟨eD, sm⟩ := h
      have eD : G' D = some (.lst ((lets z).map V.str)) := eD
      refine ⟨D, _, rfl, .inl ⟨.inl (.inl eD), fun tl ntl => ?_⟩⟩
      have s2 := same_new (o := .tup ((lets z).map V.str)) (Same.refl G') ntl
      have etl : (upd G' tl (.tup ((lets z).map V.str))) tl = some (.tup ((lets z).map V.str)) := upd_same
      generalize upd G' tl (.tup ((lets z).map V.str)) = G2 at s2 etl
      have hx2 := s2 _ _ (sm _ _ hx1)
      refine ⟨_, rfl, x, C, dx, _, rfl, hx2, TC.cl, TC.n_letters, by show 3 < 1000; decide, ?_⟩
      rw [qf_4]
      have ntl2 : tl ≠ x := fun h => by rw [h, hx2] at etl; cases etl
      have f1 : (upd G2 x (.ins C dx (qf z dl r tl))) dl = some (.lst ds) := by
        rw [upd_ne ndx]
        exact s2 _ _ (sm _ _ (sx1 _ _ ndx edl))
      have f2 : (upd G2 x (.ins C dx (qf z dl r tl))) tl = some (.tup ((lets z).map V.str)) := by
        rw [upd_ne ntl2]
        exact etl
      have keep : ∀ b o, b ≠ x → H b = some o → (upd G2 x (.ins C dx (qf z dl r tl))) b = some o := fun b o n e => by
        rw [upd_ne n]
        exact s2 _ _ (sm _ _ (sx1 _ _ n (s0 _ _ e)))
      refine q1 _ hpl ⟨⟨dx, dl, r, tl, ds, upd_same, f1, hrd, .inl (.inl f2)⟩, hpl⟩ keep fun d hd G s => ?_
      obtain ⟨a1, a2, a3, ed⟩ := hd
      have nxd : x ≠ d := fun h => by rw [h, ed] at hx; cases hx
      have nld : dl ≠ d := fun h => by rw [h, ed] at hdn; cases hdn
      have edd := keep d _ nxd.symm ed
      have ntd : tl ≠ d := fun h => by
        have f3 := f2
        generalize upd G2 x (.ins C dx (qf z dl r tl)) = G3 at f3 edd
        rw [h, edd] at f3
        cases f3
      exact ⟨⟨dx, dl, r, tl, ds, s _ _ nxd upd_same (fun _ => nofun), s _ _ nld f1 (fun _ => nofun), hrd, .inl (.inl (s _ _ ntd f2 fun _ => nofun))⟩, hpl⟩
end
end Kl

set_option maxRecDepth 100000
set_option maxHeartbeats 4000000
namespace Kl
open PySem PySem.Spec PyProof.Rows L2 Gx Mx
theorem op_inK {X : Cx} {K : PySem.W.Frag} (hk : X.K = K) : OpR X (compareOp .In) (rIn K false) := by
  subst hk
  exact op_in_seq
theorem hu_of {A : Around} {k : Nat} (r : Room k A) : A.units + 1 < cLine := by
  have := r.un
  omega
section
variable {P : Program} {w : World} {K : PySem.W.Frag} {mg : Str → Option Value} {base : Heap}
/-! ### what a plan tells -/
def spQText (K : PySem.W.Frag) (C : Addr) : Sp := fun vs H Q _ => ∃ (x : Addr) (z : Str), vs = [.ref x] ∧ PlanAt K C H x z ∧ Q (.str z) H
theorem ok_qtext {C f : Addr} {fd : FuncData} (F : Fun K "text" "Plan.text" s_Plan_text f fd) (TC : Cl_Plan K mg C) : FnOk P w K mg base CX0 1 f fd ["self"] (spQText K C) := by
  refine F.ok sc_Plan_text (fun vs H Q E h => ?_) (fun cdv A outer s H vs Q E hr h => ?_)
  · obtain ⟨x, z, rfl, _⟩ := h
    rfl
  · obtain ⟨x, z, rfl, ⟨⟨dx, ml, v, ll, ds, hx, hm, hr', hl⟩, hp⟩, q⟩ := h
    refine ⟨_, pss_one (ps_ret (pe_fld (pv 0) rfl)), ?_⟩
    exact ⟨_, rfl, x, C, dx, _, _, rfl, hx, TC.cl, TC.n_text, qf_text _ _ _ _, q⟩
def spQLet (K : PySem.W.Frag) (C : Addr) : Sp := fun vs H Q _ => ∃ (x : Addr) (z : Str), vs = [.ref x] ∧ PlanAt K C H x z ∧ ∀ p, SqT K H p ((lets z).map V.str) → Q (.ref p) H
theorem ok_qlet {C f : Addr} {fd : FuncData} (F : Fun K "letters" "Plan.letters" s_Plan_letters f fd) (TC : Cl_Plan K mg C) : FnOk P w K mg base CX0 1 f fd ["self"] (spQLet K C) := by
  refine F.ok sc_Plan_letters (fun vs H Q E h => ?_) (fun cdv A outer s H vs Q E hr h => ?_)
  · obtain ⟨x, z, rfl, _⟩ := h
    rfl
  · obtain ⟨x, z, rfl, ⟨⟨dx, ml, v, ll, ds, hx, hm, hr', hl⟩, hp⟩, q⟩ := h
    refine ⟨_, pss_one (ps_ret (pe_fld (pv 0) rfl)), ?_⟩
    exact ⟨_, rfl, x, C, dx, _, _, rfl, hx, TC.cl, TC.n_letters, qf_letters _ _ _ _, q ll hl⟩
def spQLen (K : PySem.W.Frag) (C : Addr) : Sp := fun vs H Q _ => ∃ (x : Addr) (z : Str), vs = [.ref x] ∧ PlanAt K C H x z ∧ ∀ m : Nat, readS z.cps.toList = some m → Q (.int (m : Nat)) H
theorem ok_qdeeds {C f : Addr} {fd : FuncData} (F : Fun K "deeds" "Plan.deeds" s_Plan_deeds f fd) (T : Top K mg) (TC : Cl_Plan K mg C) : FnOk P w K mg base CX0 1 f fd ["self"] (spQLen K C) := by
  refine F.ok sc_Plan_deeds (fun vs H Q E h => ?_) (fun cdv A outer s H vs Q E hr h => ?_)
  · obtain ⟨x, z, rfl, _⟩ := h
    rfl
  · obtain ⟨x, z, rfl, ⟨⟨dx, ml, v, ll, ds, hx, hm, hr', hl⟩, hp⟩, q⟩ := h
    refine ⟨_, pss_one (ps_ret (pe_callB call_len_seq (by rfl) T.b_len PySem.boot_len (pa_cons (pe_fld (pv 0) rfl) pa_nil))), ?_⟩
    exact ⟨_, rfl, x, C, dx, _, _, rfl, hx, TC.cl, TC.n_made, qf_made _ _ _ _, ml, _, rfl, .inl (.inl (.inl hm)), q _ hr'⟩
theorem ok_qlen {C f : Addr} {fd : FuncData} (F : Fun K "__len__" "Plan.__len__" s_Plan_len f fd) (T : Top K mg) (TC : Cl_Plan K mg C) : FnOk P w K mg base CX0 1 f fd ["self"] (spQLen K C) := by
  refine F.ok sc_Plan_len (fun vs H Q E h => ?_) (fun cdv A outer s H vs Q E hr h => ?_)
  · obtain ⟨x, z, rfl, _⟩ := h
    rfl
  · obtain ⟨x, z, rfl, ⟨⟨dx, ml, v, ll, ds, hx, hm, hr', hl⟩, hp⟩, q⟩ := h
    refine ⟨_, pss_one (ps_ret (pe_callB call_len_seq (by rfl) T.b_len PySem.boot_len (pa_cons (pe_fld (pv 0) rfl) pa_nil))), ?_⟩
    exact ⟨_, rfl, x, C, dx, _, _, rfl, hx, TC.cl, TC.n_made, qf_made _ _ _ _, ml, _, rfl, .inl (.inl (.inl hm)), q _ hr'⟩
theorem ok_qstr {C f : Addr} {fd : FuncData} (F : Fun K "__str__" "Plan.__str__" s_Plan_str f fd) (T : Top K mg) (TC : Cl_Plan K mg C) : FnOk P w K mg base CX0 1 f fd ["self"] (spQText K C) := by
  refine F.ok sc_Plan_str (fun vs H Q E h => ?_) (fun cdv A outer s H vs Q E hr h => ?_)
  · obtain ⟨x, z, rfl, _⟩ := h
    rfl
  · obtain ⟨x, z, rfl, ⟨⟨dx, ml, v, ll, ds, hx, hm, hr', hl⟩, hp⟩, q⟩ := h
    refine ⟨_, pss_one (ps_ret (pe_callTy SkE.call_str_str (by rfl) T.b_str (by decide +kernel) (pa_cons (pe_fld (pv 0) rfl) pa_nil))), ?_⟩
    exact ⟨_, rfl, x, C, dx, _, _, rfl, hx, TC.cl, TC.n_text, qf_text _ _ _ _, _, rfl, q⟩
def spQEq (K : PySem.W.Frag) (C : Addr) : Sp := fun vs H Q _ => ∃ (x : Addr) (z : Str) (y : V), vs = [V.ref x, y] ∧ PlanAt K C H x z ∧
  ((∃ (x' : Addr) (z' : Str), y = .ref x' ∧ PlanAt K C H x' z' ∧ Q (.bl (decide (z = z'))) H) ∨ ∃ t, TyX K H y t ∧ PySem.W.kitOne K t (.ref C) = some false ∧ Q (.bl false) H)
theorem ok_qeq {C f : Addr} {fd : FuncData} (F : Fun K "__eq__" "Plan.__eq__" s_Plan_eq f fd) (T : Top K mg) (TC : Cl_Plan K mg C) : FnOk P w K mg base CX0 1 f fd ["self", "other"] (spQEq K C) := by
  refine F.ok sc_Plan_eq (fun vs H Q E h => ?_) (fun cdv A outer s H vs Q E hr h => ?_)
  · obtain ⟨x, z, y, rfl, _⟩ := h
    rfl
  · obtain ⟨x, z, y, rfl, ⟨⟨dx, ml, v, ll, ds, hx, hm, hr', hl⟩, hp⟩, q⟩ := h
    refine ⟨_, pss_one (ps_ret (pe_and (pe_callB call_isi (by rfl) T.b_isinstance (by decide +kernel) (pa_cons (pv 1) (pa_cons (pe_glob (v := .ref C) (by rfl) TC.gC rfl) pa_nil))) (pe_one (pe_cmpR op_eq (pe_fld (pv 0) rfl) (pe_fld (pv 1) rfl) (nomark _))))), ?_⟩
    rcases q with ⟨x', z', rfl, ⟨⟨dx', ml', v', ll', ds', hx', _⟩, _⟩, q⟩ | ⟨t, ty, kt, q⟩
    · refine ⟨_, rfl, _, _, .ref C, .ref C, true, rfl, .own C, .base (.ins hx' TC.cl TC.ca TC.cg TC.ct TC.ob), TC.kit, true, rfl, ?_⟩
      rw [if_pos rfl]
      refine ⟨_, rfl, x, C, dx, _, _, rfl, hx, TC.cl, TC.n_text, qf_text _ _ _ _, _, rfl, x', C, dx', _, _, rfl, hx', TC.cl, TC.n_text, qf_text _ _ _ _, rfl, ?_⟩
      rw [show decide (V.str z = V.str z') = decide (z = z') by rw [decide_eq_decide]; exact ⟨V.str.inj, fun h => by rw [h]⟩]
      exact q
    · refine ⟨_, rfl, _, _, t, .ref C, false, rfl, .own C, ty, kt, false, rfl, ?_⟩
      rw [if_neg (by decide)]
      exact q
/-! ### _are_for -/
def spFor (K : PySem.W.Frag) : Sp := fun vs H Q _ => ∃ (p : Addr) (L : List Str) (v : V), vs = [V.ref p, v] ∧ SqT K H p (L.map V.str) ∧ L.length ≤ 100 ∧
  ((∃ d kvs, v = .ref d ∧ H d = some (.dK kvs) ∧ ∀ H', Same H H' → Q (.bl (decide (kvs.length = L.length) && L.all fun l => (valV kvs (Sum.inr l)).isSome)) H') ∨
   ((∃ t, TyX K H v t ∧ PySem.W.kitOne K t (.type "dict") = some false) ∧ Q (.bl false) H))
abbrev NAF : List Str := ["letters", "value", "letter"]
theorem ok_for {f : Addr} {fd : FuncData} (F : Fun K "_are_for" "_are_for" s_are_for f fd) (T : Top K mg) : FnOk P w K mg base CX0 1 f fd ["letters", "value"] (spFor K) := by
  refine F.ok sc_are_for (fun vs H Q E h => ?_) (fun cdv A outer s H vs Q E hr h => ?_)
  · obtain ⟨p, L, v, rfl, _⟩ := h
    rfl
  · obtain ⟨p, L, v, rfl, hp, hL, hv⟩ := h
    have hu := hu_of hr
    refine ⟨_, pss_one (ps_ret (pe_and (pe_callB call_isi (by rfl) T.b_isinstance (by decide +kernel) (pa_cons (pv 1) (pa_cons (pe_bltn (v := .ty "dict") (by rfl) T.b_dict (by decide +kernel) rfl) pa_nil)))
      (pe_and (pe_cmpR op_eq (pe_callB call_lenD (by rfl) T.b_len PySem.boot_len (pa_cons (pv 1) pa_nil)) (pe_callB call_len_seq (by rfl) T.b_len PySem.boot_len (pa_cons (pv 0) pa_nil)) (nomark _))
        (pe_one (pe_callB (cr_all rfl) (by rfl) T.b_all (by decide +kernel) (pa_cons (pe_lc (own := [("letter", 2)]) (g := gName 2) (tt := tYes) rfl sc_are_for.nd (pi_tup (pv 0))
            (blkOk_by (N := NAF) (sc := defScope s_are_for) (by decide +kernel)) (fun _ _ _ _ _ => pg_name (i := 2) sc_are_for.nd rfl (.inl rfl)) (fun _ _ _ _ _ => pts_nil) (fun _ _ _ _ _ => pe_cmp (pc_din hu (pv 2) (pv 1)))) pa_nil)))))), ?_⟩
    rcases hv with ⟨d, kvs, rfl, ed, q⟩ | ⟨⟨t, ht, hk⟩, q⟩
    rotate_left
    · refine ⟨_, rfl, _, .ty "dict", t, .type "dict", false, rfl, .ty _, ht, hk, false, rfl, ?_⟩
      rw [if_neg (by decide)]
      exact q
    refine ⟨_, rfl, _, .ty "dict", .type "dict", .type "dict", true, rfl, .ty _, .base (.dK ed), kit_ty (by decide +kernel), true, rfl, ?_⟩
    rw [if_pos rfl]
    refine ⟨_, rfl, d, kvs, rfl, ed, _, rfl, p, _, rfl, .inr hp, rfl, _, rfl, ?_⟩
    rw [List.length_map, show decide (V.int ((kvs.length : Nat) : Int) = V.int ((L.length : Nat) : Int)) = decide (kvs.length = L.length) by
      rw [decide_eq_decide]
      constructor
      · intro h; have := V.int.inj h; omega
      · intro h; rw [h]]
    cases c : decide (kvs.length = L.length) with
    | false =>
      rw [c, Bool.false_and] at q
      rw [if_neg (by decide)]
      exact q H (Same.refl H)
    | true =>
      rw [c, Bool.true_and] at q
      rw [if_pos rfl]
      refine ⟨_, rfl, p, rfl, ⟨_, hp⟩, fun D hD => ?_⟩
      refine lc_it (g := gName 2) (tt := tYes) (vs := [2]) (walk_tup (K := K) (a := p) (xs := L.map V.str)) (fun j G' => G' D = some (.lst (((L.take j).map fun l => (valV kvs (Sum.inr l)).isSome).map V.bl)) ∧ Same H G')
        ⟨upd_same, same_new (Same.refl H) hD⟩ (fun j G' _ h => sqT_st h.2 hp) (fun j u Gx G' hj h hy => ?_) (fun G' h => ?_)
      · obtain ⟨eD, sm⟩ := h
        obtain ⟨rfl, hu2⟩ := hy
        obtain ⟨l, hl, rfl⟩ := at_texts hu2
        refine ⟨rfl, _, rfl, _, rfl, d, _, rfl, DGet.k (k := Sum.inr l) (sm _ _ ed), _, eD, ?_, ?_, fun b o e => by rw [upd_ne (ne_of_none e hD)]; exact sm b o e⟩
        · rw [List.length_map, List.length_map, List.length_take]
          exact Nat.lt_of_le_of_lt (Nat.le_trans (Nat.min_le_right _ _) hL) (by decide)
        · rw [upd_same, List.take_add_one, hl, List.map_append, List.map_append]
          rfl
      · obtain ⟨eD, sm⟩ := h
        rw [List.length_map, List.take_length] at eD
        refine ⟨D, _, rfl, .inl (.inl eD), ?_⟩
        have := q G' sm
        rw [show ((L.map fun l => (valV kvs (Sum.inr l)).isSome).all id) = L.all fun l => (valV kvs (Sum.inr l)).isSome by rw [List.all_map]; rfl]
        exact this
end
end Kl

set_option maxRecDepth 100000
set_option maxHeartbeats 4000000
namespace Kl
open PySem PySem.Spec PyProof.Rows L2 Gx Mx
/-! ### other letters -/
def lookC (kvs : List (Key × V)) (c : Nat) : Nat := match valV kvs (Sum.inr (one c)) with
  | some (.str u) => u.cps.toList.headD c
  | _ => c
def mapZ (kvs : List (Key × V)) (z : Str) : Str := ⟨(z.cps.toList.map (lookC kvs)).toArray⟩
theorem mapZ_cps (kvs : List (Key × V)) (z : Str) : (mapZ kvs z).cps.toList = z.cps.toList.map (lookC kvs) := rfl
/-- a dict from just the letters of a text to letters -/
def okD (z : Str) (kvs : List (Key × V)) : Prop := kvs.length = (letc z).length ∧ ∀ c ∈ letc z, ∃ u, valV kvs (Sum.inr (one c)) = some u ∧ inV u (LT3.map V.str) = true
theorem isL_mem {c : Nat} : isL c = true ↔ c ∈ [65, 66, 67] := by
  unfold isL
  rw [decide_eq_true_eq]
  simp
theorem letc_mem {z : Str} {c : Nat} : c ∈ letc z ↔ isL c = true ∧ c ∈ z.cps.toList := by
  unfold letc
  rw [List.mem_filter, decide_eq_true_eq, isL_mem]
theorem inL_one {u : V} (h : inV u (LT3.map V.str) = true) (f : flatV u = true) : ∃ c, u = .str (one c) ∧ isL c = true := by
  unfold inV at h
  obtain ⟨y, hy, e⟩ := List.any_eq_true.mp h
  rw [lt3_eq, List.map_map] at hy
  obtain ⟨c, hc, rfl⟩ := List.mem_map.mp hy
  cases u with
  | str a =>
    have : (one c == a) = true := e
    exact ⟨c, by rw [eq_of_beq this], isL_mem.mpr hc⟩
  | _ => cases e
theorem txt_map {f : Nat → Nat} : ∀ (p : Pl), p.ok → (∀ c ∈ p.txt, (isL c = true ∧ isL (f c) = true) ∨ (isL c = false ∧ f c = c)) → ∃ q : Pl, q.ok ∧ q.txt = p.txt.map f ∧ q.cnt = p.cnt
  | .lt c, h, hf => by
    rcases hf c (List.mem_singleton.mpr rfl) with ⟨_, h2⟩ | ⟨h1, _⟩
    · exact ⟨.lt (f c), h2, rfl, rfl⟩
    · rw [show isL c = true from h] at h1
      cases h1
  | .put p, h, hf => by
    obtain ⟨q, hq, e1, e2⟩ := txt_map p h fun c hc => hf c (by simp [Pl.txt, hc])
    have h39 : f 39 = 39 := by
      rcases hf 39 (by simp [Pl.txt]) with ⟨h1, _⟩ | ⟨_, h2⟩
      · cases h1
      · exact h2
    refine ⟨.put q, hq, ?_, ?_⟩
    · simp [Pl.txt, e1, h39]
    · simp [Pl.cnt, e2]
  | .meld p r, h, hf => by
    obtain ⟨q, hq, e1, e2⟩ := txt_map p h.1 fun c hc => hf c (by simp [Pl.txt, hc])
    obtain ⟨s, hs, e3, e4⟩ := txt_map r h.2 fun c hc => hf c (by simp [Pl.txt, hc])
    have sg : ∀ c, isL c = false → c ∈ (Pl.meld p r).txt → f c = c := fun c n hc => by
      rcases hf c hc with ⟨h1, _⟩ | ⟨_, h2⟩
      · rw [n] at h1
        cases h1
      · exact h2
    have h40 := sg 40 (by decide) (by simp [Pl.txt])
    have h41 := sg 41 (by decide) (by simp [Pl.txt])
    have h43 := sg 43 (by decide) (by simp [Pl.txt])
    refine ⟨.meld q s, ⟨hq, hs⟩, ?_, ?_⟩
    · simp [Pl.txt, e1, e3, h40, h41, h43]
    · simp [Pl.cnt, e2, e4]
theorem plan_map {f : Nat → Nat} {cs : List Nat} (h : planB cs = true) (hf : ∀ c ∈ cs, (isL c = true ∧ isL (f c) = true) ∨ (isL c = false ∧ f c = c)) : planB (cs.map f) = true := by
  obtain ⟨p, hp, rfl, hc⟩ := (planB_iff cs).mp h
  obtain ⟨q, hq, e1, e2⟩ := txt_map p hp hf
  exact (planB_iff _).mpr ⟨q, hq, e1, by omega⟩
def inB (kvs : List (Key × V)) (l : Str) : Bool := match valV kvs (Sum.inr l) with
  | some u => inV u (LT3.map V.str)
  | none => false
theorem okD_iff {z : Str} {kvs : List (Key × V)} : okD z kvs ↔ (decide (kvs.length = (lets z).length) && (lets z).all fun l => (valV kvs (Sum.inr l)).isSome) = true ∧ (lets z).all (inB kvs) = true := by
  unfold okD lets
  rw [List.length_map, Bool.and_eq_true, decide_eq_true_eq, List.all_eq_true, List.all_eq_true]
  constructor
  · rintro ⟨h1, h2⟩
    refine ⟨⟨h1, fun l hl => ?_⟩, fun l hl => ?_⟩
    · obtain ⟨c, hc, rfl⟩ := List.mem_map.mp hl
      obtain ⟨u, e, _⟩ := h2 c hc
      rw [e]
      rfl
    · obtain ⟨c, hc, rfl⟩ := List.mem_map.mp hl
      obtain ⟨u, e, h⟩ := h2 c hc
      unfold inB
      rw [e]
      exact h
  · rintro ⟨⟨h1, _⟩, h3⟩
    refine ⟨h1, fun c hc => ?_⟩
    have := h3 (one c) (List.mem_map.mpr ⟨c, hc, rfl⟩)
    unfold inB at this
    cases e : valV kvs (Sum.inr (one c)) with
    | none => rw [e] at this; cases this
    | some u =>
      rw [e] at this
      exact ⟨u, rfl, this⟩
theorem lets_len (z : Str) : (lets z).length ≤ 3 := by
  unfold lets letc
  rw [List.length_map]
  exact List.length_filter_le _ _
theorem cps_ext {a b : Str} (h : a.cps.toList = b.cps.toList) : a = b := by
  cases a with
  | mk x =>
    cases b with
    | mk y =>
      have : x = y := by
        cases x; cases y
        exact congrArg Array.mk h
      rw [this]
theorem join_ones : ∀ (L : List Nat), Txt.join "" (L.map one) = ⟨L.toArray⟩
  | [] => by rw [TL.join_eq]; rfl
  | [c] => by rw [TL.join_eq]; rfl
  | c :: d :: r => by
    have ih := join_ones (d :: r)
    rw [TL.join_eq] at ih ⊢
    show one c ++ "" ++ Str.join "" ((d :: r).map one) = _
    rw [ih]
    refine cps_ext ?_
    show ((#[c] ++ ("" : Str).cps) ++ (d :: r).toArray).toList = _
    have : ("" : Str).cps = #[] := by decide +kernel
    rw [this]
    simp
section
variable {P : Program} {w : World} {K : PySem.W.Frag} {mg : Str → Option Value} {base : Heap}
/-! ### Plan.renamed -/
abbrev NRN : List Str := ["self", "letters", "old", "sign"]
def spQRen (K : PySem.W.Frag) (C Co : Addr) : Sp := fun vs H Q E => ∃ (x : Addr) (z : Str) (v : V), vs = [.ref x, v] ∧ PlanAt K C H x z ∧ z.length ≤ 4000 ∧
  ((∃ d kvs, v = .ref d ∧ H d = some (.dK kvs) ∧ (∀ k u, valV kvs k = some u → flatV u = true) ∧
      (okD z kvs → (∀ c ∈ z.cps.toList, isL c = false → valV kvs (Sum.inr (one c)) = none) ∧ ∀ H' x', Same H H' → PlanAt K C H' x' (mapZ kvs z) → Q (.ref x') H') ∧ (¬ okD z kvs → ∀ H', Same H H' → E (.ref Co) none H')) ∨
   ((∃ t, TyX K H v t ∧ PySem.W.kitOne K t (.type "dict") = some false) ∧ E (.ref Co) none H))
theorem ok_qren {C Cp Co f : Addr} {fd : FuncData} (F : Fun K "renamed" "Plan.renamed" s_Plan_renamed f fd) (T : Top K mg) (TC : Cl_Plan K mg C) (XP : XPln K mg "InvalidPlan" "ValueError.__new__" "ValueError.__init__" [.type "ValueError", .type "Exception", .type "BaseException", .type "object"] Cp) (XCP : XCls K Cp)
    (XO : XPln K mg "InvalidOperation" "ValueError.__new__" "ValueError.__init__" [.type "ValueError", .type "Exception", .type "BaseException", .type "object"] Co) (XC : XCls K Co) : FnOk P w K mg base (L2.CX P w) 6 f fd ["self", "letters"] (spQRen K C Co) := by
  obtain ⟨aL, oL, iL, nL, gL, lL, cL, dL, zL, vL⟩ := T.t_LETTERS
  have hL : ∀ H : Hp, SqT K H aL (LT3.map V.str) := fun H => .inr ⟨oL, iL, nL, lL, cL, dL, zL, vL⟩
  have cf : Cal P w K mg base 5 "_are_for" ["letters", "value"] (spFor K) := (T.d_are_for.cal fun f fd F => ok_for F T).mono (by decide)
  have cq : CalIX P w K mg base C 4 ["self", "text"] (spQInit K C Cp) := by
    obtain ⟨f, fd, m, F, b⟩ := TC.made
    exact ⟨f, fd, m, ok_qinit F T TC XP XCP, b⟩
  refine F.okX sc_Plan_renamed (fun vs H Q E h => ?_) (fun cdv A outer s H vs Q E hr h => ?_)
  · obtain ⟨x, z, v, rfl, _⟩ := h
    rfl
  · obtain ⟨x, z, v, rfl, hP, hz, hv⟩ := h
    have hu := hu_of hr
    refine ⟨_, pss_cut (ps_if (PW.pt (pw_or (pt_not (pt_val (pe_cal cf hr (by rfl) (pa_cons (pe_fld (pv 0) rfl) (pa_cons (pv 1) pa_nil))))) (pw_or1 (pt_not (pt_val (pe_callB (cr_all rfl) (by rfl) T.b_all (by decide +kernel) (pa_cons
            (pe_lc (own := [("old", 2)]) (g := gName 2) (tt := tYes) rfl sc_Plan_renamed.nd (pi_tup (pe_fld (pv 0) rfl)) (blkOk_by (N := NRN) (sc := defScope s_Plan_renamed) (by decide +kernel)) (fun _ _ _ _ _ => pg_name (i := 2) sc_Plan_renamed.nd rfl (.inl rfl)) (fun _ _ _ _ _ => pts_nil)
              (fun _ _ _ _ _ => pe_cmpR (op_inK (K := K) (by exact rfl)) (pe_dget hu (pv 1) (pv 2) (fun _ _ => rfl)) (pe_glob (v := .ref aL) (by rfl) gL rfl) (by rfl))) pa_nil))))))) (pss_one (ps_raise rfl (takes_of rfl rfl rfl rfl) (pmk_P PySem.F.excBase_ValueError XO XC (pa_cons pe_str pa_nil) (by rfl)))) pss_nil)
      (pss_one (ps_ret (pe_makeX (E := fun _ => E0) cq hr (by rfl) TC.gC (fun σ => neverAt σ) (pa_cons (pe_join pe_str (pe_lc (own := [("sign", 3)]) (g := gName 3) (tt := tYes) rfl sc_Plan_renamed.nd (pi_str (pe_fld (pv 0) rfl)) (blkOk_by (N := NRN) (sc := defScope s_Plan_renamed) (by decide +kernel))
          (fun _ _ _ _ _ => pg_name (i := 3) sc_Plan_renamed.nd rfl (.inl rfl)) (fun _ _ _ _ _ => pts_nil) (fun _ _ _ _ _ => pe_dget2 hu (pv 1) (pv 3) (pv 3) (by constructor <;> rfl)))) pa_nil)))), ?_⟩
    obtain ⟨⟨dx, ml, rv, ll, ds, hx, hm, hrd, hl⟩, hpl⟩ := id hP
    have l3 := lets_len z
    rcases hv with ⟨d, kvs, rfl, ed, hfl, qy, qn⟩ | ⟨⟨ty, ht, hk⟩, q⟩
    rotate_left
    · refine ⟨fun _ _ => False, ?_, fun _ _ h => h.elim⟩
      refine ⟨_, rfl, x, C, dx, _, _, rfl, hx, TC.cl, TC.n_letters, qf_letters _ _ _ _, _, rfl, ll, lets z, v, rfl, hl, by omega, .inr ⟨⟨ty, ht, hk⟩, _, rfl, ?_⟩⟩
      show (if true = true then _ else _)
      rw [if_pos rfl]
      show (if true = true then _ else _)
      rw [if_pos rfl]
      exact ⟨by decide, q⟩
    refine ⟨fun σ' G => σ' = [some (.ref x), some (.ref d), none, none] ∧ Same H G ∧ okD z kvs, ?_, ?_⟩
    · refine ⟨_, rfl, x, C, dx, _, _, rfl, hx, TC.cl, TC.n_letters, qf_letters _ _ _ _, _, rfl, ll, lets z, .ref d, rfl, hl, by omega, .inl ⟨d, kvs, rfl, ed, fun H1 s1 => ⟨_, rfl, ?_⟩⟩⟩
      cases b1 : (decide (kvs.length = (lets z).length) && (lets z).all fun l => (valV kvs (Sum.inr l)).isSome) with
      | false =>
        show (if true = true then _ else _)
        rw [if_pos rfl]
        show (if true = true then _ else _)
        rw [if_pos rfl]
        exact ⟨by decide, qn (fun h => by have := (okD_iff.mp h).1; rw [b1] at this; cases this) H1 s1⟩
      | true =>
        show (if (!true) = true then _ else _)
        rw [if_neg (by decide)]
        have hl1 := sqT_st s1 hl
        refine ⟨_, rfl, x, C, dx, _, _, rfl, s1 _ _ hx, TC.cl, TC.n_letters, qf_letters _ _ _ _, ll, rfl, ⟨_, hl1⟩, fun D hD => ?_⟩
        refine lc_it (g := gName 2) (tt := tYes) (vs := [2]) (walk_tup (K := K) (a := ll) (xs := (lets z).map V.str)) (fun j G' => G' D = some (.lst ((((lets z).take j).map (inB kvs)).map V.bl)) ∧ Same H1 G')
          ⟨upd_same, same_new (Same.refl H1) hD⟩ (fun j G' _ h => sqT_st h.2 hl1) (fun j u Gx G' hj h hy => ?_) (fun G' h => ?_)
        · obtain ⟨eD, sm⟩ := h
          obtain ⟨rfl, hu2⟩ := hy
          obtain ⟨l, hll, rfl⟩ := at_texts hu2
          have hs : (valV kvs (Sum.inr l)).isSome = true := by
            rw [Bool.and_eq_true] at b1
            exact List.all_eq_true.mp b1.2 l (List.mem_of_getElem? hll)
          obtain ⟨v1, e1⟩ := Option.isSome_iff_exists.mp hs
          have ei : inB kvs l = inV v1 (LT3.map V.str) := by
            unfold inB
            rw [e1]
          refine ⟨rfl, _, rfl, _, rfl, d, v1, rfl, .inl ⟨kvs, Sum.inr l, .inl (sm _ _ (s1 _ _ ed)), rfl, e1.symm⟩, aL, _, rfl, .inr (hL _), hfl _ _ e1, flat_strs' LT3, _, eD, ?_, ?_, fun b o e => by rw [upd_ne (ne_of_none e hD)]; exact sm b o e⟩
          · rw [List.length_map, List.length_map, List.length_take]
            exact Nat.lt_of_le_of_lt (Nat.le_trans (Nat.min_le_right _ _) l3) (by decide)
          · rw [upd_same, List.take_add_one, hll, List.map_append, List.map_append]
            show _ = some (HO.lst (_ ++ [V.bl (inB kvs l)]))
            rw [ei]
            rfl
        · obtain ⟨eD, sm⟩ := h
          rw [List.length_map, List.take_length] at eD
          refine ⟨D, _, rfl, .inl (.inl eD), _, rfl, ?_⟩
          rw [show (((lets z).map (inB kvs)).all id) = (lets z).all (inB kvs) by rw [List.all_map]; rfl]
          have s2 : Same H G' := fun b o e => sm _ _ (s1 _ _ e)
          cases b2 : (lets z).all (inB kvs) with
          | false =>
            show (if (!false) = true then _ else _)
            rw [if_pos (by decide)]
            exact ⟨by decide, qn (fun h => by have := (okD_iff.mp h).2; rw [b2] at this; cases this) G' s2⟩
          | true =>
            show (if (!true) = true then _ else _)
            rw [if_neg (by decide)]
            exact ⟨rfl, s2, okD_iff.mpr ⟨b1, b2⟩⟩
    rintro σ' G ⟨rfl, s0, hok⟩
    obtain ⟨hno, qy⟩ := qy hok
    have hlz : z.cps.toList.length = z.length := Array.length_toList ..
    have look : ∀ c ∈ z.cps.toList, (valV kvs (Sum.inr (one c))).getD (.str (one c)) = .str (one (lookC kvs c)) ∧ ((isL c = true ∧ isL (lookC kvs c) = true) ∨ (isL c = false ∧ lookC kvs c = c)) := fun c hc => by
      cases hl : isL c with
      | true =>
        obtain ⟨u, e, hi⟩ := hok.2 c (letc_mem.mpr ⟨hl, hc⟩)
        obtain ⟨c', rfl, hc'⟩ := inL_one hi (hfl _ _ e)
        have : lookC kvs c = c' := by
          unfold lookC
          rw [e]
          rfl
        rw [this, e]
        exact ⟨rfl, .inl ⟨rfl, hc'⟩⟩
      | false =>
        have e := hno c hc hl
        have : lookC kvs c = c := by
          unfold lookC
          rw [e]
        rw [this, e]
        exact ⟨rfl, .inr ⟨rfl, rfl⟩⟩
    refine ⟨⟨_, rfl⟩, _, rfl, x, C, dx, _, _, rfl, s0 _ _ hx, TC.cl, TC.n_text, qf_text _ _ _ _, z, rfl, fun D hD => ?_⟩
    refine lc_it (g := gName 3) (tt := tYes) (vs := [3]) (walk_str (z := z)) (fun j G' => G' D = some (.lst ((((z.cps.toList.take j).map (lookC kvs)).map one).map V.str)) ∧ Same G G')
      ⟨upd_same, same_new (Same.refl G) hD⟩ (fun j G' _ h => True.intro) (fun j u Gx G' hj h hy => ?_) (fun G' h => ?_)
    · obtain ⟨eD, sm⟩ := h
      obtain ⟨rfl, c, hc, rfl⟩ := hy
      have hc2 : z.cps.toList[j]? = some c := by rw [Array.getElem?_toList]; exact hc
      have edG := sm _ _ (s0 _ _ ed)
      refine ⟨rfl, _, rfl, d, rfl, .inl ⟨kvs, .inl edG⟩, _, rfl, _, rfl, _, DGet.k (k := Sum.inr (one c)) edG, ?_⟩
      rw [(look c (List.mem_of_getElem? hc2)).1]
      refine ⟨_, eD, ?_, ?_, fun b o e => by rw [upd_ne (ne_of_none e hD)]; exact sm b o e⟩
      · rw [List.length_map, List.length_map, List.length_map, List.length_take]
        have : 10000 ≤ sizeLine := by decide
        omega
      · rw [upd_same, List.take_add_one, hc2, List.map_append, List.map_append, List.map_append]
        rfl
    · obtain ⟨eD, sm⟩ := h
      rw [List.take_of_length_le (by rw [Array.length_toList]; exact Nat.le_refl _)] at eD
      have big : 10000 ≤ sizeLine := by decide
      refine ⟨_, D, (z.cps.toList.map (lookC kvs)).map one, rfl, rfl, .inl (.inl (.inl eD)), ?_, ?_⟩
      · have h1 : (((z.cps.toList.map (lookC kvs)).map one).map (·.length)).sum ≤ z.length := by
          rw [List.map_map, List.map_map]
          have : ∀ l : List Nat, (l.map ((fun x : Str => x.length) ∘ one ∘ lookC kvs)).sum = l.length := fun l => by
            induction l with
            | nil => rfl
            | cons a r ih =>
              rw [List.map_cons, List.sum_cons, ih, List.length_cons]
              show 1 + _ = _
              omega
          have h2 := this z.cps.toList
          rw [← hlz]
          exact Nat.le_of_eq h2
        have h2 : ("" : Str).length = 0 := rfl
        rw [h2]
        omega
      rw [join_ones]
      have hm2 : planB (mapZ kvs z).cps.toList = true := by
        rw [mapZ_cps]
        exact plan_map hpl fun c hc => (look c hc).2
      have hlen : (mapZ kvs z).length ≤ 4500 := by
        have : (mapZ kvs z).length = z.cps.toList.length := by
          show (mapZ kvs z).cps.size = _
          rw [← Array.length_toList, mapZ_cps, List.length_map]
        omega
      refine fun x' dx' nx ndx nxx => ⟨x', dx', .str (mapZ kvs z), rfl, upd_same, .inl ⟨mapZ kvs z, rfl, hlen, fun H' _ hP' keep _ => ⟨rfl, ?_⟩, fun H' h _ => by rw [hm2] at h; cases h⟩⟩
      refine qy H' x' (fun b o e => ?_) hP'
      have e1 := sm _ _ (s0 _ _ e)
      refine keep b o (ne_of_none e1 nx) ?_
      rw [upd_ne (ne_of_none e1 nx), upd_ne (ne_of_none e1 ndx)]
      exact e1
end
end Kl

set_option maxRecDepth 100000
set_option maxHeartbeats 4000000
namespace Gx
open PySem PySem.Spec PyProof.Rows L2 SeqAt Mx
open AutoSeq1 (wpAny_loadPart')
/-! ### a dict is no text; data and dicts in a tuple -/
theorem str_eq_dict (b : Str) (u : Tok) (l : Addr) (dd : Option Addr) (sl : Array (Option Value)) (es : Array DictEntry) (ep : Nat) :
    Meets (Builtin.«str.__eq__» ⟨[.str b u, .ref l], []⟩) (fun _ R s => s.heap.get? l = some { cls := .type "dict", dict := dd, data := .dict es ep, slots := sl } ∧ R (.ok (.ret .notImplemented)) s) :=
  .of_wp fun prog w A R s h => by obtain ⟨hp, g, d, tk, os⟩ := s; obtain ⟨hl, h⟩ := h; wp_walk using wpAny_loadPart' hl, wpAny_load hl; exact ⟨_, rfl, h⟩
theorem dict_eq_str {prog : Program} {w : World} {A : Around} {E : Value → Shared → Prop} {s : Shared} {Q : Value → Shared → Prop} {a : Addr} {b : Str} {u : Tok} (da : s.TypeIs (.ref a) "dict") (h : Q .notImplemented s) :
    wpAny (model prog w) A (call (.builtin "dict.__eq__") [.ref a, .str b u]) Q E s := by
  refine wpAny_call_entry PySem.F.slot_dict_eq da PySem.F.entry_dict_eq ?_ (PySem.F.args_dict_eq_2 _ _)
  show wpAny _ _ (Builtin.Dict.dictSlotArgs "__eq__" ⟨[.ref a, .str b u], []⟩ >>= _) _ _ s
  refine wpAny_bind ?_
  unfold Builtin.Dict.dictSlotArgs
  refine wpAny_bind (wpAny_notOrdered_dict da ?_)
  show wpAny _ _ (pure (Value.ref a, Value.str b u)) _ _ s
  refine wpAny_pure ?_
  refine wpAny_bind (wpAny_isInstance (T := "str") (typeIs_str s b u) PySem.F.sub_str_dict ?_)
  simp only [Bool.not_false, if_true]
  exact wpAny_bind (wpAny_rule (wpAny_bind (wpAny_pure (wpAny_pure ⟨_, rfl, h⟩))))
section
variable {A : Around} {s : Shared}
theorem eqAt_str_dict {l : Addr} {ob : Obj} (b : Str) (u : Tok) (hl : s.heap.get? l = some ob) (hc : ob.cls = .type "dict") {es : Array DictEntry} {ep : Nat} (hde : ob.data = .dict es ep) (hu : A.units < cLine) : EqAt A s (.str b u) (.ref l) false := fun prog w E Q h => by
  unfold eqBool
  refine wpAny_holding ?_
  refine wpAny_ite_split (fun hab => absurd (eq_of_beq hab) nofun) (fun _ => ?_)
  obtain ⟨cls2, dd2, data2, sl2⟩ := ob
  simp only at hc hde
  subst hc hde
  refine wpAny_bind ?_
  exact rc_eq_decline_or (k := false) (typeIs_str s b u) ⟨_, hl, rfl⟩ (by decide) F.sub_dict_str F.slot_str_eq F.slot_dict_eq_refl
    (fun _ hq => call_meets F.slot_str_eq (typeIs_str s b u) F.entry_str_eq (F.args_str_eq_2 _ _) (str_eq_dict b u l dd2 sl2 es ep) ⟨hl, hq⟩)
    (fun _ hq => dict_eq_str ⟨_, hl, rfl⟩ hq)
    (fun _ hq => wpAny_of_eq (rfl : isSame (.str b u) (.ref l) = pure false) hq) (.inr hu) (wpAny_truthy_bool h)
end
section
variable {X : Cx}
theorem vals_mem : ∀ {zs : List Str} {its : List Value} {y : Value}, Vals (zs.map V.str) its → y ∈ its → ∃ z t, y = .str z t
  | [], _, _, .nil, h => nomatch h
  | z :: zs, _, y, .cons r t, h => by
    rcases List.mem_cons.mp h with rfl | h
    · obtain ⟨tk, e⟩ := r
      exact ⟨z, tk, e⟩
    · exact vals_mem t h
/-- x in a tuple of texts: data that are not deep, or a dict -/
def rInTx (K : PySem.W.Frag) : R2 := fun x y H Q => ∃ (p : Addr) (zs : List Str), y = .ref p ∧ SqT K H p (zs.map V.str) ∧ (∀ z ∈ zs, PyData.strOk z = true) ∧
  ((∃ d, Dp K H x d ∧ d.canLay0 = true ∧ d.depth ≤ 10 ∧ Q (.bl ((tD zs).any fun z => PyData.eqv z d)) H) ∨ ∃ a kvs, x = .ref a ∧ H a = some (.dK kvs) ∧ Q (.bl false) H)
theorem op_inTx (hu : X.A.units + 64 < cLine) : OpR X (compareOp .In) (rInTx X.K) := by
  intro pins s σ H x y v u Q I rx ry h
  obtain ⟨p, zs, rfl, hp, ok, h⟩ := h
  rcases h with ⟨d, hd, sd, dp, q⟩ | ⟨a, kvs, rfl, ea, q⟩
  · obtain ⟨as, r1⟩ := Dp.reads I d x v hd rx
    obtain ⟨bs, r2⟩ := Dp.reads I (.tuple (tD zs)) (.ref p) u (.tup hp (dp_texts zs)) ry
    exact SeqAt.in_tuple_reads r2 r1 (canLay_texts zs ok) sd (by omega) ⟨.bl _, H, I, rfl, q⟩
  · cases rx
    cases ry
    obtain ⟨its, rv, pl, hz⟩ := I.tuple hp
    obtain ⟨_, _, vs, _, hd⟩ := dk_of I.hok ea
    obtain ⟨ob, hb, hD⟩ := Heap.dictOf_iff.mp hd
    obtain ⟨es, ep, ex, ed, _⟩ := hD
    have hcb : ob.cls = .type "dict" := ex.1
    refine SeqAt.in_tupleAt (fun _ => false) pl (fun y hy => ?_) ⟨.bl false, H, I, ?_, q⟩
    · rw [List.mem_toArray] at hy
      obtain ⟨z, t, rfl⟩ := vals_mem rv hy
      exact eqAt_str_dict z t hb hcb ed (by show X.A.units + 1 < cLine; omega)
    · show Value.bool _ = Value.bool false
      rw [Array.any_eq_false' |>.mpr (fun _ _ => by simp)]
end
end Gx

set_option maxRecDepth 100000
set_option maxHeartbeats 4000000
namespace Gx
open PySem PySem.Spec PyProof.Rows L2 SeqAt Mx
/-! ### a dict, and an instance, beside a text -/
section
variable {A : Around} {s : Shared}
theorem rc_dict_str {l : Addr} {ob : Obj} (b : Str) (u : Tok) (hl : s.heap.get? l = some ob) (hc : ob.cls = .type "dict") {es : Array DictEntry} {ep : Nat} (hde : ob.data = .dict es ep) (hu : A.units < cLine) : RcAt A s (.ref l) (.str b u) false := fun prog w E Q h => by
  obtain ⟨cls2, dd2, data2, sl2⟩ := ob
  simp only at hc hde
  subst hc hde
  exact rc_eq_decline_or (k := false) ⟨_, hl, rfl⟩ (typeIs_str s b u) (by decide) F.sub_str_dict F.slot_dict_eq F.slot_str_eq_refl
    (fun _ hq => dict_eq_str ⟨_, hl, rfl⟩ hq)
    (fun _ hq => call_meets F.slot_str_eq_refl (typeIs_str s b u) F.entry_str_eq (F.args_str_eq_2 _ _) (str_eq_dict b u l dd2 sl2 es ep) ⟨hl, hq⟩)
    (fun _ hq => wpAny_of_eq (rfl : isSame (.ref l) (.str b u) = pure false) hq) (.inr hu) h
end
section
variable {X : Cx} {C : Addr} {k : Nat} {ps : List Str} {sp : Sp}
def rEqDS : R2 := fun x y H Q => ∃ a kvs z, x = .ref a ∧ y = .str z ∧ H a = some (.dK kvs) ∧ Q (.bl false) H
theorem op_eqDS (hu : X.A.units + 64 < cLine) : OpR X (compareOp .Eq) rEqDS := by
  intro pins s σ H x y v u Q I rx ry h
  obtain ⟨a, kvs, z, rfl, rfl, ea, q⟩ := h
  obtain rfl : v = Value.ref a := rx
  obtain ⟨t, rfl⟩ := (show ∃ t, u = Value.str z t from ry)
  obtain ⟨_, _, vs, _, hd⟩ := dk_of I.hok ea
  obtain ⟨ob, hb, hD⟩ := Heap.dictOf_iff.mp hd
  obtain ⟨es, ep, ex, ed, _⟩ := hD
  exact rc_dict_str z t hb ex.1 ed (by omega) _ _ _ _ ⟨.bl false, H, I, rfl, q⟩
theorem sub_str_own {K : PySem.W.Frag} {C : Addr} : PySem.W.subIn K (.type "str") (.ref C) = some false := by
  have e : fastBuiltinMro "str" = some [.type "str", .type "object"] := by decide +kernel
  show (fastBuiltinMro "str").map (·.contains (.ref C)) = some false
  rw [e]
  first
    | rfl
    | simp
def rEqMS (C : Addr) (sp : Sp) : R2 := fun x y H Q => ∃ a dx fs z, x = .ref a ∧ y = .str z ∧ H a = some (.ins C dx fs) ∧ sp [.ref a, y] H (fun v H' => ∃ b, v = .bl b ∧ Q (.bl b) H') E0
theorem op_eqMS (c : CalM X.prog X.w X.K X.mg X.base C "__eq__" k ps sp) (hr : Room k X.A) : OpR X (compareOp .Eq) (rEqMS C sp) := by
  intro pins s σ H x y v u Q I rx ry h
  obtain ⟨f, fd, F, me, b, _⟩ := c
  obtain ⟨a, dx, fs, z, rfl, rfl, ea, q⟩ := h
  obtain rfl : v = Value.ref a := rx
  obtain ⟨mA, O, _⟩ := ins_get I.hok ea
  obtain ⟨od, J, _⟩ := O.look
  obtain ⟨mm, hF⟩ := I.fr
  have lk : PySem.W.Looks (model X.prog X.w) s.heap (typeOf u) (.type "str") := by
    obtain ⟨t, rfl⟩ := (show ∃ t, u = Value.str z t from ry)
    exact PySem.W.looks_reads (Reads.str z t)
  have nf : PySem.W.notFirst X.K C (.type "str") = true := by simp [PySem.W.notFirst, sub_str_own]
  show wpAny _ _ (richCompare .Eq (.ref a) u) _ _ _
  refine PySem.W.cmp_K (op := .Eq) hr.units0 hF I.ok.mod.kin J lk nf me.at_ me.fn (wpAny_mono (run_below F hr rfl b I (.cons (rel_ref _) (.cons ry .nil)) q) (fun r s' z => ?_) fun _ _ e => e)
  obtain ⟨v', H', I', rv, t, rfl, q'⟩ := z
  cases rv
  exact ⟨.bl t, H', I', rfl, q'⟩
/-- an operator by one of two readings -/
theorem op_two {op : Value → Value → Sem Value} {r1 r2 : R2} (h1 : OpR X op r1) (h2 : OpR X op r2) : OpR X op (fun x y H Q => r1 x y H Q ∨ r2 x y H Q) := fun pins s σ H x y v u Q I rx ry h =>
  h.elim (h1 pins s σ H x y v u Q I rx ry) (h2 pins s σ H x y v u Q I rx ry)
/-- statements that are never reached -/
theorem pss_nv {b : List Stmt} : PSs X b (fun _ _ _ => False) := ⟨fun _ _ _ _ _ _ h => h.elim⟩
end
end Gx

set_option maxRecDepth 100000
set_option maxHeartbeats 4000000
namespace Kl
open PySem PySem.Spec PyProof.Rows L2 Gx Mx
abbrev ofL (l : List Nat) : Str := ⟨l.toArray⟩
theorem ofL_cps (l : List Nat) : (ofL l).cps.toList = l := rfl
theorem ofL_len (l : List Nat) : (ofL l).length = l.length := by
  show l.toArray.size = _
  rw [List.size_toArray]
def Pl.deep : Pl → Nat
  | .lt _ => 0
  | .put p => p.deep + 1
  | .meld p q => max p.deep q.deep + 1
theorem deep_cnt : ∀ p : Pl, p.deep ≤ p.cnt
  | .lt _ => Nat.zero_le _
  | .put p => by
    have := deep_cnt p
    show p.deep + 1 ≤ p.cnt + 1
    omega
  | .meld p q => by
    have h1 := deep_cnt p
    have h2 := deep_cnt q
    show max p.deep q.deep + 1 ≤ p.cnt + q.cnt + 1
    omega
theorem txt_len : ∀ p : Pl, p.txt.length ≤ 1 + 4 * p.cnt
  | .lt _ => Nat.le_refl _
  | .put p => by
    have := txt_len p
    show (p.txt ++ [39]).length ≤ 1 + 4 * (p.cnt + 1)
    rw [List.length_append, List.length_singleton]
    omega
  | .meld p q => by
    have h1 := txt_len p
    have h2 := txt_len q
    show (40 :: (p.txt ++ 43 :: (q.txt ++ [41]))).length ≤ 1 + 4 * (p.cnt + q.cnt + 1)
    rw [List.length_cons, List.length_append, List.length_cons, List.length_append, List.length_singleton]
    omega
/-- a plain plan -/
def PlnV (K : PySem.W.Frag) (H : Hp) : V → Pl → Prop
  | v, .lt c => v = .str (one c)
  | v, .put p => ∃ (t : Addr) (u : V), v = .ref t ∧ SqT K H t [.str "put", u] ∧ PlnV K H u p
  | v, .meld p q => ∃ (t : Addr) (u1 u2 : V), v = .ref t ∧ SqT K H t [.str "meld", u1, u2] ∧ PlnV K H u1 p ∧ PlnV K H u2 q
theorem PlnV.mono {K : PySem.W.Frag} {H H' : Hp} (s : ∀ a xs, SqT K H a xs → SqT K H' a xs) : ∀ (p : Pl) (v : V), PlnV K H v p → PlnV K H' v p
  | .lt c, v, h => by
    unfold PlnV at h ⊢
    exact h
  | .put p, v, h => by
    unfold PlnV at h ⊢
    obtain ⟨t, u, e, h1, h2⟩ := h
    exact ⟨t, u, e, s _ _ h1, PlnV.mono s p u h2⟩
  | .meld p q, v, h => by
    unfold PlnV at h ⊢
    obtain ⟨t, u1, u2, e, h1, h2, h3⟩ := h
    exact ⟨t, u1, u2, e, s _ _ h1, PlnV.mono s p u1 h2, PlnV.mono s q u2 h3⟩
theorem PlnV.same {K : PySem.W.Frag} {H H' : Hp} {v : V} {p : Pl} (h : PlnV K H v p) (s : Same H H') : PlnV K H' v p := PlnV.mono (fun _ _ q => sqT_st s q) p v h
theorem PlnV.sx {K : PySem.W.Frag} {H H' : Hp} {d : Addr} {v : V} {p : Pl} (h : PlnV K H v p) (hd : DiceAt H d) (s : SameX d H H') : PlnV K H' v p := PlnV.mono (fun _ _ q => sqT_sx hd s q) p v h
theorem cps_app (a b : Str) : (a ++ b).cps.toList = a.cps.toList ++ b.cps.toList := by
  show (a.cps ++ b.cps).toList = _
  rw [Array.toList_append]
theorem put_text (p : Pl) : ofL p.txt ++ "'" = ofL (Pl.put p).txt := by
  refine cps_ext ?_
  rw [cps_app, ofL_cps, ofL_cps, show ("'" : Str).cps.toList = [39] by decide +kernel]
  rfl
theorem meld_text (p q : Pl) : (((("(" : Str) ++ ofL p.txt) ++ "+") ++ ofL q.txt) ++ ")" = ofL (Pl.meld p q).txt := by
  refine cps_ext ?_
  rw [cps_app, cps_app, cps_app, cps_app, ofL_cps, ofL_cps, ofL_cps, show ("(" : Str).cps.toList = [40] by decide +kernel, show ("+" : Str).cps.toList = [43] by decide +kernel, show (")" : Str).cps.toList = [41] by decide +kernel]
  simp [Pl.txt]
theorem set_eq_lets {L ys : List Str} {z : Str} (hm : ∀ y, y ∈ ys ↔ y ∈ L) (nd : ys.Nodup) (hs : sortedS ys = true) (hL : ∀ y, y ∈ L ↔ y ∈ lets z) : ys = lets z := by
  have nd3 : (LT3 : List Str).Nodup := by decide +kernel
  have sub : (lets z).Sublist LT3 := by
    rw [lt3_eq]
    exact (List.filter_sublist).map one
  have ndl : (lets z).Nodup := nd3.sublist sub
  have s3 : sortedS LT3 = true := by decide +kernel
  have sl : sortedS (lets z) = true := (sortedS_iff _).mpr (((sortedS_iff _).mp s3).sublist sub)
  exact sortedS_unique ((List.perm_ext_iff_of_nodup nd ndl).mpr fun y => (hm y).trans (hL y)) hs sl
section
variable {P : Program} {w : World} {K : PySem.W.Frag} {mg : Str → Option Value} {base : Heap}
/-! ### _law_plan_text -/
def spPT (K : PySem.W.Frag) (n : Nat) : Sp := fun vs H Q _ => ∃ (v : V) (p : Pl), vs = [v] ∧ PlnV K H v p ∧ p.deep ≤ n ∧ p.txt.length ≤ 4000 ∧ Q (.str (ofL p.txt)) H
theorem isStr_pl {K : PySem.W.Frag} {H : Hp} {v : V} {p : Pl} (h : PlnV K H v p) : ∃ t b, TyX K H v t ∧ PySem.W.kitOne K t (.type "str") = some b ∧ (b = true ↔ ∃ c, p = .lt c) := by
  cases p with
  | lt c =>
    unfold PlnV at h
    subst h
    exact ⟨.type "str", true, .base (.str _), kit_ty (by decide +kernel), ⟨fun _ => ⟨c, rfl⟩, fun _ => rfl⟩⟩
  | put p =>
    unfold PlnV at h
    obtain ⟨t, u, rfl, h1, _⟩ := h
    refine ⟨.type "tuple", false, ?_, kit_ty (by decide +kernel), ⟨nofun, fun ⟨_, e⟩ => by cases e⟩⟩
    rcases h1 with (h | ⟨o, h⟩) | ⟨o, its, n, h, c, _⟩
    · exact .base (.tup h)
    · exact .fTuple h
    · exact .kTuple h c
  | meld p q =>
    unfold PlnV at h
    obtain ⟨t, u, u2, rfl, h1, _⟩ := h
    refine ⟨.type "tuple", false, ?_, kit_ty (by decide +kernel), ⟨nofun, fun ⟨_, e⟩ => by cases e⟩⟩
    rcases h1 with (h | ⟨o, h⟩) | ⟨o, its, n, h, c, _⟩
    · exact .base (.tup h)
    · exact .fTuple h
    · exact .kTuple h c
theorem ok_pt : ∀ (n : Nat) {f : Addr} {fd : FuncData} (F : Fun K "_law_plan_text" "_law_plan_text" s_law_plan_text f fd) (T : Top K mg), FnOk P w K mg base CX0 (n + 1) f fd ["_law_plan"] (spPT K n)
  | 0, f, fd, F, T => by
    refine F.ok sc_law_plan_text (fun vs H Q E h => ?_) (fun cdv A outer s H vs Q E hr h => ?_)
    · obtain ⟨v, p, rfl, _⟩ := h
      rfl
    · obtain ⟨v, p, rfl, hv, hd, hl, q⟩ := h
      refine ⟨_, pss_cons (ps_if (pt_val (pe_callB call_isi (by rfl) T.b_isinstance (by decide +kernel) (pa_cons (pv 0) (pa_cons (pe_bltn (v := .ty "str") (by rfl) T.b_str (by decide +kernel) rfl) pa_nil)))) (pss_one (ps_ret (pv 0))) pss_nil) pss_nv, ?_⟩
      obtain ⟨c, rfl⟩ : ∃ c, p = .lt c := by
        cases p with
        | lt c => exact ⟨c, rfl⟩
        | put p => exact absurd hd (by show ¬ p.deep + 1 ≤ 0; omega)
        | meld p r => exact absurd hd (by show ¬ max p.deep r.deep + 1 ≤ 0; omega)
      have hv0 := hv
      unfold PlnV at hv0
      subst hv0
      refine ⟨_, rfl, _, .ty "str", .type "str", .type "str", true, rfl, .ty _, .base (.str _), kit_ty (by decide +kernel), true, rfl, ?_⟩
      show (if true = true then _ else _)
      rw [if_pos rfl]
      exact ⟨_, rfl, q⟩
  | n + 1, f, fd, F, T => by
    have ct : Cal P w K mg base (n + 1) "_law_plan_text" ["_law_plan"] (spPT K n) := T.d_law_plan_text.cal fun f fd F => ok_pt n F T
    refine F.ok sc_law_plan_text (fun vs H Q E h => ?_) (fun cdv A outer s H vs Q E hr h => ?_)
    · obtain ⟨v, p, rfl, _⟩ := h
      rfl
    · obtain ⟨v, p, rfl, hv, hd, hl, q⟩ := h
      refine ⟨_, pss_cons (ps_if (pt_val (pe_callB call_isi (by rfl) T.b_isinstance (by decide +kernel) (pa_cons (pv 0) (pa_cons (pe_bltn (v := .ty "str") (by rfl) T.b_str (by decide +kernel) rfl) pa_nil)))) (pss_one (ps_ret (pv 0))) pss_nil)
        (pss_cons (ps_if (pt_cmpR op_eq (pe_ix ix_tup (pv 0) pe_int (fun _ _ => rfl)) pe_str (by rfl)) (pss_one (ps_ret (pe_op op_add_str (pe_cal ct hr (by rfl) (pa_cons (pe_ix ix_tup (pv 0) pe_int (fun _ _ => rfl)) pa_nil)) pe_str))) pss_nil)
        (pss_one (ps_ret (pe_op op_add_str (pe_op op_add_str (pe_op op_add_str (pe_op op_add_str pe_str (pe_cal ct hr (by rfl) (pa_cons (pe_ix ix_tup (pv 0) pe_int (fun _ _ => rfl)) pa_nil))) pe_str) (pe_cal ct hr (by rfl) (pa_cons (pe_ix ix_tup (pv 0) pe_int (fun _ _ => rfl)) pa_nil))) pe_str)))), ?_⟩
      cases p with
      | lt c =>
        have hv0 := hv
        unfold PlnV at hv0
        subst hv0
        refine ⟨_, rfl, _, .ty "str", .type "str", .type "str", true, rfl, .ty _, .base (.str _), kit_ty (by decide +kernel), true, rfl, ?_⟩
        show (if true = true then _ else _)
        rw [if_pos rfl]
        exact ⟨_, rfl, q⟩
      | put p =>
        obtain ⟨ty, b, ht, hk, hb⟩ := isStr_pl hv
        have eb : b = false := by
          cases b with
          | false => rfl
          | true => obtain ⟨c, e⟩ := hb.mp rfl; cases e
        subst eb
        have hv0 := hv
        unfold PlnV at hv0
        obtain ⟨t, u, rfl, h1, h2⟩ := hv0
        have hd' : p.deep ≤ n := Nat.le_of_succ_le_succ hd
        have hl' : p.txt.length ≤ 4000 := by
          have : (p.txt ++ [39]).length ≤ 4000 := hl
          rw [List.length_append] at this
          omega
        refine ⟨_, rfl, _, .ty "str", ty, .type "str", false, rfl, .ty _, ht, hk, false, rfl, ?_⟩
        show (if false = true then _ else _)
        rw [if_neg (by decide)]
        refine ⟨_, rfl, t, _, _, .str "put", rfl, rfl, h1, rfl, rfl, _, rfl, ?_⟩
        rw [decide_eq_true rfl]
        show (if true = true then _ else _)
        rw [if_pos rfl]
        refine ⟨_, rfl, t, _, _, u, rfl, rfl, h1, rfl, u, p, rfl, h2, hd', hl', _, _, rfl, rfl, ?_, ?_⟩
        · rw [ofL_len p.txt, show ("'" : Str).length = 1 by decide +kernel]
          have : 10000 ≤ sizeLine := by decide
          omega
        · rw [put_text]
          exact q
      | meld p r =>
        obtain ⟨ty, b, ht, hk, hb⟩ := isStr_pl hv
        have eb : b = false := by
          cases b with
          | false => rfl
          | true => obtain ⟨c, e⟩ := hb.mp rfl; cases e
        subst eb
        have hv0 := hv
        unfold PlnV at hv0
        obtain ⟨t, u, u2, rfl, h1, h2, h3⟩ := hv0
        have hd0 : max p.deep r.deep + 1 ≤ n + 1 := hd
        have hl0 : (40 :: (p.txt ++ 43 :: (r.txt ++ [41]))).length ≤ 4000 := hl
        rw [List.length_cons, List.length_append, List.length_cons, List.length_append, List.length_singleton] at hl0
        have big : 10000 ≤ sizeLine := by decide
        have l1 : ("(" : Str).length = 1 := by decide +kernel
        have l2 : ("+" : Str).length = 1 := by decide +kernel
        have l3 : (")" : Str).length = 1 := by decide +kernel
        refine ⟨_, rfl, _, .ty "str", ty, .type "str", false, rfl, .ty _, ht, hk, false, rfl, ?_⟩
        show (if false = true then _ else _)
        rw [if_neg (by decide)]
        refine ⟨_, rfl, t, _, _, .str "meld", rfl, rfl, h1, rfl, rfl, _, rfl, ?_⟩
        rw [decide_eq_false (fun h => absurd (V.str.inj h) (by decide +kernel) : ¬ V.str "meld" = V.str "put")]
        show (if false = true then _ else _)
        rw [if_neg (by decide)]
        refine ⟨_, rfl, t, _, _, u, rfl, rfl, h1, rfl, u, p, rfl, h2, by omega, by omega, _, _, rfl, rfl, by show ("(" : Str).length + (ofL p.txt).length ≤ sizeLine; rw [ofL_len p.txt, l1]; omega, _, _, rfl, rfl, by show (("(" : Str) ++ ofL p.txt).length + ("+" : Str).length ≤ sizeLine; rw [Str.length_append, ofL_len p.txt, l1, l2]; omega, ?_⟩
        refine ⟨_, rfl, t, _, _, u2, rfl, rfl, h1, rfl, u2, r, rfl, h3, by omega, by omega, _, _, rfl, rfl, by show ((("(" : Str) ++ ofL p.txt) ++ "+").length + (ofL r.txt).length ≤ sizeLine; rw [Str.length_append, Str.length_append, ofL_len p.txt, ofL_len r.txt, l1, l2]; omega, _, _, rfl, rfl, by show (((("(" : Str) ++ ofL p.txt) ++ "+") ++ ofL r.txt).length + (")" : Str).length ≤ sizeLine; rw [Str.length_append, Str.length_append, Str.length_append, ofL_len p.txt, ofL_len r.txt, l1, l2, l3]; omega, ?_⟩
        rw [meld_text]
        exact q
/-! ### _law_drawn_plan -/
def spDPl (K : PySem.W.Frag) (n : Nat) : Sp := fun vs H Q _ => ∃ (d : Addr) (m : Nat), vs = [V.ref d, .int (m : Nat)] ∧ m ≤ n ∧ m ≤ 100 ∧ DiceAt H d ∧ ∀ (v : V) (p : Pl) H', SameX d H H' → DiceAt H' d → p.ok → p.cnt = m → PlnV K H' v p → Q v H'
theorem ok_dpl : ∀ (n : Nat) {f : Addr} {fd : FuncData} (F : Fun K "_law_drawn_plan" "_law_drawn_plan" s_law_drawn_plan f fd) (T : Top K mg), FnOk P w K mg base CX0 (n + 3) f fd ["_law_dice_here", "_law_many"] (spDPl K n)
  | 0, f, fd, F, T => by
    have cp : Cal P w K mg base 2 "_law_pick" ["_law_dice_here", "_law_items"] (spPick K) := T.d_law_pick.cal fun f fd F => ok_pick F T
    refine F.ok sc_law_drawn_plan (fun vs H Q E h => ?_) (fun cdv A outer s H vs Q E hr h => ?_)
    · obtain ⟨d, m, rfl, _⟩ := h
      rfl
    · obtain ⟨d, m, rfl, hm, _, hd, q⟩ := h
      refine ⟨_, pss_cons (ps_if (pt_cmpR op_eq (pv 1) pe_int (nomark _)) (pss_one (ps_ret (pe_cal cp hr (by rfl) (pa_cons (pv 0) (pa_cons (pe_lst (pa_cons pe_str (pa_cons pe_str (pa_cons pe_str (pa_cons pe_str pa_nil))))) pa_nil))))) pss_nil) pss_nv, ?_⟩
      have e0 : m = 0 := by omega
      subst e0
      refine ⟨_, rfl, rfl, _, rfl, ?_⟩
      rw [decide_eq_true (show V.int ((0 : Nat) : Int) = V.int 0 from rfl)]
      show (if true = true then _ else _)
      rw [if_pos rfl]
      refine ⟨_, rfl, by show 4 ≤ sizeLine; decide, fun p np => ?_⟩
      have npd := dice_ne hd np
      refine ⟨d, .ref p, (["A", "A", "B", "C"] : List Str).map V.str, rfl, dice_upd hd npd, .inl ⟨p, rfl, npd, .inl (.inl (.inl upd_same))⟩, by decide, by decide, fun v x b c hv => ?_⟩
      obtain ⟨z, hz, rfl⟩ := List.mem_map.mp hv
      obtain ⟨a1, a2, a3, _⟩ := lits
      obtain ⟨ch, rfl, hch⟩ : ∃ ch, z = one ch ∧ isL ch = true := by
        simp only [List.mem_cons, List.not_mem_nil, or_false] at hz
        rcases hz with rfl | rfl | rfl | rfl
        · exact ⟨65, a1, by decide⟩
        · exact ⟨65, a1, by decide⟩
        · exact ⟨66, a2, by decide⟩
        · exact ⟨67, a3, by decide⟩
      exact q _ (.lt ch) _ (((SameX.refl d H).new np).atd) (dice_new x b c) hch rfl (by unfold PlnV; rfl)
  | n + 1, f, fd, F, T => by
    have cp : Cal P w K mg base (n + 3) "_law_pick" ["_law_dice_here", "_law_items"] (spPick K) := (T.d_law_pick.cal fun f fd F => ok_pick F T).mono (by omega)
    have cr : Cal P w K mg base (n + 3) "_law_roll" ["_law_dice_here", "_law_total"] spRoll := (T.d_law_roll.cal fun f fd F => ok_roll F T).mono (by omega)
    have cd : Cal P w K mg base (n + 3) "_law_drawn_plan" ["_law_dice_here", "_law_many"] (spDPl K n) := T.d_law_drawn_plan.cal fun f fd F => ok_dpl n F T
    refine F.ok sc_law_drawn_plan (fun vs H Q E h => ?_) (fun cdv A outer s H vs Q E hr h => ?_)
    · obtain ⟨d, m, rfl, _⟩ := h
      rfl
    · obtain ⟨d, m, rfl, hm, hm4, hd, q⟩ := h
      refine ⟨_, pss_cons (ps_if (pt_cmpR op_eq (pv 1) pe_int (nomark _)) (pss_one (ps_ret (pe_cal cp hr (by rfl) (pa_cons (pv 0) (pa_cons (pe_lst (pa_cons pe_str (pa_cons pe_str (pa_cons pe_str (pa_cons pe_str pa_nil))))) pa_nil))))) pss_nil)
        (pss_cons (ps_if (pt_cmpR op_eq (pe_cal cr hr (by rfl) (pa_cons (pv 0) (pa_cons pe_int pa_nil))) pe_int (by rfl)) (pss_one (ps_ret (pe_tup (pa_cons pe_str (pa_cons (pe_cal cd hr (by rfl) (pa_cons (pv 0) (pa_cons (pe_op op_sub (pv 1) pe_int) pa_nil))) pa_nil))))) pss_nil)
        (pss_cons (ps_set (i := 2) sc_law_drawn_plan.nd rfl (.inl rfl) (pe_cal cr hr (by rfl) (pa_cons (pv 0) (pa_cons (pv 1) pa_nil))))
        (pss_one (ps_ret (pe_tup (pa_cons pe_str (pa_cons (pe_cal cd hr (by rfl) (pa_cons (pv 0) (pa_cons (pv 2) pa_nil))) (pa_cons (pe_cal cd hr (by rfl) (pa_cons (pv 0) (pa_cons (pe_op op_sub (pe_op op_sub (pv 1) pe_int) (pv 2)) pa_nil))) pa_nil)))))))), ?_⟩
      have big : 10000 ≤ sizeLine := by decide
      refine ⟨_, rfl, rfl, _, rfl, ?_⟩
      by_cases c0 : m = 0
      · subst c0
        rw [decide_eq_true (show V.int ((0 : Nat) : Int) = V.int 0 from rfl)]
        show (if true = true then _ else _)
        rw [if_pos rfl]
        refine ⟨_, rfl, by show 4 ≤ sizeLine; omega, fun p np => ?_⟩
        have npd := dice_ne hd np
        refine ⟨d, .ref p, (["A", "A", "B", "C"] : List Str).map V.str, rfl, dice_upd hd npd, .inl ⟨p, rfl, npd, .inl (.inl (.inl upd_same))⟩, by decide, by decide, fun v x b c hv => ?_⟩
        obtain ⟨z, hz, rfl⟩ := List.mem_map.mp hv
        obtain ⟨a1, a2, a3, _⟩ := lits
        obtain ⟨ch, rfl, hch⟩ : ∃ ch, z = one ch ∧ isL ch = true := by
          simp only [List.mem_cons, List.not_mem_nil, or_false] at hz
          rcases hz with rfl | rfl | rfl | rfl
          · exact ⟨65, a1, by decide⟩
          · exact ⟨65, a1, by decide⟩
          · exact ⟨66, a2, by decide⟩
          · exact ⟨67, a3, by decide⟩
        exact q _ (.lt ch) _ (((SameX.refl d H).new np).atd) (dice_new x b c) hch rfl (by unfold PlnV; rfl)
      rw [decide_eq_false (fun h => c0 (by have := V.int.inj h; omega))]
      show (if false = true then _ else _)
      rw [if_neg (by decide)]
      refine ⟨_, rfl, d, 2, rfl, hd, by decide, by decide, fun r x b c h0 h1 => ⟨rfl, _, rfl, ?_⟩⟩
      have sx1 : SameX d H (upd H d (.lst [.int x, .int b, .int c])) := (SameX.refl d H).atd
      have hd1 : DiceAt (upd H d (.lst [.int x, .int b, .int c])) d := dice_new x b c
      generalize upd H d (.lst [.int x, .int b, .int c]) = H1 at sx1 hd1
      refine ite2 (fun _ => ?_) (fun _ => ?_)
      · refine ⟨_, rfl, _, rfl, _, _, rfl, rfl, d, m - 1, ?_, by omega, by omega, hd1, fun v p H2 sx2 hd2 hp hc hv => ?_⟩
        · show [V.ref d, V.int (((m : Nat) : Int) - 1)] = _
          rw [show ((m : Nat) : Int) - 1 = ((m - 1 : Nat) : Int) by omega]
        · refine ⟨by show 2 ≤ sizeLine; omega, fun t nt => ?_⟩
          have s3 := same_new (o := .tup [V.str "put", v]) (Same.refl H2) nt
          refine q (.ref t) (.put p) _ ((sx1.trans sx2).trans (SameX.of s3)) (dice_sm s3 hd2) hp (by show p.cnt + 1 = m; omega) ?_
          unfold PlnV
          exact ⟨t, v, rfl, .inl (.inl upd_same), hv.same s3⟩
      · refine ⟨_, rfl, _, rfl, d, (m : Nat), rfl, hd1, by omega, log2_small (by omega), fun r x b c h2 h3 => ?_⟩
        obtain ⟨l, rfl⟩ := Int.eq_ofNat_of_zero_le h2
        have sx2 : SameX d H (upd H1 d (.lst [.int x, .int b, .int c])) := sx1.atd
        have hd2 : DiceAt (upd H1 d (.lst [.int x, .int b, .int c])) d := dice_new x b c
        generalize upd H1 d (.lst [.int x, .int b, .int c]) = H2 at sx2 hd2
        have hlm : l < m := by omega
        refine ⟨_, rfl, _, rfl, d, l, rfl, by omega, by omega, hd2, fun v p H3 sx3 hd3 hp hc hv => ?_⟩
        refine ⟨_, rfl, _, rfl, _, _, rfl, rfl, _, rfl, _, _, rfl, rfl, d, m - 1 - l, ?_, by omega, by omega, hd3, fun v2 p2 H4 sx4 hd4 hp2 hc2 hv2 => ?_⟩
        · show [V.ref d, V.int (((m : Nat) : Int) - 1 - ((l : Nat) : Int))] = _
          rw [show ((m : Nat) : Int) - 1 - ((l : Nat) : Int) = ((m - 1 - l : Nat) : Int) by omega]
        · refine ⟨by show 3 ≤ sizeLine; omega, fun t nt => ?_⟩
          have s5 := same_new (o := .tup [V.str "meld", v, v2]) (Same.refl H4) nt
          refine q (.ref t) (.meld p p2) _ (((sx2.trans sx3).trans sx4).trans (SameX.of s5)) (dice_sm s5 hd4) ⟨hp, hp2⟩ (by show p.cnt + p2.cnt + 1 = m; omega) ?_
          unfold PlnV
          exact ⟨t, v, v2, rfl, .inl (.inl upd_same), (hv.sx hd3 sx4).same s5, hv2.same s5⟩
/-! ### _law_letters -/
abbrev NLE : List Str := ["_law_plan", "_law_sign"]
def spLE (K : PySem.W.Frag) : Sp := fun vs H Q _ => ∃ (v : V) (p : Pl), vs = [v] ∧ PlnV K H v p ∧ p.deep ≤ 5 ∧ p.txt.length ≤ 900 ∧ ∀ l H', Same H H' → H' l = some (.lst ((lets (ofL p.txt)).map V.str)) → Q (.ref l) H'
theorem ok_le {f : Addr} {fd : FuncData} (F : Fun K "_law_letters" "_law_letters" s_law_letters f fd) (T : Top K mg) : FnOk P w K mg base CX0 7 f fd ["_law_plan"] (spLE K) := by
  have ct : Cal P w K mg base 6 "_law_plan_text" ["_law_plan"] (spPT K 5) := T.d_law_plan_text.cal fun f fd F => ok_pt 5 F T
  refine F.ok sc_law_letters (fun vs H Q E h => ?_) (fun cdv A outer s H vs Q E hr h => ?_)
  · obtain ⟨v, p, rfl, _⟩ := h
    rfl
  · obtain ⟨v, p, rfl, hv, hd, hl, q⟩ := h
    refine ⟨_, pss_one (ps_ret (pe_callB (cr_sortedX rfl) (by rfl) T.b_sorted (by decide +kernel) (pa_cons (pe_callTy (cr_setX rfl) (by rfl) T.b_set (by decide +kernel) (pa_cons (pe_lc (own := [("_law_sign", 1)]) (g := gName 1) rfl sc_law_letters.nd (pi_str (pe_cal ct hr (by rfl) (pa_cons (pv 0) pa_nil)))
        (blkOk_by (N := NLE) (sc := defScope s_law_letters) (by decide +kernel)) (fun _ _ _ _ _ => pg_name (i := 1) sc_law_letters.nd rfl (.inl rfl)) (fun _ _ _ _ _ => pts_one (pt_cmpR (op_inK (K := K) (by exact rfl)) (pv 1) (pe_tup (pa_cons pe_str (pa_cons pe_str (pa_cons pe_str pa_nil)))) (by rfl))) (fun _ _ _ _ _ => pv 1)) pa_nil)) pa_nil))), ?_⟩
    have big : 10000 ≤ sizeLine := by decide
    refine ⟨_, rfl, v, p, rfl, hv, hd, by omega, ofL p.txt, rfl, fun D hD => ?_⟩
    refine lc_it (g := gName 1) (vs := [1]) (walk_str (z := ofL p.txt)) (fun j G' => G' D = some (.lst ((((p.txt.take j).filter isL).map one).map V.str)) ∧ Same H G')
      ⟨upd_same, same_new (Same.refl H) hD⟩ (fun j G' _ h => True.intro) (fun j u Gx G' hj h hy => ?_) (fun G' h => ?_)
    · obtain ⟨eD, sm⟩ := h
      obtain ⟨rfl, c, hc, rfl⟩ := hy
      have hc2 : p.txt[j]? = some c := by
        rw [← ofL_cps p.txt, Array.getElem?_toList]
        exact hc
      have et : (p.txt.take (j + 1)).filter isL = (p.txt.take j).filter isL ++ (if isL c = true then [c] else []) := by
        rw [List.take_add_one, hc2, List.filter_append]
        congr 1
        show List.filter isL [c] = _
        rw [List.filter_cons, List.filter_nil]
      rw [et]
      refine ⟨rfl, _, rfl, by show 3 ≤ sizeLine; omega, fun t nt => ?_⟩
      have s1 := same_new (o := .tup (LT3.map V.str)) (Same.refl G') nt
      have e1 : (upd G' t (.tup (LT3.map V.str))) t = some (.tup (LT3.map V.str)) := upd_same
      have eD1 : (upd G' t (.tup (LT3.map V.str))) D = _ := s1 _ _ eD
      have sm1 : Same H (upd G' t (.tup (LT3.map V.str))) := fun b o e => s1 _ _ (sm b o e)
      refine ⟨t, LT3.map V.str, rfl, .inr (.inl (.inl e1)), rfl, flat_strs' LT3, _, rfl, ?_⟩
      rw [inV_strs, mem_lt]
      have el : decide (one c = one 65 ∨ one c = one 66 ∨ one c = one 67) = isL c := by
        unfold isL
        rw [decide_eq_decide]
        simp only [one_inj]
      rw [el]
      cases isL c with
      | true =>
        show (if true = true then _ else _)
        rw [if_pos rfl]
        refine ⟨_, rfl, _, eD1, ?_, ?_, fun b o e => by rw [upd_ne (ne_of_none e hD)]; exact sm1 b o e⟩
        · rw [List.length_map, List.length_map]
          have : ((p.txt.take j).filter isL).length ≤ p.txt.length := Nat.le_trans (List.length_filter_le _ _) (by rw [List.length_take]; omega)
          omega
        · rw [upd_same, if_pos rfl, List.map_append, List.map_append]
          rfl
      | false =>
        show (if false = true then _ else _)
        rw [if_neg (by decide), if_neg (by decide), List.append_nil]
        exact ⟨eD1, sm1⟩
    · obtain ⟨eD, sm⟩ := h
      have hsz : (ofL p.txt).cps.size = p.txt.length := List.size_toArray
      rw [hsz, List.take_length] at eD
      have hln : ((p.txt.filter isL).map one).length ≤ 1000 := by
        rw [List.length_map]
        exact Nat.le_trans (List.length_filter_le _ _) (by omega)
      refine ⟨D, _, rfl, .inl (.inl eD), hln, fun a na => ?_⟩
      refine ⟨a, _, rfl, upd_same, hln, fun ys l hs nd hm nl => ?_⟩
      have e : ys = lets (ofL p.txt) := set_eq_lets hm nd hs fun y => by
        unfold lets
        rw [List.mem_map, List.mem_map]
        constructor
        · rintro ⟨c, hc, rfl⟩
          obtain ⟨h1, h2⟩ := List.mem_filter.mp hc
          exact ⟨c, letc_mem.mpr ⟨h2, by rw [ofL_cps]; exact h1⟩, rfl⟩
        · rintro ⟨c, hc, rfl⟩
          obtain ⟨h1, h2⟩ := letc_mem.mp hc
          exact ⟨c, List.mem_filter.mpr ⟨by rw [ofL_cps] at h2; exact h2, h1⟩, rfl⟩
      rw [e]
      exact q l _ (same_new (same_new sm na) nl) upd_same
end
end Kl

set_option maxRecDepth 100000
set_option maxHeartbeats 4000000
namespace Kl
open PySem PySem.Spec PyProof.Rows L2 Gx Mx
/-- one sign of a text, from a place -/
abbrev s1 (z : Str) (a : Nat) : Str := ofL ((z.cps.toList.drop a).take 1)
theorem cut1 (z : Str) (a : Nat) : cutS z (some ((a : Nat) : Int)) (some (((a : Nat) : Int) + 1)) = s1 z a := by
  refine cps_ext ?_
  unfold cutS
  rw [show ((a : Nat) : Int) + 1 = ((a + 1 : Nat) : Int) by omega, HT.sIx_nat, HT.sIx_nat]
  show List.take (min (a + 1) z.length - min a z.length) (z.cps.toList.drop (min a z.length)) = (z.cps.toList.drop a).take 1
  have hl : z.length = z.cps.toList.length := (Array.length_toList ..).symm
  rw [hl]
  by_cases h : a < z.cps.toList.length
  · rw [show min (a + 1) z.cps.toList.length - min a z.cps.toList.length = 1 by omega, Nat.min_eq_left (by omega)]
  · rw [show min (a + 1) z.cps.toList.length - min a z.cps.toList.length = 0 by omega, List.take_zero, List.drop_of_length_le (by omega), List.take_nil]
theorem s1_some {z : Str} {a c : Nat} (h : z.cps.toList[a]? = some c) : s1 z a = one c := by
  refine cps_ext ?_
  show (z.cps.toList.drop a).take 1 = [c]
  obtain ⟨hl, e⟩ := List.getElem?_eq_some_iff.mp h
  rw [List.drop_eq_getElem_cons hl, e]
  rfl
theorem s1_none {z : Str} {a : Nat} (h : z.cps.toList[a]? = none) : s1 z a = "" := by
  refine cps_ext ?_
  show (z.cps.toList.drop a).take 1 = _
  rw [List.drop_of_length_le (List.getElem?_eq_none_iff.mp h)]
  decide +kernel
theorem ne_one (c : Nat) : ("" : Str) ≠ one c := fun h => by
  have := congrArg (fun z : Str => z.cps.toList.length) h
  rw [show ("" : Str).cps.toList.length = 0 by decide +kernel] at this
  cases this
theorem s1_eq (z : Str) (a d : Nat) : decide (V.str (s1 z a) = V.str (one d)) = decide (z.cps.toList[a]? = some d) := by
  rw [decide_eq_decide]
  cases h : z.cps.toList[a]? with
  | none =>
    rw [s1_none h]
    exact ⟨fun e => absurd (V.str.inj e) (ne_one d), nofun⟩
  | some c =>
    rw [s1_some h]
    exact ⟨fun e => by rw [one_inj.mp (V.str.inj e)], fun e => by rw [Option.some.inj e]⟩
theorem s1_lt (z : Str) (a : Nat) : decide (s1 z a ∈ LT3) = ((z.cps.toList[a]?).map isL).getD false := by
  rw [mem_lt]
  cases h : z.cps.toList[a]? with
  | none =>
    rw [s1_none h]
    refine decide_eq_false ?_
    rintro (e | e | e) <;> exact ne_one _ e
  | some c =>
    rw [s1_some h]
    show _ = isL c
    unfold isL
    rw [decide_eq_decide]
    simp only [one_inj]
theorem skip_step (z : List Nat) (e : Nat) : skipP z e = if z[e]? = some 39 then skipP z (e + 1) else e := by
  unfold skipP
  cases h : z[e]? with
  | none =>
    rw [if_neg nofun, List.drop_of_length_le (List.getElem?_eq_none_iff.mp h)]
    rfl
  | some c =>
    obtain ⟨hl, ec⟩ := List.getElem?_eq_some_iff.mp h
    rw [List.drop_eq_getElem_cons hl, ec, List.takeWhile_cons]
    by_cases hc : c = 39
    · subst hc
      rw [if_pos rfl, decide_eq_true rfl, if_pos rfl, List.length_cons]
      omega
    · rw [if_neg (fun q => hc (Option.some.inj q)), decide_eq_false hc, if_neg (by decide)]
      rfl
/-- an end, or none, as the law writes it -/
def opI : Option Nat → Int
  | some e => (e : Nat)
  | none => -1
/-- the end before the signs of a put -/
def endG (n : Nat) (z : List Nat) (a : Nat) : Option Nat := match z[a]? with
  | none => none
  | some c => if isL c = true then some (a + 1) else if c = 40 then (endF n z (a + 1)).bind fun mid => if z[mid]? = some 43 then (endF n z (mid + 1)).bind fun l => if z[l]? = some 41 then some (l + 1) else none else none else none
theorem endF_succ (n : Nat) (z : List Nat) (a : Nat) : endF (n + 1) z a = (endG n z a).map (skipP z) := by
  rw [endF]
  rfl
section
variable {P : Program} {w : World} {K : PySem.W.Frag} {mg : Str → Option Value} {base : Heap}
def spEO (K : PySem.W.Frag) (n : Nat) : Sp := fun vs H Q _ => ∃ (z : Str) (a : Nat), vs = [V.str z, .int (a : Nat)] ∧ z.length < a + n ∧ z.length ≤ 5000 ∧ ∀ H', Same H H' → Q (.int (opI (endF n z.cps.toList a))) H'
theorem ok_eo : ∀ (n : Nat) {f : Addr} {fd : FuncData} (F : Fun K "_law_end_of" "_law_end_of" s_law_end_of f fd) (T : Top K mg), FnOk P w K mg base CX0 (n + 1) f fd ["_law_text", "_law_at"] (spEO K n)
  | 0, f, fd, F, T => by
    refine F.ok sc_law_end_of (fun vs H Q E h => ?_) (fun cdv A outer s H vs Q E hr h => ?_)
    · obtain ⟨z, a, rfl, _⟩ := h
      rfl
    · obtain ⟨z, a, rfl, hn, hz, q⟩ := h
      have big : 100000 ≤ sizeLine := by decide
      refine ⟨_, pss_cons (ps_set (i := 2) sc_law_end_of.nd rfl (.inl rfl) (pe_un un_neg pe_int))
        (pss_cons (ps_if (pt_cmpR (op_inK (K := K) (by exact rfl)) (pe_slice sl_str (pv 0) (po_some (pv 1)) (po_some (pe_op op_add (pv 1) pe_int))) (pe_tup (pa_cons pe_str (pa_cons pe_str (pa_cons pe_str pa_nil)))) (by rfl))
          pss_never
          (pss_one (ps_if (pt_cmpR op_eq (pe_slice sl_str (pv 0) (po_some (pv 1)) (po_some (pe_op op_add (pv 1) pe_int))) pe_str (nomark _)) pss_never pss_nil)))
        (pss_cons (ps_while PassesOwn.never (PW.pt (pw_and (pt_cmpR op_ge (pv 2) pe_int (nomark _)) (pw_and1 (pt_cmpR op_eq (pe_slice sl_str (pv 0) (po_some (pv 2)) (po_some (pe_op op_add (pv 2) pe_int))) pe_str (nomark _)))))
          (pss_one (ps_set (i := 2) sc_law_end_of.nd rfl (.inl rfl) (pe_op op_add (pv 2) pe_int))))
        (pss_one (ps_ret (pv 2))))), ?_⟩
      have hlt : z.cps.toList[a]? = none := List.getElem?_eq_none_iff.mpr (by have hl : z.length = z.cps.toList.length := (Array.length_toList ..).symm; omega)
      obtain ⟨_, _, _, a4, _, _, a7⟩ := lits
      refine ⟨_, rfl, ?_⟩
      refine ⟨_, rfl, _, rfl, _, rfl, _, rfl, _, _, rfl, rfl, _, rfl, z, rfl, by omega, ?_⟩
      rw [cut1]
      refine ⟨by show 3 ≤ sizeLine; omega, fun t nt => ?_⟩
      have sm := same_new (o := .tup (LT3.map V.str)) (Same.refl H) nt
      have e1 : (upd H t (.tup (LT3.map V.str))) t = some (.tup (LT3.map V.str)) := upd_same
      have sm' : Same H (upd H t (.tup (LT3.map V.str))) := sm
      refine ⟨t, LT3.map V.str, rfl, .inr (.inl (.inl e1)), rfl, flat_strs' LT3, _, rfl, ?_⟩
      rw [inV_strs, s1_lt, hlt]
      show (if false = true then _ else _)
      rw [if_neg (by decide)]
      refine ⟨_, rfl, _, rfl, _, rfl, _, rfl, _, _, rfl, rfl, _, rfl, z, rfl, by omega, rfl, _, rfl, ?_⟩
      rw [cut1, a4, s1_eq, hlt]
      show (if false = true then _ else _)
      rw [if_neg (by decide)]
      refine ⟨fun m σ' G' => σ' = [some (.str z), some (.int (a : Nat)), some (.int (-1)), none, none] ∧ G' = (upd H t (.tup (LT3.map V.str))), ⟨0, rfl, rfl⟩, fun m σ' G' hW => ?_⟩
      obtain ⟨rfl, rfl⟩ := hW
      refine ⟨_, rfl, _, _, rfl, rfl, _, rfl, ?_⟩
      rw [decide_eq_false (show ¬ ((-1 : Int) ≥ 0) by decide)]
      show (if false = true then _ else _)
      rw [if_neg (by decide)]
      show (if false = true then _ else _)
      rw [if_neg (by decide)]
      exact ⟨_, rfl, q _ sm⟩
  | n + 1, f, fd, F, T => by
    have ce : Cal P w K mg base (n + 1) "_law_end_of" ["_law_text", "_law_at"] (spEO K n) := T.d_law_end_of.cal fun f fd F => ok_eo n F T
    refine F.ok sc_law_end_of (fun vs H Q E h => ?_) (fun cdv A outer s H vs Q E hr h => ?_)
    · obtain ⟨z, a, rfl, _⟩ := h
      rfl
    · obtain ⟨z, a, rfl, hn, hz, q⟩ := h
      have big : 100000 ≤ sizeLine := by decide
      refine ⟨_, pss_cons (ps_set (i := 2) sc_law_end_of.nd rfl (.inl rfl) (pe_un un_neg pe_int))
        (pss_cut (ps_if (pt_cmpR (op_inK (K := K) (by exact rfl)) (pe_slice sl_str (pv 0) (po_some (pv 1)) (po_some (pe_op op_add (pv 1) pe_int))) (pe_tup (pa_cons pe_str (pa_cons pe_str (pa_cons pe_str pa_nil)))) (by rfl))
          (pss_one (ps_set (i := 2) sc_law_end_of.nd rfl (.inl rfl) (pe_op op_add (pv 1) pe_int)))
          (pss_one (ps_if (pt_cmpR op_eq (pe_slice sl_str (pv 0) (po_some (pv 1)) (po_some (pe_op op_add (pv 1) pe_int))) pe_str (nomark _))
            (pss_cons (ps_set (i := 3) sc_law_end_of.nd rfl (.inl rfl) (pe_cal ce hr (by rfl) (pa_cons (pv 0) (pa_cons (pe_op op_add (pv 1) pe_int) pa_nil))))
            (pss_one (ps_if (PW.pt (pw_and (pt_cmpR op_ge (pv 3) pe_int (nomark _)) (pw_and1 (pt_cmpR op_eq (pe_slice sl_str (pv 0) (po_some (pv 3)) (po_some (pe_op op_add (pv 3) pe_int))) pe_str (nomark _)))))
              (pss_cons (ps_set (i := 4) sc_law_end_of.nd rfl (.inl rfl) (pe_cal ce hr (by rfl) (pa_cons (pv 0) (pa_cons (pe_op op_add (pv 3) pe_int) pa_nil))))
              (pss_one (ps_set (i := 2) sc_law_end_of.nd rfl (.inl rfl) (pe_ifExp (PW.pt (pw_and (pt_cmpR op_ge (pv 4) pe_int (nomark _)) (pw_and1 (pt_cmpR op_eq (pe_slice sl_str (pv 0) (po_some (pv 4)) (po_some (pe_op op_add (pv 4) pe_int))) pe_str (nomark _))))) (pe_op op_add (pv 4) pe_int) (pe_un un_neg pe_int)))))
              pss_nil)))
            pss_nil)))
        (pss_cut (ps_while PassesOwn.never (PW.pt (pw_and (pt_cmpR op_ge (pv 2) pe_int (nomark _)) (pw_and1 (pt_cmpR op_eq (pe_slice sl_str (pv 0) (po_some (pv 2)) (po_some (pe_op op_add (pv 2) pe_int))) pe_str (nomark _)))))
          (pss_one (ps_set (i := 2) sc_law_end_of.nd rfl (.inl rfl) (pe_op op_add (pv 2) pe_int))))
        (pss_one (ps_ret (pv 2))))), ?_⟩
      rw [endF_succ] at q
      obtain ⟨_, _, _, a4, a5, a6, a7⟩ := lits
      have hl : z.length = z.cps.toList.length := (Array.length_toList ..).symm
      refine ⟨_, rfl, ?_⟩
      refine ⟨fun σ' G => ∃ (y3 y4 : Option V), σ' = [some (.str z), some (.int (a : Nat)), some (.int (opI (endG n z.cps.toList a))), y3, y4] ∧ Same H G, ?_, ?_⟩
      · refine ⟨_, rfl, _, rfl, _, rfl, _, rfl, _, _, rfl, rfl, _, rfl, z, rfl, by omega, ?_⟩
        rw [cut1]
        refine ⟨by show 3 ≤ sizeLine; omega, fun t nt => ?_⟩
        have sm := same_new (o := .tup (LT3.map V.str)) (Same.refl H) nt
        have e1 : (upd H t (.tup (LT3.map V.str))) t = some (.tup (LT3.map V.str)) := upd_same
        refine ⟨t, LT3.map V.str, rfl, .inr (.inl (.inl e1)), rfl, flat_strs' LT3, _, rfl, ?_⟩
        rw [inV_strs, s1_lt]
        have pick : ∀ (v : Option Nat), endG n z.cps.toList a = v → ∀ (x : Int) (y3 y4 : Option V) (G : Hp), x = opI v → Same H G → ∃ (y3' y4' : Option V), [some (V.str z), some (V.int (a : Nat)), some (V.int x), y3, y4] = [some (.str z), some (.int (a : Nat)), some (.int (opI (endG n z.cps.toList a))), y3', y4'] ∧ Same H G := fun v e x y3 y4 G ex s => ⟨y3, y4, by rw [e, ex], s⟩
        cases hc : z.cps.toList[a]? with
        | none =>
          have ev : endG n z.cps.toList a = none := by unfold endG; rw [hc]
          show (if false = true then _ else _)
          rw [if_neg (by decide)]
          refine ⟨_, rfl, _, rfl, _, rfl, _, rfl, _, _, rfl, rfl, _, rfl, z, rfl, by omega, rfl, _, rfl, ?_⟩
          rw [cut1, a4, s1_eq, hc]
          show (if false = true then _ else _)
          rw [if_neg (by decide)]
          exact pick none ev _ _ _ _ rfl sm
        | some c =>
          show (if isL c = true then _ else _)
          cases hL : isL c with
          | true =>
            rw [if_pos rfl]
            have ev : endG n z.cps.toList a = some (a + 1) := by unfold endG; rw [hc]; show (if isL c = true then _ else _) = _; rw [hL, if_pos rfl]
            refine ⟨_, rfl, _, _, rfl, rfl, ?_⟩
            exact pick _ ev _ _ _ _ (by show ((a : Nat) : Int) + 1 = ((a + 1 : Nat) : Int); omega) sm
          | false =>
            rw [if_neg (by decide)]
            refine ⟨_, rfl, _, rfl, _, rfl, _, rfl, _, _, rfl, rfl, _, rfl, z, rfl, by omega, rfl, _, rfl, ?_⟩
            rw [cut1, a4, s1_eq, hc]
            by_cases h40 : c = 40
            · subst h40
              rw [decide_eq_true rfl]
              show (if true = true then _ else _)
              rw [if_pos rfl]
              have ev : endG n z.cps.toList a = (endF n z.cps.toList (a + 1)).bind fun mid => if z.cps.toList[mid]? = some 43 then (endF n z.cps.toList (mid + 1)).bind fun l => if z.cps.toList[l]? = some 41 then some (l + 1) else none else none := by
                unfold endG
                rw [hc]
                rfl
              refine ⟨_, rfl, _, rfl, _, _, rfl, rfl, z, a + 1, ?_, by omega, hz, fun G1 s1' => ?_⟩
              · show [V.str z, V.int (((a : Nat) : Int) + 1)] = _
                rw [show ((a : Nat) : Int) + 1 = ((a + 1 : Nat) : Int) by omega]
              have sm1 : Same H G1 := fun b o e => s1' _ _ (sm b o e)
              cases hmid : endF n z.cps.toList (a + 1) with
              | none =>
                rw [hmid] at ev
                refine ⟨_, rfl, _, _, rfl, rfl, _, rfl, ?_⟩
                rw [decide_eq_false (show ¬ (opI none ≥ 0) by decide)]
                show (if false = true then _ else _)
                rw [if_neg (by decide)]
                show (if false = true then _ else _)
                rw [if_neg (by decide)]
                exact pick none ev _ _ _ _ rfl sm1
              | some mid =>
                rw [hmid] at ev
                have ev : endG n z.cps.toList a = if z.cps.toList[mid]? = some 43 then (endF n z.cps.toList (mid + 1)).bind fun l => if z.cps.toList[l]? = some 41 then some (l + 1) else none else none := ev
                obtain ⟨p, _, _, hp⟩ := end_out n hmid
                refine ⟨_, rfl, _, _, rfl, rfl, _, rfl, ?_⟩
                rw [decide_eq_true (show (opI (some mid) ≥ 0) from Int.natCast_nonneg mid)]
                show (if true = true then _ else _)
                rw [if_pos rfl]
                refine ⟨_, rfl, _, rfl, _, rfl, _, rfl, _, _, rfl, rfl, _, rfl, z, rfl, by omega, rfl, _, rfl, ?_⟩
                show (if decide (V.str (cutS z (some ((mid : Nat) : Int)) (some (((mid : Nat) : Int) + 1))) = V.str "+") = true then _ else _)
                rw [cut1, a5, s1_eq]
                by_cases h43 : z.cps.toList[mid]? = some 43
                · rw [if_pos h43] at ev
                  rw [if_pos (decide_eq_true h43)]
                  refine ⟨_, rfl, _, rfl, _, _, rfl, rfl, z, mid + 1, ?_, by omega, hz, fun G2 s2' => ?_⟩
                  · show [V.str z, V.int (((mid : Nat) : Int) + 1)] = _
                    rw [show ((mid : Nat) : Int) + 1 = ((mid + 1 : Nat) : Int) by omega]
                  have sm2 : Same H G2 := fun b o e => s2' _ _ (sm1 b o e)
                  cases hla : endF n z.cps.toList (mid + 1) with
                  | none =>
                    rw [hla] at ev
                    refine ⟨_, rfl, _, _, rfl, rfl, _, rfl, ?_⟩
                    rw [decide_eq_false (show ¬ (opI none ≥ 0) by decide)]
                    show (if false = true then _ else _)
                    rw [if_neg (by decide)]
                    show (if false = true then _ else _)
                    rw [if_neg (by decide)]
                    refine ⟨_, rfl, ?_⟩
                    exact pick none ev _ _ _ _ rfl sm2
                  | some la =>
                    rw [hla] at ev
                    have ev : endG n z.cps.toList a = if z.cps.toList[la]? = some 41 then some (la + 1) else none := ev
                    refine ⟨_, rfl, _, _, rfl, rfl, _, rfl, ?_⟩
                    rw [decide_eq_true (show (opI (some la) ≥ 0) from Int.natCast_nonneg la)]
                    show (if true = true then _ else _)
                    rw [if_pos rfl]
                    refine ⟨_, rfl, _, rfl, _, rfl, _, rfl, _, _, rfl, rfl, _, rfl, z, rfl, by omega, rfl, _, rfl, ?_⟩
                    show (if decide (V.str (cutS z (some ((la : Nat) : Int)) (some (((la : Nat) : Int) + 1))) = V.str ")") = true then _ else _)
                    rw [cut1, a6, s1_eq]
                    by_cases h41 : z.cps.toList[la]? = some 41
                    · rw [if_pos h41] at ev
                      rw [if_pos (decide_eq_true h41)]
                      refine ⟨_, rfl, _, _, rfl, rfl, ?_⟩
                      exact pick _ ev _ _ _ _ (by show ((la : Nat) : Int) + 1 = ((la + 1 : Nat) : Int); omega) sm2
                    · rw [if_neg h41] at ev
                      rw [decide_eq_false h41, if_neg (by decide)]
                      refine ⟨_, rfl, ?_⟩
                      exact pick none ev _ _ _ _ rfl sm2
                · rw [if_neg h43] at ev
                  rw [decide_eq_false h43, if_neg (by decide)]
                  exact pick none ev _ _ _ _ rfl sm1
            · have ev : endG n z.cps.toList a = none := by unfold endG; rw [hc]; show (if isL c = true then _ else if c = 40 then _ else _) = _; rw [hL, if_neg (by decide), if_neg h40]
              rw [decide_eq_false (fun h => h40 (Option.some.inj h))]
              show (if false = true then _ else _)
              rw [if_neg (by decide)]
              exact pick none ev _ _ _ _ rfl sm
      rintro σ' G ⟨y3, y4, rfl, sm⟩
      refine ⟨fun σ' G' => ∃ (y3 y4 : Option V), σ' = [some (.str z), some (.int (a : Nat)), some (.int (opI ((endG n z.cps.toList a).map (skipP z.cps.toList)))), y3, y4] ∧ G = G', ?_, ?_⟩
      · refine ⟨fun m σ' G' => ∃ (e0 : Option Nat), σ' = [some (.str z), some (.int (a : Nat)), some (.int (opI e0)), y3, y4] ∧ G = G' ∧ e0.map (skipP z.cps.toList) = (endG n z.cps.toList a).map (skipP z.cps.toList) ∧ (∀ e, e0 = some e → z.length + 1 - e ≤ m), ⟨z.length + 1, _, rfl, rfl, rfl, fun e _ => by omega⟩, fun m σ' G' hW => ?_⟩
        obtain ⟨e0, rfl, rfl, he, hm⟩ := hW
        rw [← he]
        cases e0 with
        | none =>
          refine ⟨_, rfl, _, _, rfl, rfl, _, rfl, ?_⟩
          rw [decide_eq_false (show ¬ (opI none ≥ 0) by decide)]
          show (if false = true then _ else _)
          rw [if_neg (by decide)]
          show (if false = true then _ else _)
          rw [if_neg (by decide)]
          exact ⟨y3, y4, rfl, rfl⟩
        | some e =>
          refine ⟨_, rfl, _, _, rfl, rfl, _, rfl, ?_⟩
          rw [decide_eq_true (show (opI (some e) ≥ 0) from Int.natCast_nonneg e)]
          show (if true = true then _ else _)
          rw [if_pos rfl]
          refine ⟨_, rfl, _, rfl, _, rfl, _, rfl, _, _, rfl, rfl, _, rfl, z, rfl, by omega, rfl, _, rfl, ?_⟩
          show (if decide (V.str (cutS z (some ((e : Nat) : Int)) (some (((e : Nat) : Int) + 1))) = V.str "'") = true then _ else _)
          rw [cut1, a7, s1_eq]
          have sk := skip_step z.cps.toList e
          by_cases h39 : z.cps.toList[e]? = some 39
          · rw [if_pos h39] at sk
            rw [if_pos (decide_eq_true h39)]
            have hlt : e < z.length := by rw [hl]; exact (List.getElem?_eq_some_iff.mp h39).1
            have hme := hm e rfl
            refine ⟨fun σ' G' => σ' = [some (.str z), some (.int (a : Nat)), some (.int ((e + 1 : Nat) : Int)), y3, y4] ∧ G = G', fun σ' G' h => ⟨m - 1, by omega, some (e + 1), h.1, h.2, ?_, fun e' he' => ?_⟩, ?_⟩
            · show some (skipP _ (e + 1)) = some (skipP _ e)
              rw [sk]
            · cases he'
              omega
            · refine ⟨_, rfl, _, _, rfl, rfl, ?_, rfl⟩
              show [some (V.str z), some (V.int (a : Nat)), some (V.int (((e : Nat) : Int) + 1)), y3, y4] = _
              rw [show ((e : Nat) : Int) + 1 = ((e + 1 : Nat) : Int) by omega]
          · rw [if_neg h39] at sk
            rw [decide_eq_false h39, if_neg (by decide)]
            refine ⟨y3, y4, ?_, rfl⟩
            show _ = [some (.str z), some (.int (a : Nat)), some (.int (opI (some (skipP z.cps.toList e)))), y3, y4]
            rw [sk]
      rintro σ' G' ⟨y3, y4, rfl, rfl⟩
      exact ⟨_, rfl, q _ sm⟩
/-! ### _law_is_plan -/
def spIP (K : PySem.W.Frag) (n : Nat) : Sp := fun vs H Q _ => ∃ (z : Str), vs = [V.str z] ∧ z.length < n ∧ z.length ≤ 5000 ∧ ∀ H', Same H H' → Q (.bl (planB z.cps.toList)) H'
theorem cnt_count (c : Nat) : ∀ l : List Nat, cnt c l = (l.count c : Nat)
  | [] => rfl
  | x :: l => by
    rw [cnt_cons, cnt_count c l, List.count_cons]
    by_cases h : x = c
    · subst h
      rw [if_pos rfl, if_pos (by simp)]
      omega
    · rw [if_neg h, if_neg (by simpa using h)]
      omega
theorem ok_ip {n : Nat} {f : Addr} {fd : FuncData} (F : Fun K "_law_is_plan" "_law_is_plan" s_law_is_plan f fd) (T : Top K mg) : FnOk P w K mg base CX0 (n + 2) f fd ["_law_text"] (spIP K n) := by
  have ce : Cal P w K mg base (n + 1) "_law_end_of" ["_law_text", "_law_at"] (spEO K n) := T.d_law_end_of.cal fun f fd F => ok_eo n F T
  refine F.ok sc_law_is_plan (fun vs H Q E h => ?_) (fun cdv A outer s H vs Q E hr h => ?_)
  · obtain ⟨z, rfl, _⟩ := h
    rfl
  · obtain ⟨z, rfl, hn, hz, q⟩ := h
    have big : 100000 ≤ sizeLine := by decide
    refine ⟨_, pss_one (ps_ret (pe_and (pe_cmpR op_eq (pe_cal ce hr (by rfl) (pa_cons (pv 0) (pa_cons pe_int pa_nil))) (pe_callB call_len_str (by rfl) T.b_len PySem.boot_len (pa_cons (pv 0) pa_nil)) (nomark _))
      (pe_and (pe_cmpR op_ne (pv 0) pe_str (nomark _))
      (pe_one (pe_cmpR op_le (pe_op op_add (pe_m1 PySem.F.slot_str_count PySem.F.type_str_count mt_count (pv 0) pe_str) (pe_m1 PySem.F.slot_str_count PySem.F.type_str_count mt_count (pv 0) pe_str)) pe_int (nomark _)))))), ?_⟩
    obtain ⟨_, _, _, a4, a5, a6, a7⟩ := lits
    have hl : z.length = z.cps.toList.length := (Array.length_toList ..).symm
    refine ⟨_, rfl, z, 0, rfl, by omega, hz, fun H1 s1 => ?_⟩
    have q := q H1 s1
    rw [planB_law] at q
    have ef : decide (endF (z.cps.toList.length + 1) z.cps.toList 0 = some z.cps.toList.length) = decide (opI (endF n z.cps.toList 0) = ((z.length : Nat) : Int)) := by
      rw [decide_eq_decide, end_iff, hl]
      constructor
      · rintro ⟨p, hp, ht⟩
        have e := end_txt p hp n 0 0 z.cps.toList [] (by rw [ht]; simp) nofun (by rw [ht]; omega)
        rw [e, ht, Nat.zero_add]
        rfl
      · intro h
        cases e : endF n z.cps.toList 0 with
        | none =>
          rw [e] at h
          have : (-1 : Int) = _ := h
          omega
        | some m =>
          rw [e] at h
          have : ((m : Nat) : Int) = _ := h
          have hm : m = z.cps.toList.length := by omega
          obtain ⟨p, hp, ht, hq⟩ := end_out n e
          rw [List.drop_zero, hm, List.drop_of_length_le (Nat.le_refl _), List.append_nil] at ht
          exact ⟨p, hp, ht.symm⟩
    rw [ef] at q
    refine ⟨_, rfl, z, rfl, by omega, rfl, _, rfl, ?_⟩
    rw [decI]
    cases h1 : decide (opI (endF n z.cps.toList 0) = ((z.length : Nat) : Int)) with
    | false =>
      rw [h1, Bool.false_and] at q
      rw [if_neg (by decide)]
      exact q
    | true =>
      rw [h1, Bool.true_and] at q
      rw [if_pos rfl]
      refine ⟨_, rfl, rfl, _, rfl, ?_⟩
      have en : decide (z.cps.toList = []) = decide (V.str z = V.str "") := by
        rw [decide_eq_decide]
        constructor
        · intro h
          rw [cps_ext (a := z) (b := "") (by rw [h]; decide +kernel)]
        · intro h
          rw [V.str.inj h]
          decide +kernel
      rw [en] at q
      cases h2 : decide (V.str z = V.str "") with
      | true =>
        rw [h2] at q
        exact q
      | false =>
        rw [h2] at q
        refine ⟨_, rfl, ⟨_, rfl⟩, z, _, rfl, rfl, _, rfl, ⟨_, rfl⟩, z, _, rfl, rfl, _, _, rfl, rfl, _, _, rfl, rfl, ?_⟩
        rw [a7, a5, show Txt.count z (one 39) = _ from Mx.count_cnt z 39, show Txt.count z (one 43) = _ from Mx.count_cnt z 43, cnt_count, cnt_count]
        have e : decide (((z.cps.toList.count 39 : Nat) : Int) + ((z.cps.toList.count 43 : Nat) : Int) ≤ 4) = decide (z.cps.toList.count 39 + z.cps.toList.count 43 ≤ 4) := by
          rw [decide_eq_decide]
          omega
        show Q (.bl (decide (((z.cps.toList.count 39 : Nat) : Int) + ((z.cps.toList.count 43 : Nat) : Int) ≤ 4))) H1
        rw [e]
        exact q
end
end Kl

set_option maxRecDepth 100000
set_option maxHeartbeats 4000000
namespace Kl
open PySem PySem.Spec PyProof.Rows L2 Gx Mx
theorem cut_to (z : Str) (r : Nat) : (cutS z none (some ((r : Nat) : Int))).cps.toList = z.cps.toList.take r := by
  unfold cutS
  rw [HT.sIx_nat, HT.sIx_none, List.drop_zero, Nat.sub_zero]
  show List.take (min r z.length) z.cps.toList = _
  have hl : z.length = z.cps.toList.length := (Array.length_toList ..).symm
  rw [hl]
  by_cases h : r ≤ z.cps.toList.length
  · rw [Nat.min_eq_left h]
  · rw [Nat.min_eq_right (by omega), List.take_length, List.take_of_length_le (by omega)]
theorem cut_from (z : Str) (r : Nat) : (cutS z (some ((r : Nat) : Int)) none).cps.toList = z.cps.toList.drop r := by
  unfold cutS
  rw [HT.sIx_nat, HT.sIx_none]
  show List.take (z.length - min r z.length) (z.cps.toList.drop (min r z.length)) = _
  have hl : z.length = z.cps.toList.length := (Array.length_toList ..).symm
  rw [hl]
  by_cases h : r ≤ z.cps.toList.length
  · rw [Nat.min_eq_left h, List.take_of_length_le (by rw [List.length_drop]; exact Nat.le_refl _)]
  · rw [Nat.min_eq_right (by omega), List.drop_of_length_le (Nat.le_refl _), List.drop_of_length_le (by omega), List.take_nil]
abbrev SGN1 : Str := "CABDa'+() 1"
abbrev SGN2 : List Str := ["''", "(A", "+B)", ""]
theorem sgn_ok : ∀ v ∈ signV SGN1 ++ SGN2.map V.str, ∃ y : Str, v = .str y ∧ y.length ≤ 3 := by
  intro v hv
  rcases List.mem_append.mp hv with h | h
  · obtain ⟨c, _, rfl⟩ := List.mem_map.mp h
    exact ⟨_, rfl, by show 1 ≤ 3; decide⟩
  · obtain ⟨y, hy, rfl⟩ := List.mem_map.mp h
    have : ∀ y ∈ SGN2, y.length ≤ 3 := by decide +kernel
    exact ⟨y, rfl, this y hy⟩
section
variable {P : Program} {w : World} {K : PySem.W.Frag} {mg : Str → Option Value} {base : Heap}
/-! ### _law_bent -/
def spBent : Sp := fun vs H Q _ => ∃ (d : Addr) (z : Str), vs = [V.ref d, V.str z] ∧ DiceAt H d ∧ z.length ≤ 4000 ∧ ∀ (z' : Str) H', z'.length ≤ z.length + 3 → SameX d H H' → DiceAt H' d → Q (.str z') H'
theorem ok_bent {f : Addr} {fd : FuncData} (F : Fun K "_law_bent" "_law_bent" s_law_bent f fd) (T : Top K mg) : FnOk P w K mg base CX0 3 f fd ["_law_dice_here", "_law_text"] spBent := by
  have cr : Cal P w K mg base 2 "_law_roll" ["_law_dice_here", "_law_total"] spRoll := (T.d_law_roll.cal fun f fd F => ok_roll F T).mono (by decide)
  have cp : Cal P w K mg base 2 "_law_pick" ["_law_dice_here", "_law_items"] (spPick K) := T.d_law_pick.cal fun f fd F => ok_pick F T
  refine F.ok sc_law_bent (fun vs H Q E h => ?_) (fun cdv A outer s H vs Q E hr h => ?_)
  · obtain ⟨d, z, rfl, _⟩ := h
    rfl
  · obtain ⟨d, z, rfl, hd, hz, q⟩ := h
    refine ⟨_, pss_cut (ps_par (i := 2) (j := 3) rfl sc_law_bent.nd rfl rfl (by decide) rfl rfl (pa_cons (pe_cal cr hr (by rfl) (pa_cons (pv 0) (pa_cons (pe_op op_add (pe_callB call_len_str (by rfl) T.b_len PySem.boot_len (pa_cons (pv 1) pa_nil)) pe_int) pa_nil)))
        (pa_cons (pe_cal cp hr (by rfl) (pa_cons (pv 0) (pa_cons (pe_op op_cat (pe_callTy (call_list_text rfl) (by rfl) T.b_list (by decide +kernel) (pa_cons pe_str pa_nil)) (pe_lst (pa_cons pe_str (pa_cons pe_str (pa_cons pe_str (pa_cons pe_str pa_nil)))))) pa_nil))) pa_nil)) (by kernel_rfl))
      (pss_one (ps_ret (pe_op op_add_str (pe_op op_add_str (pe_slice sl_str (pv 1) po_none (po_some (pv 2))) (pv 3)) (pe_slice sl_str (pv 1) (po_some (pe_op op_add (pv 2) (pe_cal cr hr (by rfl) (pa_cons (pv 0) (pa_cons pe_int pa_nil))))) po_none)))), ?_⟩
    have big : 100000 ≤ sizeLine := by decide
    have l1 : ((z.length : Nat) : Int) + 1 = ((z.length + 1 : Nat) : Int) := by omega
    refine ⟨fun σ' G => ∃ (at_ : Nat) (y : Str), σ' = [some (.ref d), some (.str z), some (.int (at_ : Nat)), some (.str y)] ∧ y.length ≤ 3 ∧ SameX d H G ∧ DiceAt G d, ?_, ?_⟩
    · refine ⟨_, rfl, _, rfl, z, rfl, by omega, _, _, rfl, rfl, d, _, rfl, hd, by omega, by rw [l1]; exact log2_small (by omega), fun r x b c h0 h1 => ?_⟩
      obtain ⟨k, rfl⟩ := Int.eq_ofNat_of_zero_le h0
      have sx1 : SameX d H (upd H d (.lst [.int x, .int b, .int c])) := (SameX.refl d H).atd
      have hd1 : DiceAt (upd H d (.lst [.int x, .int b, .int c])) d := dice_new x b c
      generalize upd H d (.lst [.int x, .int b, .int c]) = G1 at sx1 hd1
      refine ⟨_, rfl, SGN1, rfl, by decide +kernel, fun p1 np1 => ?_⟩
      have u1 := same_new (o := .lst (signV SGN1)) (Same.refl G1) np1
      have f1 : (upd G1 p1 (.lst (signV SGN1))) p1 = some (.lst (signV SGN1)) := upd_same
      have hd2 := dice_upd (o := .lst (signV SGN1)) hd1 (dice_ne hd1 np1)
      have sx2 : SameX d H (upd G1 p1 (.lst (signV SGN1))) := sx1.new np1
      generalize upd G1 p1 (.lst (signV SGN1)) = G2 at f1 hd2 sx2
      refine ⟨by show 4 ≤ sizeLine; omega, fun p2 np2 => ?_⟩
      have f2 : (upd G2 p2 (.lst (SGN2.map V.str))) p2 = some (.lst (SGN2.map V.str)) := upd_same
      have f1' : (upd G2 p2 (.lst (SGN2.map V.str))) p1 = some (.lst (signV SGN1)) := by rw [upd_ne (ne_of_none f1 np2)]; exact f1
      have hd3 := dice_upd (o := .lst (SGN2.map V.str)) hd2 (dice_ne hd2 np2)
      have sx3 : SameX d H (upd G2 p2 (.lst (SGN2.map V.str))) := sx2.new np2
      refine ⟨p1, p2, _, _, rfl, rfl, f1', f2, by show 15 ≤ sizeLine; omega, fun p3 np3 => ?_⟩
      have np3d := dice_ne hd3 np3
      have hd4 := dice_upd (o := .lst (signV SGN1 ++ SGN2.map V.str)) hd3 np3d
      have sx4 := sx3.new (o := .lst (signV SGN1 ++ SGN2.map V.str)) np3
      refine ⟨d, .ref p3, signV SGN1 ++ SGN2.map V.str, rfl, hd4, .inl ⟨p3, rfl, np3d, .inl (.inl (.inl upd_same))⟩, ?_, by show 15 ≤ 100000; decide, fun v x b c hv => ?_⟩
      · intro h
        have := congrArg List.length h
        rw [List.length_append] at this
        exact absurd this (by show ¬ (_ + 4 = 0); omega)
      obtain ⟨y, rfl, hy⟩ := sgn_ok v hv
      exact ⟨_, _, rfl, k, y, rfl, hy, sx4.atd, dice_new x b c⟩
    · rintro σ' G ⟨at_, y, rfl, hy, sx, hdG⟩
      have lt : (cutS z none (some ((at_ : Nat) : Int))).length ≤ min at_ z.length := by
        show (cutS z none (some ((at_ : Nat) : Int))).cps.size ≤ min at_ z.cps.size
        rw [← Array.length_toList, cut_to, ← Array.length_toList, List.length_take]
        omega
      have lf : ∀ k : Nat, (cutS z (some ((k : Nat) : Int)) none).length ≤ z.length - k := fun k => by
        show (cutS z (some ((k : Nat) : Int)) none).cps.size ≤ z.cps.size - k
        rw [← Array.length_toList, cut_from, ← Array.length_toList, List.length_drop]
        omega
      refine ⟨_, rfl, _, rfl, _, rfl, z, rfl, by omega, _, rfl, _, _, rfl, rfl, by omega, _, rfl, _, rfl, _, rfl, d, 2, rfl, hdG, by decide, by decide, fun r x b c h0 h1 => ?_⟩
      obtain ⟨k, rfl⟩ := Int.eq_ofNat_of_zero_le h0
      have lf1 := lf (at_ + k)
      have e : ((at_ : Nat) : Int) + ((k : Nat) : Int) = ((at_ + k : Nat) : Int) := by omega
      refine ⟨_, _, rfl, rfl, _, rfl, z, rfl, by omega, _, _, rfl, rfl, ?_, ?_⟩
      · rw [e, Str.length_append]
        omega
      · refine q _ _ ?_ sx.atd (dice_new x b c)
        rw [e, Str.length_append, Str.length_append]
        omega
end
end Kl

set_option maxRecDepth 100000
set_option maxHeartbeats 4000000
/-! several clauses, some with a name for the error (one name for all), some without -/
namespace Gx
open PySem PySem.Spec PyProof.Rows L2
/-- what the clauses (all of one name, slot i) wish of an error of the body -/
def wMX (K : PySem.W.Frag) (i : Nat) (Wo : WX) (D : Ends) : List (Value × Bool × (Addr → Value → Option Addr → TS)) → WX
  | [] => Wo
  | (c, true, ts) :: r => fun ec ed σ H => ∃ b, PySem.W.exmOne K ec c = some b ∧ (b = true → ∀ ea, H ea = none → ts ea ec ed { nx := fun σ1 H1 => D.nx (σ1.set i none) H1, rt := D.rt, bk := fun σ1 H1 => D.bk (σ1.set i none) H1, ct := fun σ1 H1 => D.ct (σ1.set i none) H1 } (σ.set i (some (.ref ea))) H) ∧ (b = false → wMX K i Wo D r ec ed σ H)
  | (c, false, ts) :: r => fun ec ed σ H => ∃ b, PySem.W.exmOne K ec c = some b ∧ (b = true → ∀ ea, H ea = none → ts ea ec ed D σ H) ∧ (b = false → wMX K i Wo D r ec ed σ H)
inductive HdsX (X : Cx) (n : Str) : List ExceptHandler → List (Value × Bool × (Addr → Value → Option Addr → TS)) → Prop
  | nil : HdsX X n [] []
  | asn {x : Str} {c : Value} {ts : Addr → Value → Option Addr → TS} {b₀ : Stmt} {bs : List Stmt} {np ps : Pos} {hds : List ExceptHandler} {l : List (Value × Bool × (Addr → Value → Option Addr → TS))} (nm : Names X x c)
      (su : ∀ (ea : Addr) (eo : Obj) (ec : Value) (ed : Option Addr) (pn : List (Addr × Obj)), Zc ec ed eo → (∃ vs, eo.data = .fields vs) → PSs (X.suite ea ((ea, eo) :: pn)) (b₀ :: bs) (ts ea ec ed)) (r : HdsX X n hds l) :
      HdsX X n (.ExceptHandler (some (.Name x np)) (some n) (b₀ :: bs) ps :: hds) ((c, true, ts) :: l)
  | bare {x : Str} {c : Value} {ts : Addr → Value → Option Addr → TS} {b₀ : Stmt} {bs : List Stmt} {np ps : Pos} {hds : List ExceptHandler} {l : List (Value × Bool × (Addr → Value → Option Addr → TS))} (nm : Names X x c)
      (su : ∀ (ea : Addr) (eo : Obj) (ec : Value) (ed : Option Addr) (pn : List (Addr × Obj)), Zc ec ed eo → (∃ vs, eo.data = .fields vs) → PSs (X.suite ea ((ea, eo) :: pn)) (b₀ :: bs) (ts ea ec ed)) (r : HdsX X n hds l) :
      HdsX X n (.ExceptHandler (some (.Name x np)) none (b₀ :: bs) ps :: hds) ((c, false, ts) :: l)
section
variable {X : Cx} {n : Str} {i : Nat} {body : List Stmt} {h0 : ExceptHandler} {hds : List ExceptHandler} {l : List (Value × Bool × (Addr → Value → Option Addr → TS))} {pos : Pos} {tb : WX → TS} {Wo : WX}
theorem ps_try_mx (st : X.stack = X.env :: X.outer) (fr : X.env.frame = some X.env.locals) (nd : X.N.Nodup) (at_ : X.N[i]? = some n) (kl : X.env.kindOf n = some .local) (tk : Takes X Wo)
    (hb : ∀ (W : WX) (pn : List (Addr × Obj)) (xe : Value → Shared → Prop), Takes (X.tr pn xe) W → PassesOwn (model X.prog X.w) X.A X.env xe → PSs (X.tr pn xe) body (tb W))
    (hh : HdsX X n (h0 :: hds) l) : PS X (.Try body (h0 :: hds) [] [] pos) (fun D σ H => tb (wMX X.K i Wo D l) D σ H) := by
  refine ⟨fun pn0 s σ H D I0 wish => ?_⟩
  have okX := I0.ok
  have frs0 : X.A.frames = some (X.env :: X.outer) := by rw [okX.frames, st]
  have lc : Loc X.env.scope n := .inl kl
  refine wpAny_Try_except ?_
  refine wpAny_mono ((hb (wMX X.K i Wo D l) (X.pn ++ pn0) (fun e sa => wpAny (model X.prog X.w) X.A (noteFrame e X.env) (fun _ sb => wpAny (model X.prog X.w) X.A (setFlight e none) (fun _ sc =>
    wpAny (model X.prog X.w) X.A (handleBy e X.env (h0 :: hds)) (SP X pn0 D) X.xe sc) X.xe sb) X.xe sa) (fun u sz fly => ?_) PassesOwn.looking).run [] s σ H D (I0.toTry _) wish) (fun fl sz got => ?_) (fun _ _ z => z)
  · obtain ⟨ea, gb, si, pn1, σ1, H1, ec, ed, rfl, J0, nb, up, sky, na, eos, bare, w⟩ := fly
    have J1 : Inv X pn0 σ1 H1 si := J0.ofTry okX
    have sky1 : Sky gb (X.env :: X.outer) ea (Zc ec ed) X.env.locals sz.heap := by rw [← st]; exact sky
    show wpAny (model X.prog X.w) X.A (noteFrame (.ref ea) X.env) _ _ _
    refine Sky.land Zc.steady frs0 fr sky1 fun ha fa upa => ?_
    have Ja : Inv X pn0 σ1 H1 { sz with heap := ha } := J1.landed nb fa.1 (up.trans upa) eos bare
    obtain ⟨eo, ev, there, ze, de⟩ := fa.there
    have noFrame : ∀ {h : Heap} {o : Obj} {vs : Array Value}, h.FunFrames gb (X.env :: X.outer) → h.get? ea = some o → o.data = .fields vs → ea ∉ frs (X.env :: X.outer) := fun {h o vs} ff e dd hm => by
      obtain ⟨_, o1, e1, z⟩ := ff.mem hm
      rw [e] at e1
      cases e1
      exact z _ dd
    have nf := noFrame fa.2.2.1 there de
    have nL : ea ≠ X.env.locals := fun z => nf (List.mem_filterMap.mpr ⟨X.env, List.mem_cons_self, by rw [fr, z]⟩)
    have nF : ea ∉ X.fs := fun hm => by
      obtain ⟨e1, m1, q1⟩ := List.mem_filterMap.mp hm
      exact nf (List.mem_filterMap.mpr ⟨e1, List.mem_cons_of_mem _ m1, q1⟩)
    have Sa := Ja.suite there de na nL nF
    have each : ∀ {hs1 : List ExceptHandler} {l1 : List (Value × Bool × (Addr → Value → Option Addr → TS))}, HdsX X n hs1 l1 → wMX X.K i Wo D l1 ec ed σ1 H1 →
        wpAny (model X.prog X.w) X.A (handleBy (.ref ea) X.env hs1) (SP X pn0 D) X.xe { sz with heap := ha } := by
      intro hs1 l1 hk
      induction hk with
      | nil =>
        intro w1
        refine wpAny_handleBy_nil ?_
        obtain ⟨_, _, _, oe, vs, T, oT, ts1, he, hz, hd, h1, hr⟩ := id fa
        unfold PySem.passOn
        refine wpAny_bind (wpAny_field he hd h1 ?_)
        rw [if_neg (by simp : ¬ ((Value.ref T == Value.none) = true))]
        have on : wpAny (model X.prog X.w) X.A (setFlight (.ref ea) X.env.frame) (fun _ sd => wpAny (model X.prog X.w) X.A (throw (.ref ea) : Sem Flow) (SP X pn0 D) X.xe sd) X.xe { sz with heap := ha } := by
          rw [fr]
          refine HandSPX.setFlight_upZ fa fun hc fc upc => wpAny_throw (tk _ _ ?_)
          exact ⟨ea, gb, si, pn0, σ1, H1, ec, ed, rfl, J1, nb, (up.trans upa).trans upc, .inr (.inr (by rw [st]; exact fc)), na, eos, bare, w1⟩
        first | exact wpAny_bind (wpAny_pure (wpAny_bind on)) | exact wpAny_bind on
      | @asn x c ts b₀ bs np ps hds2 l2 nm su r ih =>
        intro w1
        obtain ⟨b, eb, yes, no⟩ := w1
        refine wpAny_handleBy_cons (codeAny_handlers_test ?_) (by intro q; cases q)
        have ty : PySem.W.Looks (model X.prog X.w) ha (typeOf (.ref ea)) ec := fun A Q E s k q => wpAny_typeOf_ref (k _ _ there) (by rw [ze.1]; exact q)
        have fits := PySem.W.exm_one (M := model X.prog X.w) (Ja.kIn) ty eb
        have named : ∀ {Q : Value → Shared → Prop} {E : Value → Shared → Prop}, Q c { sz with heap := ha } → wpAny (model X.prog X.w) (X.A.mark (some (.ref ea))) (eval (.Name x np) X.env) Q E { sz with heap := ha } := fun {Q E} q => by
          obtain ⟨g1, g2, m1 | ⟨m1, m2, m3⟩⟩ := nm
          · exact ld_glob (X := X.suite ea ((ea, eo) :: (X.pn ++ pn0))) Sa g1 m1 q g2
          · exact ld_blt (X := X.suite ea ((ea, eo) :: (X.pn ++ pn0))) Sa g1 m1 m2 q m3 g2
        refine named (fits.here ?_)
        cases b with
        | false =>
          show wpAny _ X.A (handleBy (.ref ea) X.env hds2) _ _ _
          exact ih (no rfl)
        | true =>
          refine codeAny_handlers_suite_as ?_
          refine HandSPX.lands_againZ fa fun hc fc upc => ?_
          have Jc : Inv X pn0 σ1 H1 { sz with heap := hc } := J1.landed nb fc.1 ((up.trans upa).trans upc) eos bare
          obtain ⟨eo2, ev2, there2, ze2, de2⟩ := fc.there
          have Sc := Jc.suite there2 de2 na nL nF
          refine store_ok (X := X.suite ea ((ea, eo2) :: (X.pn ++ pn0))) (v := .ref ea) Sc nd at_ lc rfl (fun se Se => ?_) (.inr kl)
          refine wpAny_mono ((su ea eo2 ec ed (X.pn ++ pn0) ze2 ⟨_, de2⟩).run [] se _ H1 _ Se (yes rfl ea na)) (fun fl sg got => ?_) (fun _ _ z => False.elim z)
          have gone : ∀ {σ6 : L2.St} {H6 : Hp} {Q : Shared → Prop}, Inv (X.suite ea ((ea, eo2) :: (X.pn ++ pn0))) [] σ6 H6 sg → (∀ s7, Inv X pn0 (σ6.set i none) H6 s7 → Q s7) →
              wpAny (model X.prog X.w) X.A (do bindName X.env n .none; unbindBehindTheSuite X.env n ps) (fun _ s7 => Q s7) X.xe sg := fun {σ6 H6 Q} S6 hq => gone_ok (S6.unsuite okX) nd at_ kl hq
          cases fl with
          | ret u =>
            obtain ⟨v6, σ6, H6, S6, r6, q6⟩ := got
            exact gone S6 fun _ J7 => ⟨_, _, _, J7, r6, q6⟩
          | next =>
            obtain ⟨σ6, H6, S6, q6⟩ := got
            exact gone S6 fun _ J7 => ⟨_, _, J7, q6⟩
          | brk =>
            obtain ⟨σ6, H6, S6, q6⟩ := got
            exact gone S6 fun _ J7 => ⟨_, _, J7, q6⟩
          | cont =>
            obtain ⟨σ6, H6, S6, q6⟩ := got
            exact gone S6 fun _ J7 => ⟨_, _, J7, q6⟩
      | @bare x c ts b₀ bs np ps hds2 l2 nm su r ih =>
        intro w1
        obtain ⟨b, eb, yes, no⟩ := w1
        refine wpAny_handleBy_cons (codeAny_handlers_test ?_) (by intro q; cases q)
        have ty : PySem.W.Looks (model X.prog X.w) ha (typeOf (.ref ea)) ec := fun A Q E s k q => wpAny_typeOf_ref (k _ _ there) (by rw [ze.1]; exact q)
        have fits := PySem.W.exm_one (M := model X.prog X.w) (Ja.kIn) ty eb
        have named : ∀ {Q : Value → Shared → Prop} {E : Value → Shared → Prop}, Q c { sz with heap := ha } → wpAny (model X.prog X.w) (X.A.mark (some (.ref ea))) (eval (.Name x np) X.env) Q E { sz with heap := ha } := fun {Q E} q => by
          obtain ⟨g1, g2, m1 | ⟨m1, m2, m3⟩⟩ := nm
          · exact ld_glob (X := X.suite ea ((ea, eo) :: (X.pn ++ pn0))) Sa g1 m1 q g2
          · exact ld_blt (X := X.suite ea ((ea, eo) :: (X.pn ++ pn0))) Sa g1 m1 m2 q m3 g2
        refine named (fits.here ?_)
        cases b with
        | false =>
          show wpAny _ X.A (handleBy (.ref ea) X.env hds2) _ _ _
          exact ih (no rfl)
        | true =>
          refine codeAny_handlers_suite ?_
          refine HandSPX.lands_againZ fa fun hc fc upc => ?_
          have Jc : Inv X pn0 σ1 H1 { sz with heap := hc } := J1.landed nb fc.1 ((up.trans upa).trans upc) eos bare
          obtain ⟨eo2, ev2, there2, ze2, de2⟩ := fc.there
          have Sc := Jc.suite there2 de2 na nL nF
          refine wpAny_mono ((su ea eo2 ec ed (X.pn ++ pn0) ze2 ⟨_, de2⟩).run [] _ _ H1 _ Sc (yes rfl ea na)) (fun fl sg got => ?_) (fun _ _ z => False.elim z)
          cases fl with
          | ret u =>
            obtain ⟨v6, σ6, H6, S6, r6, q6⟩ := got
            exact ⟨_, _, _, S6.unsuite okX, r6, q6⟩
          | next =>
            obtain ⟨σ6, H6, S6, q6⟩ := got
            exact ⟨_, _, S6.unsuite okX, q6⟩
          | brk =>
            obtain ⟨σ6, H6, S6, q6⟩ := got
            exact ⟨_, _, S6.unsuite okX, q6⟩
          | cont =>
            obtain ⟨σ6, H6, S6, q6⟩ := got
            exact ⟨_, _, S6.unsuite okX, q6⟩
    exact each hh w
  · cases fl with
    | ret u =>
      obtain ⟨v, σ1, H1, J1, r, q⟩ := got
      exact ⟨v, σ1, H1, J1.ofTry okX, r, q⟩
    | next =>
      obtain ⟨σ1, H1, J1, q⟩ := got
      exact wpAny_execs_nil ⟨σ1, H1, J1.ofTry okX, q⟩
    | brk =>
      obtain ⟨σ1, H1, J1, q⟩ := got
      exact ⟨σ1, H1, J1.ofTry okX, q⟩
    | cont =>
      obtain ⟨σ1, H1, J1, q⟩ := got
      exact ⟨σ1, H1, J1.ofTry okX, q⟩
end
end Gx

set_option maxRecDepth 100000
set_option maxHeartbeats 4000000
namespace Kl
open PySem PySem.Spec PyProof.Rows L2 Gx Mx LamX
abbrev XPlnV (K : PySem.W.Frag) (mg : Str → Option Value) (n : Str) (C : Addr) : Prop := XPln K mg n "ValueError.__new__" "ValueError.__init__" [.type "ValueError", .type "Exception", .type "BaseException", .type "object"] C
/-- what the lambdas of k77 ask of the errors -/
structure Ers (K : PySem.W.Frag) (mg : Str → Option Value) (Cp Co : Addr) : Prop where
  XP : XPlnV K mg "InvalidPlan" Cp
  CP : XCls K Cp
  ep : PySem.W.exmOne K (.ref Cp) (.ref Cp) = some true
  XO : XPlnV K mg "InvalidOperation" Co
  CO : XCls K Co
  eo : PySem.W.exmOne K (.ref Co) (.ref Co) = some true
  op : PySem.W.exmOne K (.ref Co) (.ref Cp) = some false
/-- an error is caught with as many slots as there are names -/
theorem takes_len {X : Cx} {W : WX} (tk : Takes X W) : Takes X (fun cls d σ H => σ.length = X.N.length → W cls d σ H) := fun u s' h => by
  obtain ⟨a, B, si, p1, σ1, H1, ec, ed, e, J, nb, up, sky, na, os, bare, w⟩ := h
  exact tk u s' ⟨a, B, si, p1, σ1, H1, ec, ed, e, J, nb, up, sky, na, os, bare, w J.len⟩
/-- what it makes of the reading of the lambda -/
def TSaid (Cp Co : Addr) : (XK → Hp → VK → Prop) → Hp → VK → Prop := fun tl H Q =>
  tl (fun cls d H' => (cls = .ref Cp ∧ Q (.str "plan") H') ∨ (cls = .ref Co ∧ Q (.str "operation") H')) H fun _ H' => Q (.str "fine") H'
theorem said_gives {X : Cx} {Cp Co g : Addr} {cdg : Value} {q : Str} (T : Top X.K X.mg) (R : Ers X.K X.mg Cp Co) :
    GivesTo X ["_law_call"] "_law_said" (defScope s_law_said) g cdg (defBody s_law_said) "_law_call" q (TSaid Cp Co) := by
  intro f c' s H Q tl act hc h
  refine ⟨_, pss_cons (ps_try_many (X := (cxOf C8.CX0 X.prog X.w X.K X.mg X.base ["_law_call"] "_law_said" (defScope s_law_said) g cdg X.A X.stack s H C8.E0).nox)
      (tb := fun W D σ H => ∃ Ech : XK, (∀ cls d σ' H', Ech cls d H' → σ'.length = 1 → W cls d σ' H') ∧ σ[0]? = some (some (.ref f)) ∧ H c' = some (CodeO c' q) ∧ tl Ech H fun _ H' => D.nx σ H')
      rfl rfl takes_none5 (fun W pn xe tk _ => ?_)
      (.cons (c := .ref Cp) ⟨by rfl, by decide, .inl R.XP.gC⟩ (fun a oe cls d pn hz hf => pss_one (ps_ret pe_str))
        (.cons (c := .ref Co) ⟨by rfl, by decide, .inl R.XO.gC⟩ (fun a oe cls d pn hz hf => pss_one (ps_ret pe_str)) .nil))) (pss_one (ps_ret pe_str)), ?_⟩
  · refine ⟨fun pins s' σ H' D I h' => ?_⟩
    obtain ⟨Ech, hW, h1, h2, h3⟩ := h'
    exact (pss_one (ps_expr (act _ pn xe Ech _ _ (takes_len tk) hW))).run pins s' σ H' D I ⟨h1, h2, h3⟩
  · refine ⟨_, fun cls d σ' H' he hl => ?_, rfl, hc, h⟩
    obtain ⟨v0, rfl⟩ : ∃ v0, σ' = [v0] := by
      match σ', hl with
      | [v0], _ => exact ⟨v0, rfl⟩
    rcases he with ⟨rfl, hq⟩ | ⟨rfl, hq⟩
    · exact ⟨true, R.ep, fun _ ea na => hq, fun h => by cases h⟩
    · exact ⟨false, R.op, (fun h => by cases h), fun _ => ⟨true, R.eo, fun _ ea na => hq, fun h => by cases h⟩⟩
section
variable {X : Cx}
/-- _law_said(lambda: body) -/
theorem pe_said {Tb : List (Addr × Str)} {c P Cp Co : Addr} {k : Nat} {params : Arguments} {body : Expr} {scope : Scope} {t : XK → TE} {p lpos pos : Pos} (T : Top X.K X.mg) (R : Ers X.K X.mg Cp Co) (hgl : Gl X "_law_said") (hr : Room (k + 2) X.A)
    (TB : TabB X.base X.mg c P) (hcode : X.env.code = .ref c) (hmT : (P, X.env.qual ++ "<lambda>") ∈ Tb) (hu : ∀ p ∈ Tb, p.1 = P → p.2 = X.env.qual ++ "<lambda>") (L : LamS X.env.scope scope) (hdef : defaultsOf params X.env = ([], []))
    (hbind : ∀ (q : Str) (cl : List (Str × Addr)) (pm cv ctv : Value), bindArgs (PySem.W.kla_fn "<lambda>" q params body scope cl pm cv ctv) ⟨[], []⟩ = pure [])
    (hbody : ∀ (A : Around) (outer : List Env) (s : Shared) (H : Hp) (E : XK) (f c' : Addr), Room k (A.deeper (lamEnv X scope s.heap.objs.size f c')) → PE (lamCx X A outer s H E scope f c') body (t E)) :
    PE X (.Call (.Name "_law_said" p) [.Lambda params body scope lpos] [] pos) (tLam Tb (TSaid Cp Co) t) := by
  obtain ⟨g, fd, F, b, hm⟩ := T.d_law_said
  have kp := F.kp
  obtain ⟨oc, od, kV, doc, pm, an, cdv, ct, osl, rfl, lk, hcd⟩ := F.ex
  exact pe_lamcall (Ng := ["_law_call"]) hgl hm kp lk hcd b sc_law_said rfl (.inl rfl) (said_gives T R) TB hcode hmT hu hr L hdef hbind hbody
end
end Kl

set_option maxRecDepth 100000
set_option maxHeartbeats 4000000
/-! ### what stays while lambdas are made -/
namespace Gx
open PySem PySem.Spec PyProof.Rows L2
/-- all but the object at d and the tables stay -/
def ExtX (d : Addr) (H H' : Hp) : Prop := ∀ b o, b ≠ d → H b = some o → (∀ ps, o ≠ .tbl ps) → H' b = some o
theorem ExtX.refl (d : Addr) (H : Hp) : ExtX d H H := fun _ _ _ e _ => e
theorem ExtX.trans {d : Addr} {H H1 H2 : Hp} (a : ExtX d H H1) (b : ExtX d H1 H2) : ExtX d H H2 := fun c o n e t => b c o n (a c o n e t) t
theorem ExtX.ofN {d : Addr} {H H' : Hp} (s : LamX.ExtN H H') : ExtX d H H' := fun b o _ e t => s b o e t
theorem ExtX.of {d : Addr} {H H' : Hp} (s : Same H H') : ExtX d H H' := fun b o _ e _ => s b o e
end Gx
namespace Kl
open PySem PySem.Spec PyProof.Rows L2 Gx Mx LamX
theorem dice_exN {H H' : Hp} {d : Addr} (s : ExtN H H') (h : DiceAt H d) : DiceAt H' d := by
  obtain ⟨a, b, c, e⟩ := h
  exact ⟨a, b, c, s _ _ e fun _ => nofun⟩
theorem tabs_dice {Tb : List (Addr × Str)} {H H' : Hp} {d : Addr} (t : Tabs Tb H) (hd : DiceAt H d) (s : SameX d H H') : Tabs Tb H' := fun p hp => by
  obtain ⟨ps, h1, h2, h3⟩ := t p hp
  obtain ⟨a, b, c, e⟩ := hd
  refine ⟨ps, s _ _ (fun w => by rw [w, e] at h1; cases h1) h1, h2, fun pos cv hc => ?_⟩
  obtain ⟨c1, e1, e2⟩ := h3 pos cv hc
  exact ⟨c1, e1, s _ _ (fun w => by rw [w, e] at e2; cases (Option.some.inj e2)) e2⟩
theorem ext_ofX {d : Addr} {H H' : Hp} (s : SameX d H H') : ExtX d H H' := fun b o n e _ => s b o n e
/-- p is new since H (as far as what is no table tells) -/
def NewN (H : Hp) (p : Addr) : Prop := ∀ o, H p = some o → ¬ ∀ ps, o ≠ .tbl ps
theorem new_n {H H' : Hp} {p : Addr} (s : ExtN H H') (n : H' p = none) : NewN H p := fun o e t => by
  rw [s _ _ e t] at n
  cases n
theorem ext_lst {H G : Hp} {p : Addr} {o : HO} (s : ExtN H G) (n : NewN H p) : ExtN H (upd G p o) := fun b u e t => by
  by_cases c : b = p
  · rw [c] at e
    exact (n u e t).elim
  · rw [upd_ne c]
    exact s b u e t
theorem tabs_lst {Tb : List (Addr × Str)} {G : Hp} {p : Addr} {xs : List V} {o : HO} (t : Tabs Tb G) (e : G p = some (.lst xs)) : Tabs Tb (upd G p o) := fun q hq => by
  obtain ⟨ps, h1, h2, h3⟩ := t q hq
  refine ⟨ps, by rw [upd_ne (fun w => by rw [w, e] at h1; cases h1)]; exact h1, h2, fun pos cv hc => ?_⟩
  obtain ⟨c1, e1, e2⟩ := h3 pos cv hc
  exact ⟨c1, e1, by rw [upd_ne (fun w => by rw [w, e] at e2; cases (Option.some.inj e2))]; exact e2⟩
theorem ext_sm {H G G' : Hp} (a : ExtN H G) (s : Same G G') : ExtN H G' := a.trans (.of s)
theorem sqT_exN {K : PySem.W.Frag} {G G' : Hp} {a : Addr} {xs : List V} (s : ExtN G G') (h : SqT K G a xs) : SqT K G' a xs := by
  rcases h with (h | ⟨o, h⟩) | h
  · exact .inl (.inl (s _ _ h fun _ => nofun))
  · exact .inl (.inr ⟨o, s _ _ h fun _ => nofun⟩)
  · exact .inr h
theorem sqT_exX {K : PySem.W.Frag} {G G' : Hp} {d a : Addr} {xs : List V} (hd : DiceAt G d) (s : ExtX d G G') (h : SqT K G a xs) : SqT K G' a xs := by
  obtain ⟨p, q, r, e⟩ := hd
  rcases h with (h | ⟨o, h⟩) | h
  · exact .inl (.inl (s _ _ (fun z => by rw [z, e] at h; cases h) h fun _ => nofun))
  · exact .inl (.inr ⟨o, s _ _ (fun z => by rw [z, e] at h; cases h) h fun _ => nofun⟩)
  · exact .inr h
end Kl

set_option maxRecDepth 100000
set_option maxHeartbeats 4000000
/-! ### repr of data, the text named: no two long texts are ever compared -/
namespace Gx
open PySem PySem.Spec PyProof.Rows L2
section
variable {X : Cx}
def rReprE (K : PySem.W.Frag) : List V → Hp → VK → Prop := fun xs H Q => ∃ (x : V) (d : PyData) (S : Str), xs = [x] ∧ Dp K H x d ∧ (d.showable = true ∧ d.hasDict = false ∧ d.depth ≤ 60 ∧ d.shown.length ≤ sizeLine) ∧ d.shown = S ∧ Q (.str S) H
theorem call_reprE (g : Gd X.A) (hu : X.A.units + 64 < cLine) : CallR X (.builtin "repr") (rReprE X.K) := by
  intro pins s σ H xs us Q I r h
  obtain ⟨x, d, S, e, hd, ⟨h1, h2, h3, h4⟩, rfl, q⟩ := h
  exact call_reprD g hu pins s σ H xs us Q I r ⟨x, d, e, hd, h1, h2, h3, h4, q⟩
end
end Gx

set_option maxRecDepth 100000
set_option maxHeartbeats 4000000
namespace Gx
open PySem PySem.Spec PyProof.Rows L2 Mx
section
variable {X : Cx} {C : Addr} {k : Nat} {ps : List Str} {sp : Sp} {E : L2.St → XK}
/-- the class at C has a method m that keeps sp and may raise -/
def CalMY (P : Program) (w : World) (K : PySem.W.Frag) (mg : Str → Option Value) (base : Heap) (C : Addr) (m : Str) (k : Nat) (ps : List Str) (sp : Sp) : Prop :=
  ∃ (f : Addr) (fd : FuncData), FnOk P w K mg base (L2.CX P w) k f fd ps sp ∧ Meth K C m f ∧ Binds K fd ps [] ∧ PySem.W.fnIn K f = true
theorem DefM.calY {P : Program} {w : World} {K : PySem.W.Frag} {mg : Str → Option Value} {base : Heap} {C : Addr} {m qual : Str} {st : Stmt} {k : Nat} {ps : List Str} {sp : Sp} (d : DefM K C m qual st ps)
    (h : ∀ f fd, Fun K m qual st f fd → FnOk P w K mg base (L2.CX P w) k f fd ps sp) : CalMY P w K mg base C m k ps sp := by
  obtain ⟨f, fd, F, me, b, fi⟩ := d
  exact ⟨f, fd, h f fd F, me, b, fi⟩
theorem CalMY.up {P : Program} {w : World} {K : PySem.W.Frag} {mg : Str → Option Value} {base : Heap} {C : Addr} {m : Str} {j k : Nat} {ps : List Str} {sp : Sp} (c : CalMY P w K mg base C m j ps sp) (h : j ≤ k) : CalMY P w K mg base C m k ps sp := by
  obtain ⟨f, fd, F, r⟩ := c
  exact ⟨f, fd, F.mono h, r⟩
/-- o.m(..), which may raise, whatever is under way -/
theorem pe_methXo {m : Str} {o e : Expr} {es : List Expr} {ta : TE} {t : TA} {pos apos : Pos} {pl : Sem Bool} (he : PE X o ta) (cl : Cls X.K C) (c : CalMY X.prog X.w X.K X.mg X.base C m k ps sp) (room : Room k X.A) (hx : ∀ σ, PassesAt (L2.CX X.prog X.w) X σ (E σ)) (ha : PA X (e :: es) t)
    (hst : starEach (e :: es) X.env = (false, eval e X.env) :: starEach es X.env := by rfl) (hpl : (backTo pos (starEach es X.env)).any (·.1) = false := by rfl)
    (ht : eval (.Call (.Attribute o m apos) (e :: es) [] pos) X.env = (do
      let ov ← eval o X.env
      standAt apos.atName
      let (f, first) ← holding [ov] (getMethod ov m pl)
      callWith pos f first (backTo pos (starEach (e :: es) X.env)) (backToKw pos (keywordEach [] X.env))) := by rfl) :
    PE X (.Call (.Attribute o m apos) (e :: es) [] pos) (tMethX C m sp E ta t) := by
  obtain ⟨f, fd, F, hm, b, _⟩ := c
  refine ⟨fun pins s σ H Q I h => ?_⟩
  refine PySem.W.methodCall_KW (pl := pl) (thn (he.run pins s σ H _ I h) fun u s1 ⟨x, H1, I1, rx, a, dx, fs, ex, ea, l, q⟩ => ?_) ht
  subst ex
  obtain rfl : u = Value.ref a := rx
  refine getmeth_ok I1 ea cl hm l ?_
  refine PySem.W.callWith_K (first := [.ref a]) (h₀ := X.base) I.ok.mod.kin hm.kp (thn (ha.run pos pins s1 σ H1 _ I1 q) fun us s2 ⟨vs, H2, I2, r, q2⟩ => ⟨I2.kIn, ?_⟩) hst hpl
  exact runX_below (us := .ref a :: us) (vs := .ref a :: vs) F room rfl b (hx σ) I2 (.cons rfl r) q2
end
end Gx
namespace Kl
open PySem PySem.Spec PyProof.Rows L2 Gx Mx LamX
theorem merge_new : ∀ (more kvs : List (Key × V)), (more.map (·.1)).Nodup → (∀ k ∈ more.map (·.1), valV kvs k = none) → mergeK kvs more = kvs ++ more
  | [], kvs, _, _ => by unfold mergeK; rw [List.foldl_nil, List.append_nil]
  | p :: r, kvs, nd, hn => by
    rw [List.map_cons, List.nodup_cons] at nd
    have e : mergeK kvs (p :: r) = mergeK (putK kvs p.1 p.2) r := rfl
    have e0 : valV kvs p.1 = none := hn _ (by rw [List.map_cons]; exact List.mem_cons_self)
    rw [e, putK_new _ e0, merge_new r _ nd.2 fun k hk => ?_, List.append_assoc]
    · rfl
    · have hk0 := hn k (by rw [List.map_cons]; exact List.mem_cons_of_mem _ hk)
      rw [valV_snoc _ _ _ _ e0, if_neg (fun (q : k = p.1) => nd.1 (by rw [← q]; exact hk)), hk0]
theorem merge_nil {more : List (Key × V)} (nd : (more.map (·.1)).Nodup) : mergeK [] more = more := merge_new more [] nd fun _ _ => rfl
theorem paired_snoc {α β : Type} {R : α → β → Prop} {xs : List α} {ys : List β} {a : α} {b : β} (h : Paired R xs ys) (r : R a b) : Paired R (xs ++ [a]) (ys ++ [b]) := by
  induction h with
  | nil => exact .cons r .nil
  | cons h _ ih => exact .cons h ih
/-! ### dicts from letters -/
def dO (f : Nat → V) (L : List Nat) : List (Key × V) := L.map fun c => ((Sum.inr (one c) : Key), f c)
theorem dO_len (f : Nat → V) (L : List Nat) : (dO f L).length = L.length := List.length_map ..
theorem dO_snoc (f : Nat → V) (L : List Nat) (c : Nat) : dO f (L ++ [c]) = dO f L ++ [((Sum.inr (one c) : Key), f c)] := by
  unfold dO
  rw [List.map_append]
  rfl
theorem key_inj {c d : Nat} : (Sum.inr (one c) : Key) = Sum.inr (one d) ↔ c = d := ⟨fun h => one_inj.mp (Sum.inr.inj h), fun h => by rw [h]⟩
theorem dO_in {f : Nat → V} {c : Nat} : ∀ {L : List Nat}, c ∈ L → valV (dO f L) (Sum.inr (one c)) = some (f c)
  | a :: L, h => by
    show valV (((Sum.inr (one a) : Key), f a) :: dO f L) _ = _
    by_cases e : a = c
    · subst e
      exact valV_pos rfl
    · rw [valV_neg (fun h => e (key_inj.mp h))]
      exact dO_in ((List.mem_cons.mp h).resolve_left fun h => e h.symm)
theorem dO_no {f : Nat → V} {c : Nat} : ∀ {L : List Nat}, c ∉ L → valV (dO f L) (Sum.inr (one c)) = none
  | [], _ => rfl
  | a :: L, h => by
    show valV (((Sum.inr (one a) : Key), f a) :: dO f L) _ = _
    rw [valV_neg (fun e => h (by rw [key_inj.mp e]; exact List.mem_cons_self))]
    exact dO_no fun m => h (List.mem_cons_of_mem _ m)
theorem dO_nd {f : Nat → V} : ∀ {L : List Nat}, L.Nodup → ((dO f L).map (·.1)).Nodup
  | [], _ => List.nodup_nil
  | a :: L, h => by
    obtain ⟨h1, h2⟩ := List.nodup_cons.mp h
    refine List.nodup_cons.mpr ⟨fun m => ?_, dO_nd h2⟩
    obtain ⟨kv, hkv, e⟩ := List.mem_map.mp m
    obtain ⟨c, hc, rfl⟩ := List.mem_map.mp hkv
    have := key_inj.mp (show (Sum.inr (one c) : Key) = Sum.inr (one a) from e)
    exact h1 (this ▸ hc)
theorem val_mem {kvs : List (Key × V)} {k : Key} {u : V} (h : valV kvs k = some u) : ∃ kv ∈ kvs, kv.2 = u := by
  unfold valV at h
  obtain ⟨kv, e, r⟩ := Option.map_eq_some_iff.mp h
  exact ⟨kv, List.mem_of_find?_eq_some e, r⟩
theorem dO_flat {f : Nat → V} {L : List Nat} (h : ∀ c ∈ L, flatV (f c) = true) : ∀ k u, valV (dO f L) k = some u → flatV u = true := fun k u e => by
  obtain ⟨kv, hkv, rfl⟩ := val_mem e
  obtain ⟨c, hc, rfl⟩ := List.mem_map.mp hkv
  exact h c hc
theorem letc_nd (z : Str) : (letc z).Nodup := by
  unfold letc
  exact List.Nodup.sublist List.filter_sublist (by decide)
theorem letc_len (z : Str) : (letc z).length ≤ 3 := by
  unfold letc
  exact List.length_filter_le _ _
theorem pl_lt : ∀ (p : Pl), p.ok → ∃ c ∈ p.txt, isL c = true
  | .lt c, h => ⟨c, List.mem_cons_self, h⟩
  | .put p, h => by
    obtain ⟨c, hc, e⟩ := pl_lt p h
    exact ⟨c, List.mem_append_left _ hc, e⟩
  | .meld p q, h => by
    obtain ⟨c, hc, e⟩ := pl_lt p h.1
    exact ⟨c, List.mem_cons_of_mem _ (List.mem_append_left _ hc), e⟩
theorem letc_ne {z : Str} (h : planB z.cps.toList = true) : letc z ≠ [] := fun e => by
  obtain ⟨p, hp, ht, _⟩ := (planB_iff _).mp h
  obtain ⟨c, hc, hl⟩ := pl_lt p hp
  have := letc_mem.mpr ⟨hl, by rw [← ht]; exact hc⟩
  rw [e] at this
  cases this
theorem nok_len {z : Str} {kvs : List (Key × V)} (h : kvs.length ≠ (letc z).length) : ¬ okD z kvs := fun o => h o.1
theorem nok_val {z : Str} {f : Nat → V} (hz : letc z ≠ []) (h : ∀ c ∈ letc z, inV (f c) (LT3.map V.str) = false) : ¬ okD z (dO f (letc z)) := fun o => by
  cases e : letc z with
  | nil => exact hz e
  | cons c r =>
    have hc : c ∈ letc z := by rw [e]; exact List.mem_cons_self
    obtain ⟨u, e1, e2⟩ := o.2 c hc
    rw [dO_in hc] at e1
    cases e1
    rw [h c hc] at e2
    cases e2
theorem ok_dO {z : Str} {g : Nat → Nat} (h : ∀ c ∈ letc z, isL (g c) = true) : okD z (dO (fun c => .str (one (g c))) (letc z)) := by
  refine ⟨dO_len _ _, fun c hc => ⟨_, dO_in hc, ?_⟩⟩
  rw [inV_strs, mem_lt]
  have := h c hc
  unfold isL at this
  rw [decide_eq_true_eq] at this ⊢
  simpa only [one_inj] using this
theorem dO_none {z : Str} {f : Nat → V} : ∀ c ∈ z.cps.toList, isL c = false → valV (dO f (letc z)) (Sum.inr (one c)) = none := fun c _ hl => dO_no fun m => by
  have := (letc_mem.mp m).1
  rw [hl] at this
  cases this
/-- a pair more in a list of pairs -/
theorem pair_step {G : Hp} {D t : Addr} {ts : List Addr} {kvs : List (Key × V)} {k : Key} {u : V} (eD : G D = some (.lst (ts.map V.ref))) (hP : Paired (fun b (kv : Key × V) => G b = some (.tup [kV kv.1, kv.2])) ts kvs) (nt : G t = none) :
    (upd (upd G t (.tup [kV k, u])) D (.lst (ts.map V.ref ++ [V.ref t]))) D = some (.lst ((ts ++ [t]).map V.ref)) ∧
    Paired (fun b (kv : Key × V) => (upd (upd G t (.tup [kV k, u])) D (.lst (ts.map V.ref ++ [V.ref t]))) b = some (.tup [kV kv.1, kv.2])) (ts ++ [t]) (kvs ++ [(k, u)]) ∧
    ∀ b o, b ≠ D → G b = some o → (upd (upd G t (.tup [kV k, u])) D (.lst (ts.map V.ref ++ [V.ref t]))) b = some o := by
  have nDt : t ≠ D := fun w => by rw [w, eD] at nt; cases nt
  refine ⟨by rw [upd_same, List.map_append]; rfl, paired_snoc (L2.Paired.mapP hP fun a b e => ?_) ?_, fun b o n e => ?_⟩
  · have n1 : a ≠ D := fun w => by rw [w, eD] at e; cases e
    have n2 : a ≠ t := fun w => by rw [w, nt] at e; cases e
    rw [upd_ne n1, upd_ne n2]
    exact e
  · rw [upd_ne nDt]
    exact upd_same
  · rw [upd_ne n, upd_ne (fun w => by rw [w, nt] at e; cases e)]
    exact e
theorem PlanAt.exN {K : PySem.W.Frag} {C x : Addr} {H H' : Hp} {z : Str} (h : PlanAt K C H x z) (s : ExtN H H') : PlanAt K C H' x z := by
  obtain ⟨⟨dx, ml, v, ll, ds, a, b, c, d⟩, e⟩ := h
  exact ⟨⟨dx, ml, v, ll, ds, s _ _ a fun _ => nofun, s _ _ b fun _ => nofun, c, sqT_exN s d⟩, e⟩
end Kl

set_option maxRecDepth 100000
set_option maxHeartbeats 4000000
namespace Kl
open PySem PySem.Spec PyProof.Rows L2 Gx Mx LamX
/-- what is no dict from just the letters to letters -/
def Wr (K : PySem.W.Frag) (d : Addr) (z : Str) (G : Hp) (v : V) : Prop := v = .non ∨ (∃ p xs, v = .ref p ∧ p ≠ d ∧ (G p = some (.tup xs) ∨ G p = some (.lst xs))) ∨ ∃ p kvs, v = .ref p ∧ p ≠ d ∧ G p = some (.dK kvs) ∧ (∀ k u, valV kvs k = some u → flatV u = true) ∧ ¬ okD z kvs
theorem Wr.exX {K : PySem.W.Frag} {d : Addr} {z : Str} {G G' : Hp} {v : V} (h : Wr K d z G v) (s : ExtX d G G') : Wr K d z G' v := by
  rcases h with h | ⟨p, xs, e, n, h | h⟩ | ⟨p, kvs, e, n, h, r⟩
  · exact .inl h
  · exact .inr (.inl ⟨p, xs, e, n, .inl (s _ _ n h fun _ => nofun)⟩)
  · exact .inr (.inl ⟨p, xs, e, n, .inr (s _ _ n h fun _ => nofun)⟩)
  · exact .inr (.inr ⟨p, kvs, e, n, s _ _ n h fun _ => nofun, r⟩)
theorem take_snoc {α : Type} {l : List α} {i : Nat} {x : α} (h : l[i]? = some x) : l.take (i + 1) = l.take i ++ [x] := by
  rw [List.take_add_one, h]
  rfl
theorem filt_lt {L : List Nat} {a : Nat} (h : a ∈ L) : (L.filter fun y => decide (y ≠ a)).length < L.length := List.length_filter_lt_length_iff_exists.mpr ⟨a, h, by simp⟩
section
variable {P : Program} {w : World} {K : PySem.W.Frag} {mg : Str → Option Value} {base : Heap}
/-! ### _law_renamed_right -/
abbrev NRR : List Str := ["_law_dice_here", "_law_made", "_law_text", "_law_names", "_law_due", "_law_last", "_law_bad", "_law_wrong", "_law_letter", "_law_sign", "_law_one"]
def spRR (K : PySem.W.Frag) (C : Addr) (Tb : List (Addr × Str)) : Sp := fun vs H Q _ => ∃ (d x : Addr) (z : Str), vs = [V.ref d, .ref x, .str z] ∧ DiceAt H d ∧ Tabs Tb H ∧ PlanAt K C H x z ∧ z.length ≤ 900 ∧ (∀ G, SameX d H G → DiceAt G d → PlanAt K C G x z) ∧
  ∀ H', ExtX d H H' → Tabs Tb H' → DiceAt H' d → Q (.bl true) H'
theorem ok_rr {f c Pt C Cp Co : Addr} {fd : FuncData} {Tb : List (Addr × Str)} (F : Fun K "_law_renamed_right" "_law_renamed_right" s_law_renamed_right f fd) (hc : fd.code = .ref c) (TB : TabB base mg c Pt) (hm : (Pt, ln "_law_renamed_right") ∈ Tb) (hu0 : ∀ p ∈ Tb, p.1 = Pt → p.2 = ln "_law_renamed_right")
    (T : Top K mg) (TC : Cl_Plan K mg C) (R : Ers K mg Cp Co) : FnG P w K mg base CX0 10 f fd ["_law_dice_here", "_law_made", "_law_text"] (spRR K C Tb) := by
  have cp : Cal P w K mg base 9 "_law_pick" ["_law_dice_here", "_law_items"] (spPick K) := (T.d_law_pick.cal fun f fd F => ok_pick F T).mono (by decide)
  have cn : CalMY P w K mg base C "renamed" 7 ["self", "letters"] (spQRen K C Co) := (TC.m_renamed.calY fun f fd F => ok_qren F T TC R.XP R.CP R.XO R.CO).up (by decide)
  have kLet : CalP P w K mg base C "letters" 8 (spQLet K C) := (TC.p_letters.cal fun f fd F => ok_qlet F TC).mono (by decide)
  have kTxt : CalP P w K mg base C "text" 8 (spQText K C) := (TC.p_text.cal fun f fd F => ok_qtext F TC).mono (by decide)
  refine okGL F hc sc_law_renamed_right (fun vs H Q E h => ?_) (fun A outer s H vs Q E hg hr h => ?_)
  · obtain ⟨d, x, z, rfl, _⟩ := h
    rfl
  · obtain ⟨d, x, z, rfl, hd, hTb, hP, hz, hPs, q⟩ := h
    have hu := hu_of hr
    refine ⟨_, pss_cut (ps_set (i := 3) sc_law_renamed_right.nd rfl (by first | exact .inl rfl | exact .inr rfl) (pe_callTy (call_dictP rfl) (by rfl) T.b_dict (by decide +kernel) (pa_cons (pe_lc (own := [("_law_letter", 8)]) (g := gName 8) (tt := tYes) rfl sc_law_renamed_right.nd (pi_tup (pe_propC (pv 1) TC.cl kLet hr rfl))
          (blkOk_by (N := NRR) (sc := defScope s_law_renamed_right) (by decide +kernel)) (fun _ _ _ _ _ => pg_name (i := 8) sc_law_renamed_right.nd rfl (.inl rfl)) (fun _ _ _ _ _ => pts_nil)
          (fun _ _ _ _ _ => pe_tup (pa_cons (pv 8) (pa_cons (pe_cal cp hr (by rfl) (pa_cons (pv 0) (pa_cons (pe_lst (pa_cons pe_str (pa_cons pe_str (pa_cons pe_str pa_nil)))) pa_nil))) pa_nil)))) pa_nil)))
      (pss_cut (ps_set (i := 4) sc_law_renamed_right.nd rfl (by first | exact .inl rfl | exact .inr rfl) (pe_join pe_str (pe_lc (own := [("_law_sign", 9)]) (g := gName 9) (tt := tYes) rfl sc_law_renamed_right.nd (pi_str (pv 2)) (blkOk_by (N := NRR) (sc := defScope s_law_renamed_right) (by decide +kernel))
          (fun _ _ _ _ _ => pg_name (i := 9) sc_law_renamed_right.nd rfl (.inl rfl)) (fun _ _ _ _ _ => pts_nil) (fun _ _ _ _ _ => pe_dget2 hu (pv 3) (pv 9) (pv 9) (by constructor <;> rfl)))))
      (pss_cut (ps_if (PW.pt (pw_or (pt_cmpR op_ne (pe_propC (pe_methXo (E := fun _ => E0) (pl := _) (pv 1) TC.cl cn (hr.mono (by decide)) (fun σ => neverAt σ) (pa_cons (pv 3) pa_nil)) TC.cl kTxt hr rfl) (pv 4) (by rfl))
          (pw_or1 (pt_cmpR op_ne (pe_propC (pv 1) TC.cl kTxt hr rfl) (pv 2) (by rfl))))) (pss_one (ps_ret pe_bl)) pss_nil)
      (pss_cut (ps_set (i := 5) sc_law_renamed_right.nd rfl (by first | exact .inl rfl | exact .inr rfl) (pe_ix ix_tup (pe_propC (pv 1) TC.cl kLet hr rfl) (pe_un un_neg pe_int) (fun _ _ => rfl)))
      (pss_cut (ps_set (i := 6) sc_law_renamed_right.nd rfl (by first | exact .inl rfl | exact .inr rfl) (pe_lst (pa_cons pe_non (pa_cons (pe_tup pa_nil) (pa_cons pe_dnewK (pa_cons (pe_callTy (call_dictP rfl) (by rfl) T.b_dict (by decide +kernel) (pa_cons (pe_op op_cat (LiI.pe_listItems rfl (pv 3) (by rfl) T.b_list (by decide +kernel)) (pe_lst (pa_cons (pe_tup (pa_cons pe_str (pa_cons pe_str pa_nil))) pa_nil))) pa_nil))
          (pa_cons (pe_callTy (call_dictP rfl) (by rfl) T.b_dict (by decide +kernel) (pa_cons (pe_lock (pe_lc (own := [("_law_one", 10)]) (g := gName 10) (tt := tYes) rfl sc_law_renamed_right.nd (pi_keys (pv 3)) (blkOk_by (N := NRR) (sc := defScope s_law_renamed_right) (by decide +kernel)) (fun _ _ _ _ _ => pg_name (i := 10) sc_law_renamed_right.nd rfl (.inl rfl)) (fun _ _ _ _ _ => pts_nil) (fun _ _ _ _ _ => pe_tup (pa_cons (pv 10) (pa_cons pe_str pa_nil))))) pa_nil)) (pa_cons (pe_callTy (call_listD rfl) (by rfl) T.b_list (by decide +kernel) (pa_cons (pv 3) pa_nil)) pa_nil))))))))
      (pss_cut (ps_set (i := 6) sc_law_renamed_right.nd rfl (by first | exact .inl rfl | exact .inr rfl) (pe_op op_cat (pv 6) (pe_lst (pa_cons (pe_callTy (call_dictP rfl) (by rfl) T.b_dict (by decide +kernel) (pa_cons (pe_lock (pe_lc (own := [("_law_one", 10)]) (g := gName 10) rfl sc_law_renamed_right.nd (pi_keys (pv 3)) (blkOk_by (N := NRR) (sc := defScope s_law_renamed_right) (by decide +kernel)) (fun _ _ _ _ _ => pg_name (i := 10) sc_law_renamed_right.nd rfl (.inl rfl)) (fun _ _ _ _ _ => pts_one (pt_cmpR op_ne (pv 10) (pv 5) (nomark _))) (fun _ _ _ _ _ => pe_tup (pa_cons (pv 10) (pa_cons (pe_dget hu (pv 3) (pv 10) (fun _ _ => rfl)) pa_nil))))) pa_nil)) (pa_cons (pe_callTy (call_dictP rfl) (by rfl) T.b_dict (by decide +kernel) (pa_cons (pe_lock (pe_lc (own := [("_law_one", 10)]) (g := gName 10) (tt := tYes) rfl sc_law_renamed_right.nd (pi_keys (pv 3)) (blkOk_by (N := NRR) (sc := defScope s_law_renamed_right) (by decide +kernel)) (fun _ _ _ _ _ => pg_name (i := 10) sc_law_renamed_right.nd rfl (.inl rfl)) (fun _ _ _ _ _ => pts_nil) (fun _ _ _ _ _ => pe_tup (pa_cons (pv 10) (pa_cons pe_non pa_nil))))) pa_nil)) pa_nil)))))
      (pss_cut (ps_set (i := 7) sc_law_renamed_right.nd rfl (by first | exact .inl rfl | exact .inr rfl) (pe_cal cp hr (by rfl) (pa_cons (pv 0) (pa_cons (pe_op op_cat (pv 6) (pe_lst (pa_cons (pe_callTy (call_dictP rfl) (by rfl) T.b_dict (by decide +kernel) (pa_cons (pe_lock (pe_lc (own := [("_law_one", 10)]) (g := gName 10) (tt := tYes) rfl sc_law_renamed_right.nd (pi_keys (pv 3)) (blkOk_by (N := NRR) (sc := defScope s_law_renamed_right) (by decide +kernel)) (fun _ _ _ _ _ => pg_name (i := 10) sc_law_renamed_right.nd rfl (.inl rfl)) (fun _ _ _ _ _ => pts_nil) (fun _ _ _ _ _ => pe_tup (pa_cons (pv 10) (pa_cons pe_str pa_nil))))) pa_nil)) pa_nil))) pa_nil))))
      (pss_one (ps_ret (pe_cmpR op_eq (pe_said (k := 7) T R (by rfl) hr TB rfl hm hu0 (lamS_by (sc := defScope s_law_renamed_right) (by decide +kernel)) rfl (fun _ _ _ _ _ => rfl)
          (fun A outer s H E f c' hr' => pe_methXo (pv 1) TC.cl cn hr' (fun σ => passAt (takes_of rfl rfl rfl rfl) σ) (pa_cons (pv 7) pa_nil))) pe_str (by rfl)))))))))), ?_⟩
    have big : 100000 ≤ sizeLine := by decide
    have lne := letc_ne hP.ok
    have l3 := letc_len z
    have lnd := letc_nd z
    -- the names
    refine ⟨fun σ' G => ∃ (nd : Addr) (g : Nat → Nat), σ' = [some (.ref d), some (.ref x), some (.str z), some (.ref nd), none, none, none, none, none, none, none] ∧ SameX d H G ∧ DiceAt G d ∧ G nd = some (.dK (dO (fun c => .str (one (g c))) (letc z))) ∧ (∀ c ∈ letc z, isL (g c) = true) ∧ nd ≠ d, ?_, ?_⟩
    · obtain ⟨⟨dx, ml, v, ll, ds, hx, _, _, _⟩, _⟩ := id hP
      refine ⟨_, rfl, x, dx, _, rfl, hx, x, z, rfl, hP, fun p hp => ⟨p, rfl, ⟨_, hp⟩, fun D hD => ?_⟩⟩
      have nDd := dice_ne hd hD
      refine lc_it (g := gName 8) (tt := tYes) (vs := [8]) (walk_tup (K := K) (a := p) (xs := (lets z).map V.str)) (fun j G' => ∃ (g : Nat → Nat) (ts : List Addr), G' D = some (.lst (ts.map V.ref)) ∧ Paired (fun b (kv : Key × V) => G' b = some (.tup [kV kv.1, kv.2])) ts (dO (fun c => .str (one (g c))) ((letc z).take j)) ∧ (∀ c ∈ (letc z).take j, isL (g c) = true) ∧ SameX d H G' ∧ DiceAt G' d)
        ⟨id, [], upd_same, .nil, nofun, (SameX.refl d H).new hD, dice_upd hd nDd⟩ (fun j G' _ h => by obtain ⟨_, _, _, _, _, s, _⟩ := h; exact sqT_sx hd s hp) (fun j u Gx G' hj h hy => ?_) (fun G' h => ?_)
      · obtain ⟨g, ts, eD, hPr, hg1, sx, hdG⟩ := h
        obtain ⟨rfl, hu2⟩ := hy
        obtain ⟨l, hll, rfl⟩ := at_texts hu2
        have hll : ((letc z).map one)[j]? = some l := hll
        rw [List.getElem?_map] at hll
        obtain ⟨cj, hcj, rfl⟩ := Option.map_eq_some_iff.mp hll
        refine ⟨rfl, _, rfl, _, rfl, by show 3 ≤ sizeLine; omega, fun p3 np3 => ?_⟩
        have n3d := dice_ne hdG np3
        refine ⟨d, .ref p3, LT3.map V.str, rfl, dice_upd hdG n3d, .inl ⟨p3, rfl, n3d, .inl (.inl (.inl upd_same))⟩, by decide, by decide, fun v a b c hv => ?_⟩
        obtain ⟨y, hy, rfl⟩ := List.mem_map.mp hv
        obtain ⟨a1, a2, a3, _⟩ := lits
        obtain ⟨ch, rfl, hch⟩ : ∃ ch, y = one ch ∧ isL ch = true := by
          simp only [List.mem_cons, List.not_mem_nil, or_false] at hy
          rcases hy with rfl | rfl | rfl
          · exact ⟨65, a1, by decide⟩
          · exact ⟨66, a2, by decide⟩
          · exact ⟨67, a3, by decide⟩
        have sxd : SameX d G' (upd (upd G' p3 (.lst [V.str "A", V.str "B", V.str "C"])) d (.lst [.int a, .int b, .int c])) := ((SameX.refl d G').new np3).atd
        have hd2 : DiceAt (upd (upd G' p3 (.lst [V.str "A", V.str "B", V.str "C"])) d (.lst [.int a, .int b, .int c])) d := dice_new a b c
        have eD2 := sxd _ _ (fun w => by obtain ⟨_, _, _, e⟩ := hd; rw [w, e] at hD; cases hD) eD
        have ndt : ∀ {r : Addr} {xs : List V}, G' r = some (.tup xs) → r ≠ d := fun {r xs} e w => by
          obtain ⟨_, _, _, e1⟩ := hdG
          rw [w, e1] at e
          cases e
        have hPr2 := L2.Paired.mapP hPr (G := fun (r : Addr) (kv : Key × V) => (upd (upd G' p3 (.lst [V.str "A", V.str "B", V.str "C"])) d (.lst [.int a, .int b, .int c])) r = some (.tup [kV kv.1, kv.2])) fun r kv e => sxd r _ (ndt e) e
        refine ⟨by show 2 ≤ sizeLine; omega, fun t nt => ?_⟩
        generalize upd (upd G' p3 (.lst [V.str "A", V.str "B", V.str "C"])) d (.lst [.int a, .int b, .int c]) = G2 at sxd hd2 eD2 hPr2 nt
        have lts := Paired.length hPr
        rw [dO_len, List.length_take] at lts
        obtain ⟨r1, r2, r3⟩ := pair_step (k := Sum.inr (one cj)) (u := V.str (one ch)) eD2 hPr2 nt
        have hcn : cj ∉ (letc z).take j := fun m => by
          have h2 : ((letc z).take (j + 1)).Nodup := lnd.sublist (List.take_sublist _ _)
          rw [take_snoc hcj] at h2
          exact (List.nodup_append.mp h2).2.2 _ m _ (List.mem_singleton.mpr rfl) rfl
        have gE : ∀ c ∈ (letc z).take j, (if c = cj then ch else g c) = g c := fun c hc => if_neg fun e => hcn (by rw [← e]; exact hc)
        refine ⟨_, (same_new (Same.refl G2) nt) _ _ eD2, ?_, fun c => if c = cj then ch else g c, ts ++ [t], r1, ?_, ?_, ?_, ?_⟩
        · rw [List.length_map]
          exact Nat.lt_of_le_of_lt (show _ ≤ 3 by omega) (by decide)
        · rw [take_snoc hcj, dO_snoc]
          show Paired _ _ (dO (fun c => V.str (one (if c = cj then ch else g c))) ((letc z).take j) ++ [((Sum.inr (one cj) : Key), V.str (one (if cj = cj then ch else g cj)))])
          rw [if_pos rfl]
          have e : dO (fun c => V.str (one (if c = cj then ch else g c))) ((letc z).take j) = dO (fun c => V.str (one (g c))) ((letc z).take j) := List.map_congr_left fun c hc => by show ((Sum.inr (one c) : Key), V.str (one (if c = cj then ch else g c))) = _; rw [gE c hc]
          rw [e]
          exact r2
        · intro c hc
          rw [take_snoc hcj] at hc
          rcases List.mem_append.mp hc with h | h
          · show isL (if c = cj then ch else g c) = true
            rw [gE c h]
            exact hg1 c h
          · rw [List.mem_singleton.mp h]
            show isL (if cj = cj then ch else g cj) = true
            rw [if_pos rfl]
            exact hch
        · exact fun b o n e => r3 b o (ne_of_none e hD) (sxd _ _ n (sx _ _ n e))
        · obtain ⟨a, b, c, e⟩ := hd2
          exact ⟨a, b, c, r3 _ _ nDd.symm e⟩
      · obtain ⟨g, ts, eD, hPr, hg1, sx, hdG⟩ := h
        have hl : ((lets z).map V.str).length = (letc z).length := by
          rw [List.length_map]
          exact List.length_map ..
        rw [hl, List.take_length] at hPr hg1
        refine ⟨D, ts, _, rfl, .inl (.inl eD), L2.Paired.mapP hPr fun _ _ e => .inl (.inl e), fun nd nnd => ?_⟩
        rw [merge_nil (dO_nd lnd)]
        exact ⟨nd, g, rfl, sx.new nnd, dice_upd hdG (dice_ne hdG nnd), upd_same, hg1, dice_ne hdG nnd⟩
    rintro σ' G ⟨nd, g, rfl, sx, hdG, en, hgl, nnd⟩
    have hPG := hPs G sx hdG
    have hok := ok_dO hgl
    have hfl : ∀ k u, valV (dO (fun c => .str (one (g c))) (letc z)) k = some u → flatV u = true := dO_flat fun c _ => rfl
    have hno : ∀ c ∈ z.cps.toList, isL c = false → valV (dO (fun c => .str (one (g c))) (letc z)) (Sum.inr (one c)) = none := dO_none
    have hkn : ((dO (fun c => V.str (one (g c))) (letc z)).map (·.1)).Nodup := dO_nd lnd
    have hin : ∀ c ∈ letc z, valV (dO (fun c => V.str (one (g c))) (letc z)) (Sum.inr (one c)) = some (.str (one (g c))) := fun c hc => dO_in hc
    obtain ⟨kvs, hkvs⟩ : ∃ kvs, dO (fun c => V.str (one (g c))) (letc z) = kvs := ⟨_, rfl⟩
    have hkl : kvs.length = (letc z).length := by rw [← hkvs]; exact dO_len _ _
    rw [hkvs] at en hok hfl hno hkn hin
    have look : ∀ c ∈ z.cps.toList, (valV kvs (Sum.inr (one c))).getD (.str (one c)) = .str (one (lookC kvs c)) := fun c hc => by
      cases hl : isL c with
      | true =>
        obtain ⟨u, e, hi⟩ := hok.2 c (letc_mem.mpr ⟨hl, hc⟩)
        obtain ⟨c', rfl, hc'⟩ := inL_one hi (hfl _ _ e)
        have : lookC kvs c = c' := by
          unfold lookC
          rw [e]
          rfl
        rw [this, e]
        rfl
      | false =>
        have e := hno c hc hl
        have : lookC kvs c = c := by
          unfold lookC
          rw [e]
        rw [this, e]
        rfl
    -- what is due
    refine ⟨fun σ' G' => σ' = [some (.ref d), some (.ref x), some (.str z), some (.ref nd), some (.str (mapZ kvs z)), none, none, none, none, none, none] ∧ Same G G', ?_, ?_⟩
    · refine ⟨⟨_, rfl⟩, _, rfl, z, rfl, fun D hD => ?_⟩
      refine lc_it (g := gName 9) (tt := tYes) (vs := [9]) (walk_str (z := z)) (fun j G' => G' D = some (.lst ((((z.cps.toList.take j).map (lookC kvs)).map one).map V.str)) ∧ Same G G')
        ⟨upd_same, same_new (Same.refl G) hD⟩ (fun j G' _ h => True.intro) (fun j u Gx G' hj h hy => ?_) (fun G' h => ?_)
      · obtain ⟨eD, sm⟩ := h
        obtain ⟨rfl, c, hc, rfl⟩ := hy
        have hc2 : z.cps.toList[j]? = some c := by rw [Array.getElem?_toList]; exact hc
        have edG := sm _ _ en
        refine ⟨rfl, _, rfl, nd, rfl, .inl ⟨kvs, .inl edG⟩, _, rfl, _, rfl, _, DGet.k (k := Sum.inr (one c)) edG, ?_⟩
        rw [look c (List.mem_of_getElem? hc2)]
        refine ⟨_, eD, ?_, ?_, fun b o e => by rw [upd_ne (ne_of_none e hD)]; exact sm b o e⟩
        · rw [List.length_map, List.length_map, List.length_map, List.length_take]
          have hlz : z.cps.toList.length = z.length := Array.length_toList ..
          omega
        · rw [upd_same, List.take_add_one, hc2, List.map_append, List.map_append, List.map_append]
          rfl
      · obtain ⟨eD, sm⟩ := h
        have hlz : z.cps.toList.length = z.length := Array.length_toList ..
        rw [List.take_of_length_le (by rw [Array.length_toList]; exact Nat.le_refl _)] at eD
        refine ⟨_, D, (z.cps.toList.map (lookC kvs)).map one, rfl, rfl, .inl (.inl (.inl eD)), ?_, ?_⟩
        · have h1 : (((z.cps.toList.map (lookC kvs)).map one).map (·.length)).sum ≤ z.length := by
            rw [List.map_map, List.map_map]
            have : ∀ l : List Nat, (l.map ((fun x : Str => x.length) ∘ one ∘ lookC kvs)).sum = l.length := fun l => by
              induction l with
              | nil => rfl
              | cons a r ih =>
                rw [List.map_cons, List.sum_cons, ih, List.length_cons]
                show 1 + _ = _
                omega
            rw [← hlz]
            exact Nat.le_of_eq (this z.cps.toList)
          have h2 : ("" : Str).length = 0 := rfl
          rw [h2]
          omega
        rw [join_ones]
        exact ⟨rfl, sm⟩
    rintro σ' G1 ⟨rfl, s1⟩
    have hP1 := hPG.same s1
    have hd1 := dice_sm s1 hdG
    have en1 := s1 _ _ en
    -- the renamed one
    refine ⟨fun σ' G' => σ' = [some (.ref d), some (.ref x), some (.str z), some (.ref nd), some (.str (mapZ kvs z)), none, none, none, none, none, none] ∧ Same G1 G', ?_, ?_⟩
    · obtain ⟨⟨dx, ml, v, ll, ds, hx, _, _, _⟩, _⟩ := id hP1
      refine ⟨_, rfl, x, dx, _, rfl, hx, qf_renamed _ _ _ _, _, rfl, x, z, .ref nd, rfl, hP1, by omega, .inl ⟨nd, kvs, rfl, en1, hfl, fun _ => ⟨hno, fun G2 x' s2 hP2 => ?_⟩, fun h => absurd hok h⟩⟩
      obtain ⟨⟨dx', ml', v', ll', ds', hx', _, _, _⟩, _⟩ := id hP2
      refine ⟨x', dx', _, rfl, hx', x', mapZ kvs z, rfl, hP2, _, rfl, rfl, _, rfl, ?_⟩
      show (if (!decide (V.str (mapZ kvs z) = V.str (mapZ kvs z))) = true then _ else _)
      rw [decide_eq_true rfl, if_neg (by decide)]
      refine ⟨_, rfl, x, dx, _, rfl, s2 _ _ hx, x, z, rfl, hP1.same s2, _, rfl, rfl, _, rfl, ?_⟩
      show (if (!decide (V.str z = V.str z)) = true then _ else _)
      rw [decide_eq_true rfl, if_neg (by decide)]
      exact ⟨rfl, s2⟩
    rintro σ' G2 ⟨rfl, s2⟩
    have hP2 := hP1.same s2
    have en2 := s2 _ _ en1
    -- the last letter
    obtain ⟨cl, hcl, hat⟩ : ∃ cl, cl ∈ letc z ∧ atI ((lets z).map V.str) (-(1 : Nat)) = some (.str (one cl)) := by
      have hl0 : 0 < (letc z).length := Nat.pos_of_ne_zero fun h => lne (List.length_eq_zero_iff.mp h)
      have hg : (letc z)[(letc z).length - 1]? = some (letc z)[(letc z).length - 1] := List.getElem?_eq_getElem (by omega)
      refine ⟨_, List.mem_of_getElem? hg, ?_⟩
      have ll : ((lets z).map V.str).length = (letc z).length := by
        rw [List.length_map]
        exact List.length_map ..
      refine at_end (by decide) (by omega) ?_
      rw [ll, List.getElem?_map]
      show Option.map V.str (((letc z).map one)[(letc z).length - 1]?) = _
      rw [List.getElem?_map, hg]
      rfl
    refine ⟨fun σ' G' => σ' = [some (.ref d), some (.ref x), some (.str z), some (.ref nd), some (.str (mapZ kvs z)), some (.str (one cl)), none, none, none, none, none] ∧ G2 = G', ?_, ?_⟩
    · obtain ⟨⟨dx, ml, v, ll, ds, hx, _, _, _⟩, _⟩ := id hP2
      exact ⟨_, rfl, x, dx, _, rfl, hx, x, z, rfl, hP2, fun p hp => ⟨_, rfl, p, _, _, .str (one cl), rfl, rfl, hp, hat, rfl, rfl⟩⟩
    rintro σ' G' ⟨rfl, rfl⟩
    have hd2 := dice_sm s2 hd1
    have nq : ∀ {G' : Hp} {p : Addr}, Same G2 G' → G' p = none → p ≠ d := fun {G' p} s n => dice_ne (dice_sm s hd2) n
    -- six wrong ones
    refine ⟨fun σ' G' => ∃ (l6 : Addr) (L : List V), σ' = [some (.ref d), some (.ref x), some (.str z), some (.ref nd), some (.str (mapZ kvs z)), some (.str (one cl)), some (.ref l6), none, none, none, none] ∧ G' l6 = some (.lst L) ∧ L.length = 6 ∧ (∀ v ∈ L, Wr K d z G' v) ∧ Same G2 G', ?_, ?_⟩
    · refine ⟨Nat.zero_le _, fun t1 nt1 => ?_⟩
      have s3 := same_new (o := .tup []) (Same.refl G2) nt1
      have e3 : (upd G2 t1 (.tup [])) t1 = some (.tup []) := upd_same
      generalize upd G2 t1 (.tup []) = G3 at s3 e3
      intro d1 nd1
      have s4 := same_new (o := .dK []) (Same.refl G3) nd1
      have e4 : (upd G3 d1 (.dK [])) d1 = some (.dK []) := upd_same
      have s24 : Same G2 (upd G3 d1 (.dK [])) := fun b o e => s4 _ _ (s3 _ _ e)
      generalize upd G3 d1 (.dK []) = G4 at s4 e4 s24
      refine ⟨_, rfl, nd, _, rfl, s24 _ _ en2, fun J pl ts s5 npl nts nin epl hts => ?_⟩
      refine ⟨by show 2 ≤ sizeLine; omega, fun t nt => ⟨by show 1 ≤ sizeLine; omega, fun l nl => ?_⟩⟩
      have s6 := same_new (o := .tup [.str "a", .str "A"]) (Same.refl J) nt
      have et : (upd J t (.tup [.str "a", .str "A"])) t = some (.tup [.str "a", .str "A"]) := upd_same
      generalize upd J t (.tup [.str "a", .str "A"]) = J1 at s6 et nl
      have s7 := same_new (o := .lst [.ref t]) (Same.refl J1) nl
      have el : (upd J1 l (.lst [.ref t])) l = some (.lst [.ref t]) := upd_same
      generalize upd J1 l (.lst [.ref t]) = J2 at s7 el
      have lts := Paired.length hts
      refine ⟨pl, l, _, _, rfl, rfl, s7 _ _ (s6 _ _ epl), el, by rw [List.length_map]; show _ + 1 ≤ sizeLine; omega, fun l2 nl2 => ?_⟩
      have s8 := same_new (o := .lst (ts.map V.ref ++ [V.ref t])) (Same.refl J2) nl2
      have el2 : (upd J2 l2 (.lst (ts.map V.ref ++ [V.ref t]))) l2 = some (.lst (ts.map V.ref ++ [V.ref t])) := upd_same
      generalize upd J2 l2 (.lst (ts.map V.ref ++ [V.ref t])) = J3 at s8 el2
      have s9 : Same J J3 := fun b o e => s8 _ _ (s7 _ _ (s6 _ _ e))
      refine ⟨l2, ts ++ [t], kvs ++ [((Sum.inr "a" : Key), V.str "A")], rfl, .inl (.inl (by rw [List.map_append]; exact el2)), paired_snoc (L2.Paired.mapP hts fun _ _ e => .inl (.inl (s9 _ _ e))) (.inl (.inl (s8 _ _ (s7 _ _ et)))), fun p4 np4 => ?_⟩
      have hmer : mergeK [] (kvs ++ [((Sum.inr "a" : Key), V.str "A")]) = kvs ++ [((Sum.inr "a" : Key), V.str "A")] := by
        refine merge_nil ?_
        rw [List.map_append, List.nodup_append]
        refine ⟨hkn, by decide +kernel, fun a ha b hb e => ?_⟩
        rw [← hkvs] at ha
        obtain ⟨kv, hkv, rfl⟩ := List.mem_map.mp ha
        obtain ⟨c, hc, rfl⟩ := List.mem_map.mp hkv
        have hb2 : b = (Sum.inr "a" : Key) := List.mem_singleton.mp hb
        rw [hb2, show ("a" : Str) = one 97 by decide +kernel] at e
        have := key_inj.mp e
        have h2 := (letc_mem.mp hc).1
        rw [this] at h2
        cases h2
      rw [hmer]
      have w4 : Wr K d z (upd J3 p4 (.dK (kvs ++ [((Sum.inr "a" : Key), V.str "A")]))) (.ref p4) := by
        refine .inr (.inr ⟨p4, _, rfl, nq (fun b o e => s9 _ _ (s5 _ _ (s24 _ _ e))) np4, upd_same, fun k u h => ?_, nok_len (by rw [List.length_append, hkl]; show _ + 1 ≠ _; omega)⟩)
        obtain ⟨kv, hkv, rfl⟩ := val_mem h
        rcases List.mem_append.mp hkv with h | h
        · rw [← hkvs] at h
          obtain ⟨c, hc, rfl⟩ := List.mem_map.mp h
          rfl
        · rw [List.mem_singleton.mp h]
          rfl
      have s10 := same_new (o := .dK (kvs ++ [((Sum.inr "a" : Key), V.str "A")])) (Same.refl J3) np4
      have sB : Same G4 (upd J3 p4 (.dK (kvs ++ [((Sum.inr "a" : Key), V.str "A")]))) := fun b o e => s10 _ _ (s9 _ _ (s5 _ _ e))
      generalize upd J3 p4 (.dK (kvs ++ [((Sum.inr "a" : Key), V.str "A")])) = J4 at w4 sB
      have sC : Same G2 J4 := fun b o e => sB _ _ (s24 _ _ e)
      have en4 := sC _ _ en2
      refine ⟨nd, _, en4, trivial, fun o => ?_⟩
      refine ⟨_, rfl, nd, o, rfl, .inl ⟨_, upd_same, fun D hD => ?_⟩⟩
      refine lc_it (g := gName 10) (tt := tYes) (vs := [10]) walk_keys (fun j G5 => ∃ ts : List Addr, G5 D = some (.lst (ts.map V.ref)) ∧ Paired (fun b (kv : Key × V) => G5 b = some (.tup [kV kv.1, kv.2])) ts (dO (fun _ => .str "D") ((letc z).take j)) ∧ Same (upd J4 nd (.frz o (.dK kvs))) G5)
        ⟨[], upd_same, .nil, same_new (Same.refl _) hD⟩ (fun j G5 _ hP => by obtain ⟨_, _, _, s⟩ := hP; exact s _ _ upd_same) (fun j u G5 G6 hj hP hy => ?_) (fun G5 hP => ?_)
      · obtain ⟨ts, eD, hPr, sm⟩ := hP
        obtain ⟨rfl, kk, vv, hkv, rfl⟩ := hy
        rw [← hkvs] at hkv
        unfold dO at hkv
        rw [List.getElem?_map] at hkv
        obtain ⟨cj, hcj, ey⟩ := Option.map_eq_some_iff.mp hkv
        cases ey
        have lts := Paired.length hPr
        rw [dO_len, List.length_take] at lts
        refine ⟨rfl, _, rfl, by show 2 ≤ sizeLine; omega, fun t nt => ?_⟩
        obtain ⟨r1, r2, r3⟩ := pair_step (k := Sum.inr (one cj)) (u := .str "D") eD hPr nt
        refine ⟨_, (same_new (Same.refl G6) nt) _ _ eD, ?_, ts ++ [t], r1, ?_, fun b o' e => r3 b o' (ne_of_none e hD) (sm _ _ e)⟩
        · rw [List.length_map]
          exact Nat.lt_of_le_of_lt (show _ ≤ 3 by omega) (by decide)
        · rw [take_snoc hcj, dO_snoc]
          exact r2
      obtain ⟨ts, eD, hPr, sm⟩ := hP
      rw [hkl, List.take_length] at hPr
      have nDn : D ≠ nd := fun w => by
        rw [w, upd_same] at hD
        cases hD
      have u5 := same_unlock en4 sm
      have keep : ∀ {b : Addr} {xs : List V}, G5 b = some (.tup xs) → (upd G5 nd (.dK kvs)) b = some (.tup xs) := fun {b xs} e => by
        rw [upd_ne (fun w => by rw [w, sm _ _ upd_same] at e; cases e)]
        exact e
      refine ⟨sm _ _ upd_same, D, ts, _, rfl, .inl (.inl (by rw [upd_ne nDn]; exact eD)), L2.Paired.mapP hPr fun _ _ e => .inl (.inl (keep e)), fun p5 np5 => ?_⟩
      rw [merge_nil (dO_nd lnd)]
      generalize upd G5 nd (.dK kvs) = U5 at u5 np5
      have s11 := same_new (o := .dK (dO (fun _ => .str "D") (letc z))) (Same.refl U5) np5
      have sD : Same G2 (upd U5 p5 (.dK (dO (fun _ => .str "D") (letc z)))) := fun b o e => s11 _ _ (u5 _ _ (sC _ _ e))
      have sE : Same J4 (upd U5 p5 (.dK (dO (fun _ => .str "D") (letc z)))) := fun b o e => s11 _ _ (u5 _ _ e)
      have w5 : Wr K d z (upd U5 p5 (.dK (dO (fun _ => .str "D") (letc z)))) (.ref p5) := .inr (.inr ⟨p5, _, rfl, nq (fun b o e => u5 _ _ (sC _ _ e)) np5, upd_same, dO_flat fun _ _ => rfl, nok_val lne fun _ _ => by decide +kernel⟩)
      generalize upd U5 p5 (.dK (dO (fun _ => .str "D") (letc z))) = J5 at sD sE w5
      refine ⟨_, rfl, nd, kvs, rfl, .inl (sD _ _ en2), fun p6 np6 => ?_⟩
      have s12 := same_new (o := .lst (kvs.map fun kv => kV kv.1)) (Same.refl J5) np6
      have sF : Same G2 (upd J5 p6 (.lst (kvs.map fun kv => kV kv.1))) := fun b o e => s12 _ _ (sD _ _ e)
      have w6 : Wr K d z (upd J5 p6 (.lst (kvs.map fun kv => kV kv.1))) (.ref p6) := .inr (.inl ⟨p6, _, rfl, nq sD np6, .inr upd_same⟩)
      generalize upd J5 p6 (.lst (kvs.map fun kv => kV kv.1)) = J6 at s12 sF w6
      refine ⟨by show 6 ≤ sizeLine; omega, fun l6 nl6 => ?_⟩
      have s13 := same_new (o := .lst [.non, .ref t1, .ref d1, .ref p4, .ref p5, .ref p6]) (Same.refl J6) nl6
      refine ⟨l6, _, rfl, upd_same, rfl, fun v hv => ?_, fun b o e => s13 _ _ (sF _ _ e)⟩
      have q3 : Same G3 (upd J6 l6 (.lst [.non, .ref t1, .ref d1, .ref p4, .ref p5, .ref p6])) := fun b o e => s13 _ _ (s12 _ _ (sE _ _ (sB _ _ (s4 _ _ e))))
      have q4 : Same G4 (upd J6 l6 (.lst [.non, .ref t1, .ref d1, .ref p4, .ref p5, .ref p6])) := fun b o e => s13 _ _ (s12 _ _ (sE _ _ (sB _ _ e)))
      simp only [List.mem_cons, List.not_mem_nil, or_false] at hv
      rcases hv with rfl | rfl | rfl | rfl | rfl | rfl
      · exact .inl rfl
      · exact .inr (.inl ⟨t1, [], rfl, nq (Same.refl G2) nt1, .inl (q3 _ _ e3)⟩)
      · exact .inr (.inr ⟨d1, [], rfl, nq s3 nd1, q4 _ _ e4, fun k u h => (by cases h), nok_len (by rw [List.length_nil]; exact fun h => lne (List.length_eq_zero_iff.mp h.symm))⟩)
      · exact w4.exX (.of fun b o e => s13 _ _ (s12 _ _ (sE _ _ e)))
      · exact w5.exX (.of fun b o e => s13 _ _ (s12 _ _ e))
      · exact w6.exX (.of s13)
    rintro σ' G3 ⟨l6, L6, rfl, el6, ll6, hw6, s23⟩
    have en3 := s23 _ _ en2
    -- eight
    refine ⟨fun σ' G' => ∃ (l8 : Addr) (L : List V), σ' = [some (.ref d), some (.ref x), some (.str z), some (.ref nd), some (.str (mapZ kvs z)), some (.str (one cl)), some (.ref l8), none, none, none, none] ∧ G' l8 = some (.lst L) ∧ L.length = 8 ∧ (∀ v ∈ L, Wr K d z G' v) ∧ Same G2 G', ?_, ?_⟩
    · refine ⟨_, rfl, ?_⟩
      refine ⟨nd, _, en3, trivial, fun o => ?_⟩
      refine ⟨_, rfl, nd, o, rfl, .inl ⟨_, upd_same, fun D hD => ?_⟩⟩
      refine lc_it (g := gName 10) (vs := [10]) walk_keys (fun j G5 => ∃ ts : List Addr, G5 D = some (.lst (ts.map V.ref)) ∧ Paired (fun b (kv : Key × V) => G5 b = some (.tup [kV kv.1, kv.2])) ts (dO (fun c => V.str (one (g c))) (((letc z).take j).filter fun y => decide (y ≠ cl))) ∧ Same (upd G3 nd (.frz o (.dK kvs))) G5)
        ⟨[], upd_same, .nil, same_new (Same.refl _) hD⟩ (fun j G5 _ hP => by obtain ⟨_, _, _, s⟩ := hP; exact s _ _ upd_same) (fun j u G5 G6 hj hP hy => ?_) (fun G5 hP => ?_)
      · obtain ⟨ts, eD, hPr, sm⟩ := hP
        obtain ⟨rfl, kk, vv, hkv, rfl⟩ := hy
        rw [← hkvs] at hkv
        unfold dO at hkv
        rw [List.getElem?_map] at hkv
        obtain ⟨cj, hcj, ey⟩ := Option.map_eq_some_iff.mp hkv
        cases ey
        have lts := Paired.length hPr
        have lfl := List.length_filter_le (fun y => decide (y ≠ cl)) ((letc z).take j)
        rw [dO_len] at lts
        rw [List.length_take] at lfl
        refine ⟨rfl, _, rfl, _, rfl, rfl, _, rfl, ?_⟩
        show (if (!decide (V.str (one cj) = V.str (one cl))) = true then _ else _)
        rw [take_snoc hcj, List.filter_append]
        by_cases cc : cj = cl
        · have e0 : [cj].filter (fun y => decide (y ≠ cl)) = [] := by simp [cc]
          rw [decide_eq_true (show V.str (one cj) = V.str (one cl) by rw [cc]), if_neg (by decide), e0, List.append_nil]
          exact ⟨ts, eD, hPr, sm⟩
        · have e0 : [cj].filter (fun y => decide (y ≠ cl)) = [cj] := by simp [cc]
          rw [decide_eq_false (show ¬ V.str (one cj) = V.str (one cl) from fun h => cc (one_inj.mp (V.str.inj h))), if_pos (by decide), e0]
          refine ⟨_, rfl, _, rfl, _, rfl, nd, .str (one (g cj)), rfl, .inl ⟨kvs, Sum.inr (one cj), .inr ⟨o, sm _ _ upd_same⟩, rfl, (hin cj (List.mem_of_getElem? hcj)).symm⟩, by show 2 ≤ sizeLine; omega, fun t nt => ?_⟩
          obtain ⟨r1, r2, r3⟩ := pair_step (k := Sum.inr (one cj)) (u := V.str (one (g cj))) eD hPr nt
          refine ⟨_, (same_new (Same.refl G6) nt) _ _ eD, ?_, ts ++ [t], r1, ?_, fun b o' e => r3 b o' (ne_of_none e hD) (sm _ _ e)⟩
          · rw [List.length_map]
            exact Nat.lt_of_le_of_lt (show _ ≤ 3 by omega) (by decide)
          · rw [dO_snoc]
            exact r2
      obtain ⟨ts, eD, hPr, sm⟩ := hP
      rw [hkl, List.take_length] at hPr
      have nDn : D ≠ nd := fun w => by
        rw [w, upd_same] at hD
        cases hD
      have u5 := same_unlock en3 sm
      have keep : ∀ {b : Addr} {xs : List V}, G5 b = some (.tup xs) → (upd G5 nd (.dK kvs)) b = some (.tup xs) := fun {b xs} e => by
        rw [upd_ne (fun w => by rw [w, sm _ _ upd_same] at e; cases e)]
        exact e
      refine ⟨sm _ _ upd_same, D, ts, _, rfl, .inl (.inl (by rw [upd_ne nDn]; exact eD)), L2.Paired.mapP hPr fun _ _ e => .inl (.inl (keep e)), fun p7 np7 => ?_⟩
      rw [merge_nil (dO_nd (lnd.sublist List.filter_sublist))]
      generalize upd G5 nd (.dK kvs) = U5 at u5 np7
      have s11 := same_new (o := .dK (dO (fun c => .str (one (g c))) ((letc z).filter fun y => decide (y ≠ cl)))) (Same.refl U5) np7
      have w7 : Wr K d z (upd U5 p7 (.dK (dO (fun c => .str (one (g c))) ((letc z).filter fun y => decide (y ≠ cl))))) (.ref p7) := .inr (.inr ⟨p7, _, rfl, nq (fun b o e => u5 _ _ (s23 _ _ e)) np7, upd_same, dO_flat fun _ _ => rfl, nok_len (by
        rw [dO_len]
        exact Nat.ne_of_lt (filt_lt hcl))⟩)
      have sD : Same G3 (upd U5 p7 (.dK (dO (fun c => .str (one (g c))) ((letc z).filter fun y => decide (y ≠ cl))))) := fun b o e => s11 _ _ (u5 _ _ e)
      generalize upd U5 p7 (.dK (dO (fun c => .str (one (g c))) ((letc z).filter fun y => decide (y ≠ cl)))) = J4 at sD w7
      clear u5 s11
      have en4 := sD _ _ en3
      refine ⟨nd, _, en4, trivial, fun o => ?_⟩
      refine ⟨_, rfl, nd, o, rfl, .inl ⟨_, upd_same, fun D hD => ?_⟩⟩
      refine lc_it (g := gName 10) (tt := tYes) (vs := [10]) walk_keys (fun j G5 => ∃ ts : List Addr, G5 D = some (.lst (ts.map V.ref)) ∧ Paired (fun b (kv : Key × V) => G5 b = some (.tup [kV kv.1, kv.2])) ts (dO (fun _ => .non) ((letc z).take j)) ∧ Same (upd J4 nd (.frz o (.dK kvs))) G5)
        ⟨[], upd_same, .nil, same_new (Same.refl _) hD⟩ (fun j G5 _ hP => by obtain ⟨_, _, _, s⟩ := hP; exact s _ _ upd_same) (fun j u G5 G6 hj hP hy => ?_) (fun G5 hP => ?_)
      · obtain ⟨ts, eD, hPr, sm⟩ := hP
        obtain ⟨rfl, kk, vv, hkv, rfl⟩ := hy
        rw [← hkvs] at hkv
        unfold dO at hkv
        rw [List.getElem?_map] at hkv
        obtain ⟨cj, hcj, ey⟩ := Option.map_eq_some_iff.mp hkv
        cases ey
        have lts := Paired.length hPr
        rw [dO_len, List.length_take] at lts
        refine ⟨rfl, _, rfl, by show 2 ≤ sizeLine; omega, fun t nt => ?_⟩
        obtain ⟨r1, r2, r3⟩ := pair_step (k := Sum.inr (one cj)) (u := .non) eD hPr nt
        refine ⟨_, (same_new (Same.refl G6) nt) _ _ eD, ?_, ts ++ [t], r1, ?_, fun b o' e => r3 b o' (ne_of_none e hD) (sm _ _ e)⟩
        · rw [List.length_map]
          exact Nat.lt_of_le_of_lt (show _ ≤ 3 by omega) (by decide)
        · rw [take_snoc hcj, dO_snoc]
          exact r2
      obtain ⟨ts, eD, hPr, sm⟩ := hP
      rw [hkl, List.take_length] at hPr
      have nDn : D ≠ nd := fun w => by
        rw [w, upd_same] at hD
        cases hD
      have u5 := same_unlock en4 sm
      have keep : ∀ {b : Addr} {xs : List V}, G5 b = some (.tup xs) → (upd G5 nd (.dK kvs)) b = some (.tup xs) := fun {b xs} e => by
        rw [upd_ne (fun w => by rw [w, sm _ _ upd_same] at e; cases e)]
        exact e
      refine ⟨sm _ _ upd_same, D, ts, _, rfl, .inl (.inl (by rw [upd_ne nDn]; exact eD)), L2.Paired.mapP hPr fun _ _ e => .inl (.inl (keep e)), fun p8 np8 => ?_⟩
      rw [merge_nil (dO_nd lnd)]
      generalize upd G5 nd (.dK kvs) = U5 at u5 np8
      have s11 := same_new (o := .dK (dO (fun _ => .non) (letc z))) (Same.refl U5) np8
      have sE : Same J4 (upd U5 p8 (.dK (dO (fun _ => .non) (letc z)))) := fun b o e => s11 _ _ (u5 _ _ e)
      have w8 : Wr K d z (upd U5 p8 (.dK (dO (fun _ => .non) (letc z)))) (.ref p8) := .inr (.inr ⟨p8, _, rfl, nq (fun b o e => u5 _ _ (sD _ _ (s23 _ _ e))) np8, upd_same, dO_flat fun _ _ => rfl, nok_val lne fun _ _ => by decide +kernel⟩)
      generalize upd U5 p8 (.dK (dO (fun _ => .non) (letc z))) = J5 at sE w8
      refine ⟨by show 2 ≤ sizeLine; omega, fun l nl => ?_⟩
      have s12 := same_new (o := .lst [.ref p7, .ref p8]) (Same.refl J5) nl
      have el : (upd J5 l (.lst [.ref p7, .ref p8])) l = some (.lst [.ref p7, .ref p8]) := upd_same
      generalize upd J5 l (.lst [.ref p7, .ref p8]) = J6 at s12 el
      have sF : Same G3 J6 := fun b o e => s12 _ _ (sE _ _ (sD _ _ e))
      refine ⟨l6, l, _, _, rfl, rfl, sF _ _ el6, el, by rw [ll6]; show 8 ≤ sizeLine; omega, fun l8 nl8 => ?_⟩
      have s13 := same_new (o := .lst (L6 ++ [.ref p7, .ref p8])) (Same.refl J6) nl8
      refine ⟨l8, _, rfl, upd_same, by rw [List.length_append, ll6]; rfl, fun v hv => ?_, fun b o e => s13 _ _ (sF _ _ (s23 _ _ e))⟩
      rcases List.mem_append.mp hv with h | h
      · exact (hw6 v h).exX (.of fun b o e => s13 _ _ (sF _ _ e))
      simp only [List.mem_cons, List.not_mem_nil, or_false] at h
      rcases h with rfl | rfl
      · exact w7.exX (.of fun b o e => s13 _ _ (s12 _ _ (sE _ _ e)))
      · exact w8.exX (.of fun b o e => s13 _ _ (s12 _ _ e))
    clear hw6 el6 ll6
    rintro σ' G4 ⟨l8, L8, rfl, el8, ll8, hw8, s24⟩
    have en4 := s24 _ _ en2
    -- a wrong one
    refine ⟨fun σ' G' => ∃ v : V, σ' = [some (.ref d), some (.ref x), some (.str z), some (.ref nd), some (.str (mapZ kvs z)), some (.str (one cl)), some (.ref l8), some v, none, none, none] ∧ Wr K d z G' v ∧ SameX d G2 G' ∧ DiceAt G' d, ?_, ?_⟩
    · refine ⟨_, rfl, _, rfl, ?_⟩
      refine ⟨nd, _, en4, trivial, fun o => ?_⟩
      refine ⟨_, rfl, nd, o, rfl, .inl ⟨_, upd_same, fun D hD => ?_⟩⟩
      refine lc_it (g := gName 10) (tt := tYes) (vs := [10]) walk_keys (fun j G5 => ∃ ts : List Addr, G5 D = some (.lst (ts.map V.ref)) ∧ Paired (fun b (kv : Key × V) => G5 b = some (.tup [kV kv.1, kv.2])) ts (dO (fun _ => .str "AB") ((letc z).take j)) ∧ Same (upd G4 nd (.frz o (.dK kvs))) G5)
        ⟨[], upd_same, .nil, same_new (Same.refl _) hD⟩ (fun j G5 _ hP => by obtain ⟨_, _, _, s⟩ := hP; exact s _ _ upd_same) (fun j u G5 G6 hj hP hy => ?_) (fun G5 hP => ?_)
      · obtain ⟨ts, eD, hPr, sm⟩ := hP
        obtain ⟨rfl, kk, vv, hkv, rfl⟩ := hy
        rw [← hkvs] at hkv
        unfold dO at hkv
        rw [List.getElem?_map] at hkv
        obtain ⟨cj, hcj, ey⟩ := Option.map_eq_some_iff.mp hkv
        cases ey
        have lts := Paired.length hPr
        rw [dO_len, List.length_take] at lts
        refine ⟨rfl, _, rfl, by show 2 ≤ sizeLine; omega, fun t nt => ?_⟩
        obtain ⟨r1, r2, r3⟩ := pair_step (k := Sum.inr (one cj)) (u := .str "AB") eD hPr nt
        refine ⟨_, (same_new (Same.refl G6) nt) _ _ eD, ?_, ts ++ [t], r1, ?_, fun b o' e => r3 b o' (ne_of_none e hD) (sm _ _ e)⟩
        · rw [List.length_map]
          exact Nat.lt_of_le_of_lt (show _ ≤ 3 by omega) (by decide)
        · rw [take_snoc hcj, dO_snoc]
          exact r2
      obtain ⟨ts, eD, hPr, sm⟩ := hP
      rw [hkl, List.take_length] at hPr
      have nDn : D ≠ nd := fun w => by
        rw [w, upd_same] at hD
        cases hD
      have u5 := same_unlock en4 sm
      have keep : ∀ {b : Addr} {xs : List V}, G5 b = some (.tup xs) → (upd G5 nd (.dK kvs)) b = some (.tup xs) := fun {b xs} e => by
        rw [upd_ne (fun w => by rw [w, sm _ _ upd_same] at e; cases e)]
        exact e
      refine ⟨sm _ _ upd_same, D, ts, _, rfl, .inl (.inl (by rw [upd_ne nDn]; exact eD)), L2.Paired.mapP hPr fun _ _ e => .inl (.inl (keep e)), fun p9 np9 => ?_⟩
      rw [merge_nil (dO_nd lnd)]
      generalize upd G5 nd (.dK kvs) = U5 at u5 np9
      have s11 := same_new (o := .dK (dO (fun _ => .str "AB") (letc z))) (Same.refl U5) np9
      have sE : Same G4 (upd U5 p9 (.dK (dO (fun _ => .str "AB") (letc z)))) := fun b o e => s11 _ _ (u5 _ _ e)
      have w9 : Wr K d z (upd U5 p9 (.dK (dO (fun _ => .str "AB") (letc z)))) (.ref p9) := .inr (.inr ⟨p9, _, rfl, nq (fun b o e => u5 _ _ (s24 _ _ e)) np9, upd_same, dO_flat fun _ _ => rfl, nok_val lne fun _ _ => by decide +kernel⟩)
      generalize upd U5 p9 (.dK (dO (fun _ => .str "AB") (letc z))) = J5 at sE w9
      refine ⟨by show 1 ≤ sizeLine; omega, fun l nl => ?_⟩
      have s12 := same_new (o := .lst [.ref p9]) (Same.refl J5) nl
      have el : (upd J5 l (.lst [.ref p9])) l = some (.lst [.ref p9]) := upd_same
      generalize upd J5 l (.lst [.ref p9]) = J6 at s12 el
      have sF : Same G4 J6 := fun b o e => s12 _ _ (sE _ _ e)
      refine ⟨l8, l, _, _, rfl, rfl, sF _ _ el8, el, by rw [ll8]; show 9 ≤ sizeLine; omega, fun l9 nl9 => ?_⟩
      have s13 := same_new (o := .lst (L8 ++ [.ref p9])) (Same.refl J6) nl9
      have s29 : Same G2 (upd J6 l9 (.lst (L8 ++ [.ref p9]))) := fun b o e => s13 _ _ (sF _ _ (s24 _ _ e))
      have n9d := nq (fun b o e => sF _ _ (s24 _ _ e)) nl9
      refine ⟨d, .ref l9, L8 ++ [.ref p9], rfl, dice_sm s29 hd2, .inl ⟨l9, rfl, n9d, .inl (.inl (.inl upd_same))⟩, by simp, by rw [List.length_append, ll8]; show 9 ≤ 100000; decide, fun v a b c hv => ?_⟩
      have hw : Wr K d z (upd J6 l9 (.lst (L8 ++ [.ref p9]))) v := by
        rcases List.mem_append.mp hv with h | h
        · exact (hw8 v h).exX (.of fun b o e => s13 _ _ (sF _ _ e))
        · rw [List.mem_singleton.mp h]
          exact w9.exX (.of fun b o e => s13 _ _ (s12 _ _ e))
      exact ⟨v, rfl, hw.exX (ext_ofX (SameX.refl d _).atd), (SameX.of s29).atd, dice_new a b c⟩
    rintro σ' G5 ⟨v, rfl, hw, sx5, hd5⟩
    have sxA : SameX d H G5 := (sx.trans (SameX.of fun b o e => s2 _ _ (s1 _ _ e))).trans sx5
    have hP5 := hPs G5 sxA hd5
    have tb5 := tabs_dice hTb hd sxA
    refine ⟨tb5, fun G6 eN t6 => ?_⟩
    have hP6 := hP5.exN eN
    have hw6 := hw.exX (.ofN eN)
    have hd6 := dice_exN eN hd5
    have xA : ExtX d H G6 := (ext_ofX sxA).trans (.ofN eN)
    obtain ⟨⟨dx, ml, v', ll, ds, hx, _, _, _⟩, _⟩ := id hP6
    have fin : ∀ H', Same G6 H' → Q (.bl (decide (V.str "operation" = V.str "operation"))) H' := fun H' s => by
      rw [decide_eq_true rfl]
      exact q H' (xA.trans (.of s)) (t6.ext s) (dice_sm s hd6)
    rcases hw6 with rfl | ⟨p, xs, rfl, _, h | h⟩ | ⟨p, kvs', rfl, _, h, hf, hn⟩
    · refine ⟨_, rfl, x, dx, _, rfl, hx, qf_renamed _ _ _ _, _, rfl, x, z, .non, rfl, hP6, by omega, .inr ⟨⟨.type "NoneType", .base .non, kit_ty (by decide +kernel)⟩, .inr ⟨rfl, rfl, fin _ (Same.refl _)⟩⟩⟩
    · refine ⟨_, rfl, x, dx, _, rfl, hx, qf_renamed _ _ _ _, _, rfl, x, z, .ref p, rfl, hP6, by omega, .inr ⟨⟨.type "tuple", .base (.tup h), kit_ty (by decide +kernel)⟩, .inr ⟨rfl, rfl, fin _ (Same.refl _)⟩⟩⟩
    · refine ⟨_, rfl, x, dx, _, rfl, hx, qf_renamed _ _ _ _, _, rfl, x, z, .ref p, rfl, hP6, by omega, .inr ⟨⟨.type "list", .base (.lst h), kit_ty (by decide +kernel)⟩, .inr ⟨rfl, rfl, fin _ (Same.refl _)⟩⟩⟩
    · exact ⟨_, rfl, x, dx, _, rfl, hx, qf_renamed _ _ _ _, _, rfl, x, z, .ref p, rfl, hP6, by omega, .inl ⟨p, kvs', rfl, h, hf, fun o => absurd o hn, fun _ H' s => .inr ⟨rfl, rfl, fin _ s⟩⟩⟩
end
end Kl

set_option maxRecDepth 100000
set_option maxHeartbeats 4000000
/-! data that can be compared, part by part -/
namespace Gx
open PySem PySem.Spec PyProof.Rows L2 Mx
structure Lay (n : Nat) (d : PyData) : Prop where
  c : d.canLay0 = true
  p : d.depth ≤ n
theorem lay_all {n : Nat} : ∀ {ds : List PyData}, (∀ d ∈ ds, Lay n d) → PyData.canLayAll0 ds = true ∧ PyData.depthAll ds ≤ n
  | [], _ => ⟨rfl, Nat.zero_le _⟩
  | d :: ds, h => by
    obtain ⟨i1, i2⟩ := lay_all (ds := ds) fun x hx => h x (List.mem_cons_of_mem _ hx)
    obtain ⟨a, b⟩ := h d List.mem_cons_self
    exact ⟨by rw [PyData.canLayAll0, a, i1]; rfl, by rw [PyData.depthAll]; exact Nat.max_le.mpr ⟨b, i2⟩⟩
theorem Lay.tup {n : Nat} {ds : List PyData} (h : ∀ d ∈ ds, Lay n d) : Lay (n + 1) (.tuple ds) := by
  obtain ⟨a, b⟩ := lay_all h
  exact ⟨by simp only [PyData.canLay0]; exact a, by rw [PyData.depth]; omega⟩
theorem Lay.lst {n : Nat} {ds : List PyData} (h : ∀ d ∈ ds, Lay n d) : Lay (n + 1) (.list ds) := by
  obtain ⟨a, b⟩ := lay_all h
  exact ⟨by simp only [PyData.canLay0]; exact a, by rw [PyData.depth]; omega⟩
theorem Lay.str {n : Nat} {z : Str} (h : PyData.strOk z = true) : Lay n (.str z) := ⟨by simp only [PyData.canLay0]; exact h, by rw [PyData.depth]; exact Nat.zero_le _⟩
theorem Lay.int {n : Nat} (i : Int) : Lay n (.int i) := ⟨rfl, by rw [PyData.depth]; exact Nat.zero_le _⟩
theorem Lay.bl {n : Nat} (b : Bool) : Lay n (.bool b) := ⟨rfl, by rw [PyData.depth]; exact Nat.zero_le _⟩
theorem Lay.non {n : Nat} : Lay n .none := ⟨rfl, by rw [PyData.depth]; exact Nat.zero_le _⟩
theorem Lay.up {m n : Nat} {d : PyData} (h : Lay m d) (k : m ≤ n) : Lay n d := ⟨h.c, Nat.le_trans h.p k⟩
theorem Lay.txts {n : Nat} {q : List Str} (h : ∀ z ∈ q, PyData.strOk z = true) : Lay (n + 1) (.tuple (tD q)) := .tup fun d hd => by
  obtain ⟨z, hz, rfl⟩ := List.mem_map.mp hd
  exact .str (h z hz)
theorem lay_cons {n : Nat} {d : PyData} {ds : List PyData} (h : Lay n d) (r : ∀ e ∈ ds, Lay n e) : ∀ e ∈ d :: ds, Lay n e := fun e he => by
  rcases List.mem_cons.mp he with rfl | he
  · exact h
  · exact r e he
theorem lay_nil {n : Nat} : ∀ e ∈ ([] : List PyData), Lay n e := fun e he => nomatch he
theorem Lay.shaped {n : Nat} {d : PyData} (h : Lay n d) (hn : n ≤ 64) : SeqAt.shaped d = true := by
  unfold SeqAt.shaped
  rw [Bool.and_eq_true]
  exact ⟨h.c, decide_eq_true (Nat.le_trans h.p hn)⟩
end Gx

set_option maxRecDepth 100000
set_option maxHeartbeats 4000000
/-! ### a text so many times -/
namespace Gx
open PySem PySem.Spec PyProof.Rows L2
def repS (x : Str) (k : Nat) : Str := ⟨(List.replicate k x.cps).foldl (· ++ ·) #[]⟩
def rMulS : R2 := fun x y H Q => ∃ (z : Str) (k : Nat), x = .str z ∧ y = .int (k : Nat) ∧ 2 ≤ k ∧ 1 ≤ z.length ∧ z.length ≤ 1000 ∧ k ≤ 1000 ∧ Q (.str (repS z k)) H
section
variable {X : Cx}
theorem rep_size (a : Array Nat) : ∀ (k : Nat) (b : Array Nat), ((List.replicate k a).foldl (· ++ ·) b).size = b.size + k * a.size
  | 0, b => by simp
  | k + 1, b => by
    rw [List.replicate_succ, List.foldl_cons, rep_size a k, Array.size_append, Nat.succ_mul]
    omega
theorem op_mulS : OpR X (binaryOp .Mult) rMulS := by
  intro pins s σ H x y v u Q I rx ry h
  obtain ⟨z, k, rfl, rfl, h2, hz1, hz, hk, q⟩ := h
  obtain ⟨t, rfl⟩ := rx
  obtain ⟨t', rfl⟩ := ry
  have e1 : ¬ ((k : Nat) : Int) < 1 := by omega
  have e2 : ((((k : Nat) : Int) == 1 || z.length == 0)) = false := by
    rw [Bool.or_eq_false_iff]
    refine ⟨?_, ?_⟩
    · exact beq_false_of_ne (by omega)
    · exact beq_false_of_ne (by omega)
  have sz : z.length * k ≤ sizeLine := Nat.le_trans (Nat.mul_le_mul hz hk) (by decide)
  refine PySem.P.mul_str ?_ (fun _ _ => ?_) (fun _ _ => ?_) ?_
  · rw [decide_eq_false (show ¬ ((k : Nat) : Int) < -(2 ^ 63 : Int) by omega), decide_eq_false (show ¬ ((k : Nat) : Int) ≥ 2 ^ 63 by omega)]
    rfl
  · have h3 : (1000 : Int) ≤ (2 ^ 63 - 1) / ((k : Nat) : Int) := Int.le_ediv_of_mul_le (by omega) (by omega)
    omega
  · rw [Int.toNat_natCast]
    exact decide_eq_false (by omega)
  · rw [if_neg e1, e2, if_neg (by decide), Int.toNat_natCast]
    refine ⟨?_, .str (repS z k), H, I.tok _, ⟨_, rfl⟩, q⟩
    show _ ≤ sizeLine
    have h4 := rep_size z.cps k #[]
    have h5 : (repS z k).length = #[].size + k * z.cps.size := h4
    have h6 : z.cps.size = z.length := rfl
    have h7 : k * z.cps.size = z.length * k := by rw [h6, Nat.mul_comm]
    have h8 : (#[] : Array Nat).size = 0 := rfl
    show ((List.replicate k z.cps).foldl (· ++ ·) #[]).size ≤ sizeLine
    omega
end
end Gx

set_option maxRecDepth 100000
set_option maxHeartbeats 4000000
namespace Gx
open PySem PySem.Spec PyProof.Rows L2
def rMulB : R2 := fun x y H Q => ∃ (z : Str) (k : Nat), x = .str z ∧ y = .int (k : Nat) ∧ 2 ≤ k ∧ 1 ≤ z.length ∧ z.length ≤ 100 ∧ k ≤ 10000 ∧ Q (.str (repS z k)) H
theorem op_mulB {X : Cx} : OpR X (binaryOp .Mult) rMulB := by
  intro pins s σ H x y v u Q I rx ry h
  obtain ⟨z, k, rfl, rfl, h2, hz1, hz, hk, q⟩ := h
  obtain ⟨t, rfl⟩ := rx
  obtain ⟨t', rfl⟩ := ry
  have e1 : ¬ ((k : Nat) : Int) < 1 := by omega
  have e2 : ((((k : Nat) : Int) == 1 || z.length == 0)) = false := by
    rw [Bool.or_eq_false_iff]
    exact ⟨beq_false_of_ne (by omega), beq_false_of_ne (by omega)⟩
  have sz : z.length * k ≤ sizeLine := Nat.le_trans (Nat.mul_le_mul hz hk) (by decide)
  refine PySem.P.mul_str ?_ (fun _ _ => ?_) (fun _ _ => ?_) ?_
  · rw [decide_eq_false (show ¬ ((k : Nat) : Int) < -(2 ^ 63 : Int) by omega), decide_eq_false (show ¬ ((k : Nat) : Int) ≥ 2 ^ 63 by omega)]
    rfl
  · have h3 : (1000 : Int) ≤ (2 ^ 63 - 1) / ((k : Nat) : Int) := Int.le_ediv_of_mul_le (by omega) (by omega)
    omega
  · rw [Int.toNat_natCast]
    exact decide_eq_false (by omega)
  · rw [if_neg e1, e2, if_neg (by decide), Int.toNat_natCast]
    refine ⟨?_, .str (repS z k), H, I.tok _, ⟨_, rfl⟩, q⟩
    have h4 := rep_size z.cps k #[]
    have h7 : k * z.cps.size = z.length * k := Nat.mul_comm ..
    have h8 : (#[] : Array Nat).size = 0 := rfl
    show ((List.replicate k z.cps).foldl (· ++ ·) #[]).size ≤ sizeLine
    omega
theorem repS_len (z : Str) (k : Nat) : (repS z k).length = k * z.length := by
  have h4 := rep_size z.cps k #[]
  show ((List.replicate k z.cps).foldl (· ++ ·) #[]).size = k * z.cps.size
  rw [h4]
  exact Nat.zero_add _
theorem repS_mem {z : Str} {k c : Nat} (h : c ∈ (repS z k).cps.toList) : c ∈ z.cps.toList := by
  have : ∀ (n : Nat) (b : Array Nat), c ∈ ((List.replicate n z.cps).foldl (· ++ ·) b).toList → c ∈ b.toList ∨ c ∈ z.cps.toList := fun n => by
    induction n with
    | zero => exact fun b h => .inl h
    | succ n ih =>
      intro b h
      rw [List.replicate_succ, List.foldl_cons] at h
      rcases ih _ h with h | h
      · rw [Array.toList_append, List.mem_append] at h
        exact h
      · exact .inr h
  rcases this k #[] h with h | h
  · cases h
  · exact h
theorem look_hit {x n : Str} {k : NameKind} {l : List (Str × NameKind)} (h : (x == n) = true) : List.lookup x ((n, k) :: l) = some k := by rw [List.lookup_cons, h]
theorem relab_cell {env : Env} : ∀ {names : List (Str × NameKind)} {x : Str}, names.lookup x = some .cell →
    (names.map fun (n, k) => if (k == NameKind.free && env.scope.kind == .function && env.kindOf n == some .cell) then (n, NameKind.cell) else (n, k)).lookup x = some .cell
  | [], _, h => by simp at h
  | (n, k) :: r, x, h => by
    have ih := @relab_cell env r x
    show List.lookup x ((if (k == NameKind.free && env.scope.kind == .function && env.kindOf n == some .cell) = true then (n, NameKind.cell) else (n, k)) :: _) = _
    cases hx : x == n with
    | true =>
      simp only [List.lookup_cons, hx] at h
      cases h
      split
      · exact look_hit hx
      · exact look_hit hx
    | false =>
      simp only [List.lookup_cons, hx] at h
      split <;> simp only [List.lookup_cons, hx] <;> exact ih h
theorem relab_free {env : Env} : ∀ {names : List (Str × NameKind)} {x : Str}, names.lookup x = some .free →
    (names.map fun (n, k) => if (k == NameKind.free && env.scope.kind == .function && env.kindOf n == some .cell) then (n, NameKind.cell) else (n, k)).lookup x = some .cell ∨ (names.map fun (n, k) => if (k == NameKind.free && env.scope.kind == .function && env.kindOf n == some .cell) then (n, NameKind.cell) else (n, k)).lookup x = some .free
  | [], _, h => by simp at h
  | (n, k) :: r, x, h => by
    have ih := @relab_free env r x
    show List.lookup x ((if (k == NameKind.free && env.scope.kind == .function && env.kindOf n == some .cell) = true then (n, NameKind.cell) else (n, k)) :: _) = _ ∨ List.lookup x ((if (k == NameKind.free && env.scope.kind == .function && env.kindOf n == some .cell) = true then (n, NameKind.cell) else (n, k)) :: _) = _
    cases hx : x == n with
    | true =>
      simp only [List.lookup_cons, hx] at h
      cases h
      split
      · exact .inl (look_hit hx)
      · exact .inr (look_hit hx)
    | false =>
      simp only [List.lookup_cons, hx] at h
      split <;> simp only [List.lookup_cons, hx] <;> exact ih h
/-- a lambda within a comprehension -/
theorem lamS_in {sc scope : Scope} {env : Env} (h : LamX.LamS sc scope) : LamX.LamS (relabel sc env) scope :=
  ⟨h.kind, h.co, h.gen, h.own, fun y hy e => (h.free y hy e).elim (fun k => .inl (relab_cell k)) relab_free⟩
end Gx
namespace Kl
open PySem PySem.Spec PyProof.Rows L2 Gx Mx LamX
section
variable {P : Program} {w : World} {K : PySem.W.Frag} {mg : Str → Option Value} {base : Heap}
theorem blk_qual {X : Cx} {scope : Scope} {s : Shared} {H : Hp} {C : Addr} {cl : List (Str × Addr)} {fp : List Addr} : (X.blk s H scope (compEnvC scope cl C X.env) fp).env.qual = X.env.qual := rfl
/-- _law_said(lambda: body), in a comprehension -/
theorem pe_saidc {X : Cx} {q : Str} {Tb : List (Addr × Str)} {c P Cp Co : Addr} {k : Nat} {params : Arguments} {body : Expr} {scope : Scope} {t : XK → TE} {p lpos pos : Pos} (T : Top X.K X.mg) (R : Ers X.K X.mg Cp Co) (hgl : Gl X "_law_said") (hr : Room (k + 2) X.A)
    (TB : TabB X.base X.mg c P) (hcode : X.env.code = .ref c) (hmT : (P, q ++ "<lambda>") ∈ Tb) (hu : ∀ p ∈ Tb, p.1 = P → p.2 = q ++ "<lambda>") (hq : X.env.qual = q) (L : LamS X.env.scope scope) (hdef : defaultsOf params X.env = ([], []))
    (hbind : ∀ (q : Str) (cl : List (Str × Addr)) (pm cv ctv : Value), bindArgs (PySem.W.kla_fn "<lambda>" q params body scope cl pm cv ctv) ⟨[], []⟩ = pure [])
    (hbody : ∀ (A : Around) (outer : List Env) (s : Shared) (H : Hp) (E : XK) (f c' : Addr), Room k (A.deeper (lamEnv X scope s.heap.objs.size f c')) → PE (lamCx X A outer s H E scope f c') body (t E)) :
    PE X (.Call (.Name "_law_said" p) [.Lambda params body scope lpos] [] pos) (tLam Tb (TSaid Cp Co) t) := by
  subst hq
  exact pe_said T R hgl hr TB hcode hmT hu L hdef hbind hbody
theorem sqL_xnew {K : PySem.W.Frag} {G G' : Hp} {d a : Addr} {xs : List V} (nd : G d = none) (x : ExtX d G G') (h : SqL K G a xs) : SqL K G' a xs := by
  rcases h with (h | ⟨o, h⟩) | h
  · exact .inl (.inl (x _ _ (ne_of_none h nd) h (fun _ z => by cases z)))
  · exact .inl (.inr ⟨o, x _ _ (ne_of_none h nd) h (fun _ z => by cases z)⟩)
  · exact .inr h
theorem pl_low : ∀ (p : Pl), p.ok → ∀ c ∈ p.txt, c < 128
  | .lt c, h => fun d hd => by
    rw [List.mem_singleton.mp hd]
    have h := of_decide_eq_true (h : isL c = true)
    omega
  | .put p, h => fun d hd => by
    rcases List.mem_append.mp hd with hd | hd
    · exact pl_low p h d hd
    · rw [List.mem_singleton.mp hd]
      decide
  | .meld p q, h => fun d hd => by
    have hd : d ∈ 40 :: (p.txt ++ 43 :: (q.txt ++ [41])) := hd
    rcases List.mem_cons.mp hd with rfl | hd
    · decide
    rcases List.mem_append.mp hd with hd | hd
    · exact pl_low p h.1 d hd
    rcases List.mem_cons.mp hd with rfl | hd
    · decide
    rcases List.mem_append.mp hd with hd | hd
    · exact pl_low q h.2 d hd
    · rw [List.mem_singleton.mp hd]
      decide
abbrev BAD1 : List Str := ["", "A'''''", "A+B", "(A)", "(A+B", "A+B)", "'A", "(A+B+C)", "((A+B)", "(A +B)", "D", "a", "A B", "A'B"]
abbrev GOOD : List Str := ["A", "B''''", "((((A+A)+A)+A)+A)", "(A'+(B+C'))", "((A+B)+(B+C))"]
/-- what is no text of a plan -/
def Bd (C : Addr) (G : Hp) (v : V) : Prop := (∃ z, v = .str z ∧ z.length ≤ 4500 ∧ planB z.cps.toList = false) ∨ v = .non ∨ (∃ n, v = .int n) ∨ (∃ b, v = .bl b) ∨ (∃ p xs, v = .ref p ∧ (G p = some (.tup xs) ∨ G p = some (.lst xs))) ∨ (∃ p kvs, v = .ref p ∧ G p = some (.dK kvs)) ∨ ∃ p dx fs, v = .ref p ∧ G p = some (.ins C dx fs)
theorem Bd.exN {C : Addr} {G G' : Hp} {v : V} (h : Bd C G v) (s : ExtN G G') : Bd C G' v := by
  rcases h with h | h | h | h | ⟨p, xs, e, h | h⟩ | ⟨p, kvs, e, h⟩ | ⟨p, dx, fs, e, h⟩
  · exact .inl h
  · exact .inr (.inl h)
  · exact .inr (.inr (.inl h))
  · exact .inr (.inr (.inr (.inl h)))
  · exact .inr (.inr (.inr (.inr (.inl ⟨p, xs, e, .inl (s _ _ h fun _ => nofun)⟩))))
  · exact .inr (.inr (.inr (.inr (.inl ⟨p, xs, e, .inr (s _ _ h fun _ => nofun)⟩))))
  · exact .inr (.inr (.inr (.inr (.inr (.inl ⟨p, kvs, e, s _ _ h fun _ => nofun⟩)))))
  · exact .inr (.inr (.inr (.inr (.inr (.inr ⟨p, dx, fs, e, s _ _ h fun _ => nofun⟩)))))
theorem bad1_no : ∀ z ∈ BAD1, z.length ≤ 4500 ∧ planB z.cps.toList = false := by decide +kernel
theorem good_yes : ∀ z ∈ GOOD, z.length ≤ 4500 ∧ planB z.cps.toList = true := by decide +kernel
theorem many_no : planB (repS "(" 4000).cps.toList = false := by
  cases h : planB (repS "(" 4000).cps.toList with
  | false => rfl
  | true =>
    obtain ⟨p, hp, ht, _⟩ := (planB_iff _).mp h
    obtain ⟨c, hc, hl⟩ := pl_lt p hp
    rw [ht] at hc
    have h2 := repS_mem hc
    rw [show ("(" : Str).cps.toList = [40] by decide +kernel] at h2
    rw [List.mem_singleton.mp h2] at hl
    cases hl
abbrev ANS : List Str := List.replicate 25 ("plan" : Str) ++ List.replicate 5 ("fine" : Str)
theorem ans_lo {j : Nat} (h : j < 25) : ANS[j]? = some ("plan" : Str) := by
  rw [List.getElem?_append_left (by rw [List.length_replicate]; exact h), List.getElem?_replicate, if_pos h]
theorem ans_hi {j : Nat} (h : 25 ≤ j) (h2 : j < 30) : ANS[j]? = some ("fine" : Str) := by
  rw [List.getElem?_append_right (by rw [List.length_replicate]; exact h), List.length_replicate, List.getElem?_replicate, if_pos (by omega)]
/-! ### the law -/
def spLaw (K : PySem.W.Frag) (Tb : List (Addr × Str)) : Sp := fun vs H Q _ => ∃ (a : Addr) (ns : List Int), vs = [.ref a] ∧ SqL K H a (ns.map V.int) ∧ ns.length ≤ 63 ∧ Tabs Tb H ∧ ∀ H', Q (.bl true) H'
abbrev NLW : List Str := ["_law_script", "_law_spot", "_law_dice_here", "_law_turn", "_law_plan", "_law_text", "_law_made", "_law_many", "_law_told", "_law_bent_here", "_law_bad", "_law_good"]
theorem ok_law {f c1 P1 c2 P2 : Addr} {fd : FuncData} {Tb : List (Addr × Str)} (F : Fun K "law" "law" s_law f fd) (gl : mg "law" = some (.ref f)) (Lx : Lam K mg base Tb "_law_renamed_right" c1 P1) (Ll : Lam K mg base Tb "law" c2 P2)
    (T : Top K mg) (noPO : ∀ C1 C2, mg "InvalidPlan" = some (.ref C1) → mg "InvalidOperation" = some (.ref C2) → PySem.W.exmOne K (.ref C2) (.ref C1) = some false) : FnG P w K mg base CX0 80 f fd ["_law_script"] (spLaw K Tb) := by
  obtain ⟨C, TC⟩ := T.c_Plan
  obtain ⟨Cp, XP, CP, ep⟩ := T.p_InvalidPlan
  obtain ⟨Co, XO, CO, eo⟩ := T.p_InvalidOperation
  obtain ⟨tm, gm⟩ := T.g_MAX_PLAN
  have R : Ers K mg Cp Co := ⟨XP, CP, ep, XO, CO, eo, noPO Cp Co XP.gC XO.gC⟩
  have ci : Cal P w K mg base 79 "_law_dice" ["_law_script", "_law_spot"] (spDice K) := (T.d_law_dice.cal fun f fd F => ok_dice F T).mono (by decide)
  have cr : Cal P w K mg base 79 "_law_roll" ["_law_dice_here", "_law_total"] spRoll := (T.d_law_roll.cal fun f fd F => ok_roll F T).mono (by decide)
  have cdp : Cal P w K mg base 79 "_law_drawn_plan" ["_law_dice_here", "_law_many"] (spDPl K 4) := (T.d_law_drawn_plan.cal fun f fd F => ok_dpl 4 F T).mono (by decide)
  have cpt : Cal P w K mg base 79 "_law_plan_text" ["_law_plan"] (spPT K 4) := (T.d_law_plan_text.cal fun f fd F => ok_pt 4 F T).mono (by decide)
  have cle : Cal P w K mg base 79 "_law_letters" ["_law_plan"] (spLE K) := (T.d_law_letters.cal fun f fd F => ok_le F T).mono (by decide)
  have cb : Cal P w K mg base 79 "_law_bent" ["_law_dice_here", "_law_text"] spBent := (T.d_law_bent.cal fun f fd F => ok_bent F T).mono (by decide)
  have cis : Cal P w K mg base 79 "_law_is_plan" ["_law_text"] (spIP K 30) := (T.d_law_is_plan.cal fun f fd F => ok_ip (n := 30) F T).mono (by decide)
  have crr : CalG P w K mg base 79 "_law_renamed_right" ["_law_dice_here", "_law_made", "_law_text"] (spRR K C Tb) := (Def.calGL T.d_law_renamed_right fun f fd g F => ok_rr F (Lx.of g F) Lx.tb Lx.mem Lx.one T TC R).up (by decide)
  have cq4 : CalIX P w K mg base C 78 ["self", "text"] (spQInit K C Cp) := by
    obtain ⟨f, fd, m, F, b⟩ := TC.made
    exact ⟨f, fd, m, (ok_qinit F T TC XP CP).mono (by decide), b⟩
  have cq6 : CalIX P w K mg base C 6 ["self", "text"] (spQInit K C Cp) := by
    obtain ⟨f, fd, m, F, b⟩ := TC.made
    exact ⟨f, fd, m, (ok_qinit F T TC XP CP).mono (by decide), b⟩
  have kTxt : CalP P w K mg base C "text" 78 (spQText K C) := (TC.p_text.cal fun f fd F => ok_qtext F TC).mono (by decide)
  have kLet : CalP P w K mg base C "letters" 78 (spQLet K C) := (TC.p_letters.cal fun f fd F => ok_qlet F TC).mono (by decide)
  have kDee : CalP P w K mg base C "deeds" 78 (spQLen K C) := (TC.p_deeds.cal fun f fd F => ok_qdeeds F T TC).mono (by decide)
  have kLen : CalM P w K mg base C "__len__" 78 ["self"] (spQLen K C) := (TC.m_len.cal fun f fd F => ok_qlen F T TC).mono (by decide)
  have kStr : CalM P w K mg base C "__str__" 77 ["self"] (spQText K C) := (TC.m_str.cal fun f fd F => ok_qstr F T TC).mono (by decide)
  have kEq : CalM P w K mg base C "__eq__" 79 ["self", "other"] (spQEq K C) := (TC.m_eq.cal fun f fd F => ok_qeq F T TC).mono (by decide)
  refine okGL F (Ll.of gl F) sc_law (fun vs H Q E h => ?_) (fun A outer s H vs Q E hg hr h => ?_)
  · obtain ⟨a, ns, rfl, _⟩ := h
    rfl
  · obtain ⟨a, ns, rfl, hS, hlen, hTb, q⟩ := h
    refine ⟨_, pss_cut (ps_for PassesOwn.never rfl (pi_range1 (by rfl) T.b_range (pa_cons (pe_callB (call_max2 rfl) (by rfl) T.b_max (by decide +kernel) (pa_cons pe_int (pa_cons
          (pe_callB (call_min2 rfl) (by rfl) T.b_min (by decide +kernel) (pa_cons pe_int (pa_cons (pe_callB call_len_seq (by rfl) T.b_len PySem.boot_len (pa_cons (pv 0) pa_nil)) pa_nil))) pa_nil))) pa_nil))
          (pg_name (i := 1) sc_law.nd rfl (.inl rfl))
        (pss_cut (ps_set (i := 2) sc_law.nd rfl (by first | exact .inl rfl | exact .inr rfl) (pe_cal ci hr (by rfl) (pa_cons (pv 0) (pa_cons (pv 1) pa_nil))))
        (pss_one (ps_for PassesOwn.never rfl (pi_range1 (by rfl) T.b_range (pa_cons pe_int pa_nil)) (pg_name (i := 3) sc_law.nd rfl (.inl rfl))
          (pss_cut (ps_set (i := 4) sc_law.nd rfl (by first | exact .inl rfl | exact .inr rfl) (pe_cal cdp hr (by rfl) (pa_cons (pv 2) (pa_cons (pe_cal cr hr (by rfl) (pa_cons (pv 2) (pa_cons pe_int pa_nil))) pa_nil))))
          (pss_cut (ps_set (i := 5) sc_law.nd rfl (by first | exact .inl rfl | exact .inr rfl) (pe_cal cpt hr (by rfl) (pa_cons (pv 4) pa_nil)))
          (pss_cut (ps_set (i := 6) sc_law.nd rfl (by first | exact .inl rfl | exact .inr rfl) (pe_makeX (E := fun _ => E0) cq4 hr (by rfl) TC.gC (fun σ => neverAt σ) (pa_cons (pv 5) pa_nil)))
          (pss_cut (ps_set (i := 7) sc_law.nd rfl (by first | exact .inl rfl | exact .inr rfl) (pe_op op_add (pe_m1 PySem.F.slot_str_count PySem.F.type_str_count mt_count (pv 5) pe_str) (pe_m1 PySem.F.slot_str_count PySem.F.type_str_count mt_count (pv 5) pe_str)))
          (pss_cut (ps_set (i := 8) sc_law.nd rfl (by first | exact .inl rfl | exact .inr rfl) (pe_lst (pa_cons (pe_propC (pv 6) TC.cl kTxt hr rfl) (pa_cons (pe_propC (pv 6) TC.cl kLet hr rfl) (pa_cons (pe_propC (pv 6) TC.cl kDee hr rfl) (pa_cons (pe_callB (call_lenM kLen hr) (by rfl) T.b_len PySem.boot_len (pa_cons (pv 6) pa_nil)) (pa_cons (pe_callTy (call_strM kStr hr) (by rfl) T.b_str (by decide +kernel) (pa_cons (pv 6) pa_nil)) (pa_cons (pe_cmpR (op_eqM kEq hr) (pv 6) (pe_makeX (E := fun _ => E0) cq4 hr (by rfl) TC.gC (fun σ => neverAt σ) (pa_cons (pv 5) pa_nil)) (by rfl)) (pa_cons (pe_cmpR (op_eqMS kEq hr) (pv 6) (pv 5) (by rfl)) pa_nil)))))))))
          (pss_cut (ps_if (pt_cmpR (op_neD hr.units) (pv 8) (pe_lst (pa_cons (pv 5) (pa_cons (pe_callTy call_tuple_of (by rfl) T.b_tuple (by decide +kernel) (pa_cons (pe_cal cle hr (by rfl) (pa_cons (pv 4) pa_nil)) pa_nil)) (pa_cons (pv 7) (pa_cons (pv 7) (pa_cons (pv 5) (pa_cons pe_bl (pa_cons pe_bl pa_nil)))))))) (by rfl)) (pss_one (ps_ret pe_bl)) pss_nil)
          (pss_cut (ps_set (i := 9) sc_law.nd rfl (by first | exact .inl rfl | exact .inr rfl) (pe_cal cb hr (by rfl) (pa_cons (pv 2) (pa_cons (pv 5) pa_nil))))
          (pss_cut (ps_set (i := 9) sc_law.nd rfl (by first | exact .inl rfl | exact .inr rfl) (pe_ifExp (pt_cmpR op_gt (pe_cal cr hr (by rfl) (pa_cons (pv 2) (pa_cons pe_int pa_nil))) pe_int (by rfl)) (pv 9) (pe_cal cb hr (by rfl) (pa_cons (pv 2) (pa_cons (pv 9) pa_nil)))))
          (pss_cut (ps_if (pt_cmpR op_ne (pe_cmpR op_eq (pe_said (k := 7) T R (by rfl) (hr.mono (by decide)) Ll.tb rfl Ll.mem Ll.one (lamS_by (sc := defScope s_law) (by decide +kernel)) rfl (fun _ _ _ _ _ => rfl) (fun A outer s H E f c' hr' => pe_makeX cq6 hr' (by rfl) TC.gC (fun σ => passAt (takes_of rfl rfl rfl rfl) σ) (pa_cons (pv 9) pa_nil))) pe_str (by rfl)) (pe_cal cis hr (by rfl) (pa_cons (pv 9) pa_nil)) (by rfl)) (pss_one (ps_ret pe_bl)) pss_nil)
          (pss_cut (ps_if (PW.pt (pw_and (pt_val (pe_cal cis hr (by rfl) (pa_cons (pv 9) pa_nil))) (pw_and1 (pt_cmpR op_ne (pe_cmpR (op_eqM kEq hr) (pe_makeX (E := fun _ => E0) cq4 hr (by rfl) TC.gC (fun σ => neverAt σ) (pa_cons (pv 9) pa_nil)) (pv 6) (by rfl)) (pe_cmpR op_eq (pv 9) (pv 5) (nomark _)) (by rfl))))) (pss_one (ps_ret pe_bl)) pss_nil)
          (pss_one (ps_if (pt_not (pt_val (pe_calG crr hg hr (by rfl) (pa_cons (pv 2) (pa_cons (pv 6) (pa_cons (pv 5) pa_nil)))))) (pss_one (ps_ret pe_bl)) pss_nil))))))))))))))))
      (pss_cut (ps_set (i := 10) sc_law.nd rfl (by first | exact .inl rfl | exact .inr rfl) (pe_lst (pa_cons pe_str (pa_cons pe_str (pa_cons pe_str (pa_cons pe_str (pa_cons pe_str (pa_cons pe_str (pa_cons pe_str (pa_cons pe_str (pa_cons pe_str (pa_cons pe_str (pa_cons pe_str (pa_cons pe_str (pa_cons pe_str (pa_cons pe_str pa_nil))))))))))))))))
      (pss_cut (ps_set (i := 10) sc_law.nd rfl (by first | exact .inl rfl | exact .inr rfl) (pe_op op_cat (pv 10) (pe_lst (pa_cons pe_str (pa_cons pe_str (pa_cons (pe_op op_mulB pe_str pe_int) (pa_cons pe_non (pa_cons pe_int (pa_cons (pe_tup (pa_cons pe_str pa_nil)) (pa_cons (pe_lst (pa_cons pe_str pa_nil)) (pa_cons pe_dnewK (pa_cons pe_bl (pa_cons (pe_makeX (E := fun _ => E0) cq4 hr (by rfl) TC.gC (fun σ => neverAt σ) (pa_cons pe_str pa_nil)) (pa_cons pe_str pa_nil))))))))))))))
      (pss_cut (ps_set (i := 11) sc_law.nd rfl (by first | exact .inl rfl | exact .inr rfl) (pe_lst (pa_cons pe_str (pa_cons pe_str (pa_cons pe_str (pa_cons pe_str (pa_cons pe_str pa_nil)))))))
      (pss_cut (ps_setLc (i := 8) (own := [("_law_text", 5)]) (g := gName 5) (tt := tYes) (by rfl) sc_law.nd rfl rfl (sw_true rfl rfl rfl (by decide +kernel)) (pi_list (pe_op op_cat (pv 10) (pv 11))) (blkOk_by (N := NLW) (sc := defScope s_law) (by decide +kernel))
          (fun _ _ _ _ _ => pg_name (i := 5) sc_law.nd rfl (.inr rfl)) (fun _ _ _ _ _ => pts_nil) (fun _ _ _ _ _ => (pe_saidc (k := 7) T R (by rfl) (hr.mono (by decide)) Ll.tb (by exact rfl) Ll.mem Ll.one (blk_qual.trans rfl) (lamS_in (lamS_by (by decide +kernel))) rfl (fun _ _ _ _ _ => rfl) (fun A outer s H E f c' hr' => pe_makeX cq6 hr' (by rfl) TC.gC (fun σ => passAt (takes_of rfl rfl rfl rfl) σ) (pa_cons (pv 5) pa_nil)))))
      (pss_one (ps_ret (pe_and (pe_cmpR (op_eqD hr.units) (pv 8) (pe_op op_cat (pe_op op_rep (pe_lst (pa_cons pe_str pa_nil)) (pe_callB call_len_seq (by rfl) T.b_len PySem.boot_len (pa_cons (pv 10) pa_nil))) (pe_op op_rep (pe_lst (pa_cons pe_str pa_nil)) (pe_callB call_len_seq (by rfl) T.b_len PySem.boot_len (pa_cons (pv 11) pa_nil)))) (by rfl))
          (pe_one (pe_cmpR op_eq (pe_glob (v := .int 4) (by rfl) gm ⟨_, rfl⟩) pe_int (nomark _)))))))))), ?_⟩
    have big : 100000 ≤ sizeLine := by decide
    -- the turns
    refine ⟨fun σ' G => (∃ (y1 y2 y3 y4 y5 y6 y7 y8 y9 : Option V), σ' = [some (.ref a), y1, y2, y3, y4, y5, y6, y7, y8, y9, none, none]) ∧ Tabs Tb G, ?_, ?_⟩
    · refine ⟨_, rfl, a, _, rfl, .inl hS, _, _, rfl, _, _, rfl, _, rfl, ?_, ?_, ?_⟩
      · split <;> split <;> omega
      · split <;> split <;> omega
      refine for_range (lo := 0) (fun i σ' G => (∃ (y1 y2 y3 y4 y5 y6 y7 y8 y9 : Option V), σ' = [some (.ref a), y1, y2, y3, y4, y5, y6, y7, y8, y9, none, none]) ∧ SqL K G a (ns.map V.int) ∧ Tabs Tb G) ⟨⟨_, _, _, _, _, _, _, _, _, rfl⟩, hS, hTb⟩ (fun i σ' G hi hP => ?_) (fun σ' G hP => ⟨hP.1, hP.2.2⟩)
      obtain ⟨⟨y1, y2, y3, y4, y5, y6, y7, y8, y9, rfl⟩, hSG, t0⟩ := hP
      -- the dice
      refine ⟨fun σ' G' => ∃ (y1 : Option V) (d : Addr), σ' = [some (.ref a), y1, some (.ref d), y3, y4, y5, y6, y7, y8, y9, none, none] ∧ DiceAt G' d ∧ G d = none ∧ ExtX d G G' ∧ Tabs Tb G', ?_, ?_⟩
      · refine ⟨_, rfl, _, rfl, a, ns, i, ?_, hSG, hlen, ?_, fun d x0 b0 nd => ⟨_, d, rfl, ⟨x0, b0, 0, upd_same⟩, nd, .of (same_new (Same.refl G) nd), t0.ext (same_new (Same.refl G) nd)⟩⟩
        · show [V.ref a, V.int (0 + (i : Int))] = _
          rw [Int.zero_add]
        · have : i < 6 := by
            revert hi
            split <;> split <;> omega
          omega
      rintro σ' G1 ⟨y1, d, rfl, hd, nd, x1, t1⟩
      refine ⟨_, rfl, by decide, by decide, ?_⟩
      refine for_range (lo := 0) (fun j σ' G' => (∃ (y3 y4 y5 y6 y7 y8 y9 : Option V), σ' = [some (.ref a), y1, some (.ref d), y3, y4, y5, y6, y7, y8, y9, none, none]) ∧ DiceAt G' d ∧ ExtX d G G' ∧ Tabs Tb G') ⟨⟨_, _, _, _, _, _, _, rfl⟩, hd, x1, t1⟩ (fun j σ' G2 hj hP => ?_) (fun σ' G2 hP => ?_)
      rotate_left
      · obtain ⟨⟨y3, y4, y5, y6, y7, y8, y9, rfl⟩, _, x2, t2⟩ := hP
        exact ⟨⟨_, _, _, _, _, _, _, _, _, rfl⟩, sqL_xnew nd x2 hSG, t2⟩
      clear hd x1 t1 y3 y4 y5 y6 y7 y8 y9
      obtain ⟨⟨y3, y4, y5, y6, y7, y8, y9, rfl⟩, hd2, x2, t2⟩ := hP
      -- a plan
      refine ⟨fun σ' G' => ∃ (y3 : Option V) (v : V) (p : Pl), σ' = [some (.ref a), y1, some (.ref d), y3, some v, y5, y6, y7, y8, y9, none, none] ∧ p.ok ∧ p.cnt ≤ 4 ∧ PlnV K G' v p ∧ SameX d G2 G' ∧ DiceAt G' d, ?_, ?_⟩
      · refine ⟨_, rfl, _, rfl, d, 5, rfl, hd2, by decide, by decide, fun r x b c h0 h1 => ?_⟩
        obtain ⟨k, rfl⟩ := Int.eq_ofNat_of_zero_le h0
        exact ⟨d, k, rfl, by omega, by omega, dice_new x b c, fun v p H' sx hd' hp hc hv => ⟨_, v, p, rfl, hp, by omega, hv, ((SameX.refl d G2).atd).trans sx, hd'⟩⟩
      rintro σ' G3 ⟨y3, v, p, rfl, hp, hcp, hv, sx3, hd3⟩
      have t3 := tabs_dice t2 hd2 sx3
      have x3 := x2.trans (ext_ofX sx3)
      clear x2 t2 hd2 sx3
      have hdeep := deep_cnt p
      have htl := txt_len p
      have hzl : (ofL p.txt).length = p.txt.length := ofL_len p.txt
      have hpB : planB (ofL p.txt).cps.toList = true := (planB_iff _).mpr ⟨p, hp, rfl, hcp⟩
      -- its text
      refine ⟨fun σ' G' => σ' = [some (.ref a), y1, some (.ref d), y3, some v, some (.str (ofL p.txt)), y6, y7, y8, y9, none, none] ∧ G3 = G', ?_, ?_⟩
      · exact ⟨_, rfl, v, p, rfl, hv, by omega, by omega, rfl, rfl⟩
      rintro σ' G' ⟨rfl, rfl⟩
      obtain ⟨z, hz⟩ : ∃ z, ofL p.txt = z := ⟨_, rfl⟩
      have hzc : z.cps.toList = p.txt := by rw [← hz]
      rw [hz] at hzl hpB ⊢
      -- made of it
      refine ⟨fun σ' G' => ∃ x : Addr, σ' = [some (.ref a), y1, some (.ref d), y3, some v, some (.str z), some (.ref x), y7, y8, y9, none, none] ∧ Same G3 G' ∧ ∀ G, ExtX d G' G → PlanAt K C G x z, ?_, ?_⟩
      · refine ⟨_, rfl, fun x dx nx ndx nxx => ?_⟩
        have sN : Same G3 (upd (upd G3 dx (.own x)) x (.ins C dx [])) := fun b o e => by
          rw [upd_ne (ne_of_none e nx), upd_ne (ne_of_none e ndx)]
          exact e
        refine ⟨x, dx, .str z, rfl, upd_same, .inl ⟨z, rfl, by omega, fun H' _ hP keep far => ⟨rfl, x, rfl, fun b o e => keep b o (ne_of_none e nx) (sN _ _ e), fun G s => far d (dice_sm sN hd3) G s⟩, fun H' h _ => by rw [hpB] at h; cases h⟩⟩
      rintro σ' G4 ⟨x, rfl, s34, far⟩
      have hv4 := hv.same s34
      have hd4 := dice_sm s34 hd3
      have t4 := t3.ext s34
      have x4 := x3.trans (.of s34)
      clear hv hd3 t3 x3 s34
      have hP4 := far G4 (.refl d G4)
      obtain ⟨⟨dx, ml, rv, ll, ds, hx, hml, hrd, hll⟩, _⟩ := id hP4
      have hrc : readS z.cps.toList = some p.cnt := by
        rw [hzc]
        exact (read_iff _ _).mpr ⟨p, hp, rfl, rfl⟩
      have hdl : ds.length = p.cnt := by
        rw [hrd] at hrc
        exact Option.some.inj hrc
      -- its signs counted
      refine ⟨fun σ' G' => σ' = [some (.ref a), y1, some (.ref d), y3, some v, some (.str z), some (.ref x), some (.int (p.cnt : Nat)), y8, y9, none, none] ∧ G4 = G', ?_, ?_⟩
      · refine ⟨_, rfl, ⟨_, rfl⟩, z, _, rfl, rfl, _, rfl, ⟨_, rfl⟩, z, _, rfl, rfl, _, _, rfl, rfl, ?_, rfl⟩
        obtain ⟨_, _, _, a4, a5, a6, a7⟩ := lits
        have e : Txt.count z "'" + Txt.count z "+" = ((p.cnt : Nat) : Int) := by
          rw [a7, a5, show Txt.count z (one 39) = _ from Mx.count_cnt z 39, show Txt.count z (one 43) = _ from Mx.count_cnt z 43, cnt_count, cnt_count, hzc]
          have := cnt_txt p hp
          omega
        show [some (V.ref a), y1, some (V.ref d), y3, some v, some (V.str z), some (V.ref x), some (V.int (Txt.count z "'" + Txt.count z "+")), y8, y9, none, none] = _
        rw [e]
      rintro σ' G' ⟨rfl, rfl⟩
      -- what the plan tells
      refine ⟨fun σ' G' => ∃ (l8 l2 : Addr), σ' = [some (.ref a), y1, some (.ref d), y3, some v, some (.str z), some (.ref x), some (.int (p.cnt : Nat)), some (.ref l8), y9, none, none] ∧ G' l8 = some (.lst [.str z, .ref l2, .int (p.cnt : Nat), .int (p.cnt : Nat), .str z, .bl true, .bl false]) ∧ SqT K G' l2 ((lets z).map V.str) ∧ Same G4 G', ?_, ?_⟩
      · refine ⟨_, rfl, x, dx, _, rfl, hx, x, z, rfl, hP4, ?_⟩
        refine ⟨_, rfl, x, dx, _, rfl, hx, x, z, rfl, hP4, fun l2 hl2 => ?_⟩
        refine ⟨_, rfl, x, dx, _, rfl, hx, x, z, rfl, hP4, fun m hm => ?_⟩
        rw [hrc] at hm
        have hm := (Option.some.inj hm).symm
        subst hm
        refine ⟨_, rfl, x, dx, _, rfl, hx, x, z, rfl, hP4, fun m hm => ⟨m, rfl, ?_, ?_⟩⟩
        · rw [hrc] at hm
          have hm := (Option.some.inj hm).symm
          omega
        rw [hrc] at hm
        have hm := (Option.some.inj hm).symm
        subst hm
        refine ⟨_, rfl, x, dx, _, rfl, hx, x, z, rfl, hP4, z, rfl, ?_⟩
        refine ⟨_, rfl, _, rfl, fun x2 dx2 nx2 ndx2 nxx2 => ?_⟩
        have sN : Same G4 (upd (upd G4 dx2 (.own x2)) x2 (.ins C dx2 [])) := fun b o e => by
          rw [upd_ne (ne_of_none e nx2), upd_ne (ne_of_none e ndx2)]
          exact e
        refine ⟨x2, dx2, .str z, rfl, upd_same, .inl ⟨z, rfl, by omega, fun H' _ hP' keep _ => ⟨rfl, ?_⟩, fun H' h _ => by rw [hpB] at h; cases h⟩⟩
        have s5 : Same G4 H' := fun b o e => keep b o (ne_of_none e nx2) (sN _ _ e)
        obtain ⟨⟨dx', ml', rv', ll', ds', hx', _⟩, _⟩ := id hP'
        refine ⟨x, dx, _, _, rfl, s5 _ _ hx, .ins hx', x, z, .ref x2, rfl, hP4.same s5, .inl ⟨x2, z, rfl, hP', _, rfl, ?_⟩⟩
        rw [decide_eq_true rfl]
        refine ⟨_, rfl, _, rfl, x, dx, _, z, rfl, rfl, s5 _ _ hx, x, z, .str z, rfl, hP4.same s5, .inr ⟨.type "str", .base (.str z), TC.kit_str, _, rfl, ?_⟩⟩
        refine ⟨by show 7 ≤ sizeLine; omega, fun l8 nl8 => ⟨l8, l2, rfl, upd_same, ?_, fun b o e => same_new (Same.refl H') nl8 _ _ (s5 _ _ e)⟩⟩
        exact sqT_st (fun b o e => same_new (Same.refl H') nl8 _ _ (s5 _ _ e)) hl2
      rintro σ' G5 ⟨l8, l2, rfl, el8, hl2, s45⟩
      have hv5 := hv4.same s45
      have hd5 := dice_sm s45 hd4
      have t5 := t4.ext s45
      have x5 := x4.trans (.of s45)
      have far5 : ∀ G, ExtX d G5 G → PlanAt K C G x z := fun G e => far G ((ExtX.of s45).trans e)
      clear hv4 hd4 t4 x4 far hP4 hx hml hll
      have zlow : PyData.strOk z = true := by
        show z.cps.all _ = true
        rw [Array.all_eq_true']
        intro c hc
        have hc2 : c ∈ p.txt := by rw [← hzc]; exact Array.mem_toList_iff.mpr hc
        exact decide_eq_true (Nat.lt_trans (pl_low p hp c hc2) (by decide))
      have lok : ∀ y ∈ lets z, PyData.strOk y = true := fun y hy => by
        obtain ⟨c, hc, rfl⟩ := List.mem_map.mp hy
        have h1 := (letc_mem.mp hc).1
        unfold isL at h1
        have h2 := of_decide_eq_true h1
        rcases h2 with rfl | rfl | rfl <;> decide +kernel
      have hlay : Lay 2 (.list [.str z, .tuple (tD (lets z)), .int (p.cnt : Nat), .int (p.cnt : Nat), .str z, .bool true, .bool false]) :=
        .lst (lay_cons (.str zlow) (lay_cons (.txts lok) (lay_cons (.int _) (lay_cons (.int _) (lay_cons (.str zlow) (lay_cons (.bl _) (lay_cons (.bl _) lay_nil)))))))
      -- .. is what is due
      refine ⟨fun σ' G' => σ' = [some (.ref a), y1, some (.ref d), y3, some v, some (.str z), some (.ref x), some (.int (p.cnt : Nat)), some (.ref l8), y9, none, none] ∧ Same G5 G', ?_, ?_⟩
      · refine ⟨_, rfl, _, rfl, _, rfl, v, p, rfl, hv5, by omega, by omega, fun l G' s e => ?_⟩
        rw [hz] at e
        refine ⟨l, _, rfl, .inl ⟨.inl (.inl e), fun tl ntl => ?_⟩⟩
        have s6 := same_new (o := .tup ((lets z).map V.str)) (Same.refl G') ntl
        have etl : (upd G' tl (.tup ((lets z).map V.str))) tl = some (.tup ((lets z).map V.str)) := upd_same
        generalize upd G' tl (.tup ((lets z).map V.str)) = G6 at s6 etl
        refine ⟨_, rfl, _, rfl, _, rfl, by show 7 ≤ sizeLine; omega, fun l9 nl9 => ?_⟩
        have s7 := same_new (o := .lst [.str z, .ref tl, .int (p.cnt : Nat), .int (p.cnt : Nat), .str z, .bl true, .bl false]) (Same.refl G6) nl9
        have el9 : (upd G6 l9 (.lst [.str z, .ref tl, .int (p.cnt : Nat), .int (p.cnt : Nat), .str z, .bl true, .bl false])) l9 = some (.lst [.str z, .ref tl, .int (p.cnt : Nat), .int (p.cnt : Nat), .str z, .bl true, .bl false]) := upd_same
        have s57 : Same G5 (upd G6 l9 (.lst [.str z, .ref tl, .int (p.cnt : Nat), .int (p.cnt : Nat), .str z, .bl true, .bl false])) := fun b o e => s7 _ _ (s6 _ _ (s _ _ e))
        refine ⟨_, _, .lst (.inl (.inl (s57 _ _ el8))) (.cons (.str z) (.cons (.tup (sqT_st s57 hl2) (dp_texts _)) (.cons (.int _) (.cons (.int _) (.cons (.str z) (.cons (.bl _) (.cons (.bl _) .nil))))))), .lst (.inl (.inl el9)) (.cons (.str z) (.cons (.tup (.inl (.inl (s7 _ _ etl))) (dp_texts _)) (.cons (.int _) (.cons (.int _) (.cons (.str z) (.cons (.bl _) (.cons (.bl _) .nil))))))), hlay.shaped (by decide), hlay.shaped (by decide), ?_⟩
        rw [PySem.SeqAt.eqv_refl _ hlay.c]
        refine ⟨_, rfl, ?_⟩
        show (if (!true) = true then _ else _)
        rw [if_neg (by decide)]
        exact ⟨rfl, s57⟩
      rintro σ' G6 ⟨rfl, s56⟩
      have hd6 := dice_sm s56 hd5
      have t6 := t5.ext s56
      have x6 := x5.trans (.of s56)
      have far6 : ∀ G, ExtX d G6 G → PlanAt K C G x z := fun G e => far5 G ((ExtX.of s56).trans e)
      clear hd5 t5 x5 far5 hv5 hl2 el8
      -- bent
      refine ⟨fun σ' G' => ∃ zb : Str, σ' = [some (.ref a), y1, some (.ref d), y3, some v, some (.str z), some (.ref x), some (.int (p.cnt : Nat)), some (.ref l8), some (.str zb), none, none] ∧ zb.length ≤ 20 ∧ SameX d G6 G' ∧ DiceAt G' d, ?_, ?_⟩
      · exact ⟨_, rfl, _, rfl, d, z, rfl, hd6, by omega, fun z' H' hl sx hd' => ⟨z', rfl, by omega, sx, hd'⟩⟩
      rintro σ' G7 ⟨zb, rfl, hzb, sx7, hd7⟩
      refine ⟨fun σ' G' => ∃ zb : Str, σ' = [some (.ref a), y1, some (.ref d), y3, some v, some (.str z), some (.ref x), some (.int (p.cnt : Nat)), some (.ref l8), some (.str zb), none, none] ∧ zb.length ≤ 23 ∧ SameX d G6 G' ∧ DiceAt G' d, ?_, ?_⟩
      · refine ⟨_, rfl, d, 3, rfl, hd7, by decide, by decide, fun r x b c _ _ => ⟨_, _, rfl, rfl, _, rfl, ?_⟩⟩
        have sx1 : SameX d G7 (upd G7 d (.lst [.int x, .int b, .int c])) := (SameX.refl d G7).atd
        have hd1 : DiceAt (upd G7 d (.lst [.int x, .int b, .int c])) d := dice_new x b c
        generalize upd G7 d (.lst [.int x, .int b, .int c]) = G8 at sx1 hd1
        refine ite2 (fun _ => ?_) (fun _ => ?_)
        · exact ⟨_, rfl, zb, rfl, by omega, sx7.trans sx1, hd1⟩
        · exact ⟨_, rfl, _, rfl, d, zb, rfl, hd1, by omega, fun z' H' hl sx hd' => ⟨z', rfl, by omega, (sx7.trans sx1).trans sx, hd'⟩⟩
      clear hzb sx7 hd7 zb
      rintro σ' G7 ⟨zb, rfl, hzb, sx7, hd7⟩
      have t7 := tabs_dice t6 hd6 sx7
      have x7 := x6.trans (ext_ofX sx7)
      have far7 : ∀ G, ExtX d G7 G → PlanAt K C G x z := fun G e => far6 G ((ext_ofX sx7).trans e)
      clear hd6 t6 x6 far6 sx7
      have hP7 := far7 G7 (.refl d G7)
      -- what making a plan of it says
      refine ⟨fun σ' G' => σ' = [some (.ref a), y1, some (.ref d), y3, some v, some (.str z), some (.ref x), some (.int (p.cnt : Nat)), some (.ref l8), some (.str zb), none, none] ∧ ExtN G7 G' ∧ Tabs Tb G', ?_, ?_⟩
      · refine ⟨t7, fun G8 eN t8 => ?_⟩
        refine ⟨_, rfl, fun x' dx' nx' ndx' nxx' => ?_⟩
        have sN : Same G8 (upd (upd G8 dx' (.own x')) x' (.ins C dx' [])) := fun b o e => by
          rw [upd_ne (ne_of_none e nx'), upd_ne (ne_of_none e ndx')]
          exact e
        refine ⟨x', dx', .str zb, rfl, upd_same, .inl ⟨zb, rfl, by omega, fun H' hb _ keep _ => ⟨rfl, ?_⟩, fun H' hb s => .inl ⟨rfl, ?_⟩⟩⟩
        · have s8 : Same G8 H' := fun b o e => keep b o (ne_of_none e nx') (sN _ _ e)
          refine ⟨rfl, _, rfl, zb, rfl, by omega, by omega, fun H2 s2 => ⟨rfl, _, rfl, ?_⟩⟩
          have s9 : Same G8 H2 := fun b o e => s2 _ _ (s8 _ _ e)
          rw [hb]
          show (if (!decide (V.bl (decide (V.str "fine" = V.str "fine")) = V.bl true)) = true then _ else _)
          rw [show decide (V.str "fine" = V.str "fine") = true from decide_eq_true rfl, decide_eq_true rfl, if_neg (by decide)]
          exact ⟨rfl, ext_sm eN s9, t8.ext s9⟩
        · have s8 : Same G8 H' := fun b o e => s _ _ (sN _ _ e)
          refine ⟨rfl, _, rfl, zb, rfl, by omega, by omega, fun H2 s2 => ⟨rfl, _, rfl, ?_⟩⟩
          have s9 : Same G8 H2 := fun b o e => s2 _ _ (s8 _ _ e)
          rw [hb]
          show (if (!decide (V.bl (decide (V.str "plan" = V.str "fine")) = V.bl false)) = true then _ else _)
          rw [show decide (V.str "plan" = V.str "fine") = false by decide +kernel, decide_eq_true rfl, if_neg (by decide)]
          exact ⟨rfl, ext_sm eN s9, t8.ext s9⟩
      rintro σ' G8 ⟨rfl, e78, t8⟩
      have hd8 := dice_exN e78 hd7
      have x8 := x7.trans (.ofN e78)
      have far8 : ∀ G, ExtX d G8 G → PlanAt K C G x z := fun G e => far7 G ((ExtX.ofN e78).trans e)
      clear hd7 t7 x7 far7 hP7 e78
      have hP8 := far8 G8 (.refl d G8)
      -- .. and whether it is the same plan
      refine ⟨fun σ' G' => σ' = [some (.ref a), y1, some (.ref d), y3, some v, some (.str z), some (.ref x), some (.int (p.cnt : Nat)), some (.ref l8), some (.str zb), none, none] ∧ Same G8 G', ?_, ?_⟩
      · refine ⟨_, rfl, zb, rfl, by omega, by omega, fun H1 s1 => ⟨_, rfl, ?_⟩⟩
        cases hb : planB zb.cps.toList with
        | false =>
          show (if false = true then _ else _)
          rw [if_neg (by decide)]
          show (if false = true then _ else _)
          rw [if_neg (by decide)]
          exact ⟨rfl, s1⟩
        | true =>
          show (if true = true then _ else _)
          rw [if_pos rfl]
          refine ⟨_, rfl, fun x' dx' nx' ndx' nxx' => ?_⟩
          have sN : Same H1 (upd (upd H1 dx' (.own x')) x' (.ins C dx' [])) := fun b o e => by
            rw [upd_ne (ne_of_none e nx'), upd_ne (ne_of_none e ndx')]
            exact e
          refine ⟨x', dx', .str zb, rfl, upd_same, .inl ⟨zb, rfl, by omega, fun H' _ hP' keep _ => ⟨rfl, ?_⟩, fun H' h _ => by rw [hb] at h; cases h⟩⟩
          have s2 : Same G8 H' := fun b o e => keep b o (ne_of_none (s1 _ _ e) nx') (sN _ _ (s1 _ _ e))
          have hPx := hP8.same s2
          obtain ⟨⟨dxa, _, _, _, _, hxa, _⟩, _⟩ := id hP'
          obtain ⟨⟨dxb, _, _, _, _, hxb, _⟩, _⟩ := id hPx
          refine ⟨_, rfl, x', dxa, _, _, rfl, hxa, .ins hxb, x', zb, .ref x, rfl, hP', .inl ⟨x, z, rfl, hPx, _, rfl, ?_⟩⟩
          refine ⟨_, rfl, _, rfl, rfl, rfl, _, rfl, ?_⟩
          show (if (!decide (V.bl (decide (zb = z)) = V.bl (decide (V.str zb = V.str z)))) = true then _ else _)
          rw [show decide (V.str zb = V.str z) = decide (zb = z) by rw [decide_eq_decide]; exact ⟨V.str.inj, fun h => by rw [h]⟩, decide_eq_true rfl, if_neg (by decide)]
          exact ⟨rfl, s2⟩
      rintro σ' G9 ⟨rfl, s89⟩
      have hd9 := dice_sm s89 hd8
      have t9 := t8.ext s89
      have x9 := x8.trans (.of s89)
      have far9 : ∀ G, ExtX d G9 G → PlanAt K C G x z := fun G e => far8 G ((ExtX.of s89).trans e)
      refine ⟨_, rfl, _, rfl, _, rfl, d, x, z, rfl, hd9, t9, far9 G9 (.refl d G9), by omega, fun G s _ => far9 G (ext_ofX s), fun H' xx tt dd => ⟨_, rfl, ?_⟩⟩
      show (if (!true) = true then _ else _)
      rw [if_neg (by decide)]
      exact ⟨⟨_, _, _, _, _, _, _, rfl⟩, dd, x9.trans xx, tt⟩
    rintro σ' G1 ⟨⟨y1, y2, y3, y4, y5, y6, y7, y8, y9, rfl⟩, t1⟩
    -- texts that are no plans
    refine ⟨fun σ' G => ∃ l : Addr, σ' = [some (.ref a), y1, y2, y3, y4, y5, y6, y7, y8, y9, some (.ref l), none] ∧ G l = some (.lst (BAD1.map V.str)) ∧ Tabs Tb G, ?_, ?_⟩
    · exact ⟨by show 14 ≤ sizeLine; omega, fun l nl => ⟨l, rfl, upd_same, t1.ext (same_new (Same.refl G1) nl)⟩⟩
    clear t1
    rintro σ' G2 ⟨l, rfl, el, t2⟩
    refine ⟨fun σ' G => ∃ (l3 : Addr) (B : List V), σ' = [some (.ref a), y1, y2, y3, y4, y5, y6, y7, y8, y9, some (.ref l3), none] ∧ G l3 = some (.lst B) ∧ B.length = 25 ∧ (∀ v ∈ B, Bd C G v) ∧ Tabs Tb G, ?_, ?_⟩
    · refine ⟨_, rfl, "(", 4000, rfl, rfl, by decide, by decide +kernel, by decide +kernel, by decide, ?_⟩
      refine ⟨by show 1 ≤ sizeLine; omega, fun ta nta => ⟨by show 1 ≤ sizeLine; omega, fun la nla => ?_⟩⟩
      have s1 := same_new (o := .tup [.str "A"]) (Same.refl G2) nta
      have ea : (upd G2 ta (.tup [.str "A"])) ta = some (.tup [.str "A"]) := upd_same
      generalize upd G2 ta (.tup [.str "A"]) = G3 at s1 ea nla
      have s2 := same_new (o := .lst [.str "A"]) (Same.refl G3) nla
      have ela : (upd G3 la (.lst [.str "A"])) la = some (.lst [.str "A"]) := upd_same
      generalize upd G3 la (.lst [.str "A"]) = G4 at s2 ela
      intro da nda
      have s3 := same_new (o := .dK []) (Same.refl G4) nda
      have eda : (upd G4 da (.dK [])) da = some (.dK []) := upd_same
      generalize upd G4 da (.dK []) = G5 at s3 eda
      intro x dx nx ndx nxx
      have sN : Same G5 (upd (upd G5 dx (.own x)) x (.ins C dx [])) := fun b o e => by
        rw [upd_ne (ne_of_none e nx), upd_ne (ne_of_none e ndx)]
        exact e
      refine ⟨x, dx, .str "A", rfl, upd_same, .inl ⟨"A", rfl, by decide +kernel, fun H' _ hP' keep _ => ⟨rfl, ?_⟩, fun H' h _ => absurd h (by decide +kernel)⟩⟩
      have s4 : Same G5 H' := fun b o e => keep b o (ne_of_none e nx) (sN _ _ e)
      obtain ⟨⟨dxa, _, _, _, _, hxa, _⟩, _⟩ := id hP'
      refine ⟨by show 11 ≤ sizeLine; omega, fun l2 nl2 => ?_⟩
      have s5 := same_new (o := .lst [.str "()", .str "((((A+A)+A)+A)+A)'", .str (repS "(" 4000), .non, .int 0, .ref ta, .ref la, .ref da, .bl true, .ref x, .str "A\n"]) (Same.refl H') nl2
      have el2 : (upd H' l2 (.lst [.str "()", .str "((((A+A)+A)+A)+A)'", .str (repS "(" 4000), .non, .int 0, .ref ta, .ref la, .ref da, .bl true, .ref x, .str "A\n"])) l2 = some (.lst [.str "()", .str "((((A+A)+A)+A)+A)'", .str (repS "(" 4000), .non, .int 0, .ref ta, .ref la, .ref da, .bl true, .ref x, .str "A\n"]) := upd_same
      have s25 : Same G2 (upd H' l2 (.lst [.str "()", .str "((((A+A)+A)+A)+A)'", .str (repS "(" 4000), .non, .int 0, .ref ta, .ref la, .ref da, .bl true, .ref x, .str "A\n"])) := fun b o e => s5 _ _ (s4 _ _ (s3 _ _ (s2 _ _ (s1 _ _ e))))
      refine ⟨l, l2, _, _, rfl, rfl, s25 _ _ el, el2, by show 25 ≤ sizeLine; omega, fun l3 nl3 => ?_⟩
      have s6 := same_new (o := .lst (BAD1.map V.str ++ [.str "()", .str "((((A+A)+A)+A)+A)'", .str (repS "(" 4000), .non, .int 0, .ref ta, .ref la, .ref da, .bl true, .ref x, .str "A\n"])) (Same.refl _) nl3
      refine ⟨l3, _, rfl, upd_same, rfl, fun v hv => ?_, t2.ext fun b o e => s6 _ _ (s25 _ _ e)⟩
      rcases List.mem_append.mp hv with h | h
      · obtain ⟨z, hz, rfl⟩ := List.mem_map.mp h
        obtain ⟨b1, b2⟩ := bad1_no z hz
        exact .inl ⟨z, rfl, b1, b2⟩
      simp only [List.mem_cons, List.not_mem_nil, or_false] at h
      rcases h with rfl | rfl | rfl | rfl | rfl | rfl | rfl | rfl | rfl | rfl | rfl
      · exact .inl ⟨_, rfl, by decide +kernel, by decide +kernel⟩
      · exact .inl ⟨_, rfl, by decide +kernel, by decide +kernel⟩
      · exact .inl ⟨_, rfl, by rw [repS_len]; decide +kernel, many_no⟩
      · exact .inr (.inl rfl)
      · exact .inr (.inr (.inl ⟨_, rfl⟩))
      · exact .inr (.inr (.inr (.inr (.inl ⟨ta, _, rfl, .inl (s6 _ _ (s5 _ _ (s4 _ _ (s3 _ _ (s2 _ _ ea)))))⟩))))
      · exact .inr (.inr (.inr (.inr (.inl ⟨la, _, rfl, .inr (s6 _ _ (s5 _ _ (s4 _ _ (s3 _ _ ela))))⟩))))
      · exact .inr (.inr (.inr (.inr (.inr (.inl ⟨da, _, rfl, s6 _ _ (s5 _ _ (s4 _ _ eda))⟩)))))
      · exact .inr (.inr (.inr (.inl ⟨_, rfl⟩)))
      · exact .inr (.inr (.inr (.inr (.inr (.inr ⟨x, _, _, rfl, s6 _ _ (s5 _ _ hxa)⟩)))))
      · exact .inl ⟨_, rfl, by decide +kernel, by decide +kernel⟩
    clear el t2
    rintro σ' G3 ⟨l3, B, rfl, el3, lB, hB, t3⟩
    -- texts that are plans
    refine ⟨fun σ' G => ∃ l4 : Addr, σ' = [some (.ref a), y1, y2, y3, y4, y5, y6, y7, y8, y9, some (.ref l3), some (.ref l4)] ∧ G l4 = some (.lst (GOOD.map V.str)) ∧ Same G3 G, ?_, ?_⟩
    · exact ⟨by show 5 ≤ sizeLine; omega, fun l nl => ⟨l, rfl, upd_same, same_new (Same.refl G3) nl⟩⟩
    rintro σ' G4 ⟨l4, rfl, el4, s34⟩
    have el3 := s34 _ _ el3
    have t4 := t3.ext s34
    have hB4 : ∀ v ∈ B, Bd C G4 v := fun v hv => (hB v hv).exN (.of s34)
    clear hB t3
    -- what is said of each
    refine ⟨fun σ' G => ∃ l8 : Addr, σ' = [some (.ref a), y1, y2, y3, y4, y5, y6, y7, some (.ref l8), y9, some (.ref l3), some (.ref l4)] ∧ G l8 = some (.lst (ANS.map V.str)) ∧ ExtN G4 G, ?_, ?_⟩
    · refine ⟨_, rfl, _, rfl, l3, l4, _, _, rfl, rfl, el3, el4, by rw [lB]; show 30 ≤ sizeLine; omega, fun lc nlc => ?_⟩
      have sc := same_new (o := .lst (B ++ GOOD.map V.str)) (Same.refl G4) nlc
      have elc : (upd G4 lc (.lst (B ++ GOOD.map V.str))) lc = some (.lst (B ++ GOOD.map V.str)) := upd_same
      generalize upd G4 lc (.lst (B ++ GOOD.map V.str)) = G5 at sc elc
      refine ⟨lc, rfl, ⟨_, .inl (.inl elc)⟩, fun D hD => ?_⟩
      have nD := new_n (.of (Same.refl G5)) hD
      have t5 := t4.ext sc
      refine lc_it (g := gName 5) (tt := tYes) (vs := [5]) (walk_list (K := K) (a := lc) (xs := B ++ GOOD.map V.str)) (fun j G' => G' D = some (.lst ((ANS.take j).map V.str)) ∧ ExtN G5 G' ∧ Tabs Tb G')
        ⟨upd_same, .of (same_new (Same.refl G5) hD), t5.ext (same_new (Same.refl G5) hD)⟩ (fun j G' _ h => .inl (.inl (h.2.1 _ _ elc (fun _ z => by cases z)))) (fun j u Gx G' hj h hy => ?_) (fun G' h => ?_)
      · obtain ⟨eD, eN, tt⟩ := h
        obtain ⟨rfl, hu⟩ := hy
        have hu : (B ++ GOOD.map V.str)[j]? = some u := hu
        refine ⟨rfl, tt, fun G6 eN6 t6 => ?_⟩
        have eD6 := eN6 _ _ eD (fun _ z => by cases z)
        have fin : ∀ (y : Str) (H' : Hp), ANS[j]? = some y → Same G6 H' → ∃ xs, H' D = some (.lst xs) ∧ xs.length < sizeLine ∧ (upd H' D (.lst (xs ++ [.str y]))) D = some (.lst ((ANS.take (j + 1)).map V.str)) ∧ ExtN G5 (upd H' D (.lst (xs ++ [.str y]))) ∧ Tabs Tb (upd H' D (.lst (xs ++ [.str y]))) := fun y H' hy s => by
          refine ⟨_, s _ _ eD6, ?_, ?_, ext_lst (ext_sm (eN.trans eN6) s) nD, tabs_lst (t6.ext s) (s _ _ eD6)⟩
          · rw [List.length_map, List.length_take]
            exact Nat.lt_of_le_of_lt (Nat.min_le_right _ _) (by decide)
          · rw [upd_same, take_snoc hy, List.map_append]
            rfl
        refine ⟨_, rfl, fun x dx nx ndx nxx => ?_⟩
        have sN : Same G6 (upd (upd G6 dx (.own x)) x (.ins C dx [])) := fun b o e => by
          rw [upd_ne (ne_of_none e nx), upd_ne (ne_of_none e ndx)]
          exact e
        by_cases hj25 : j < 25
        · have hm : u ∈ B := by
            rw [List.getElem?_append_left (by omega)] at hu
            exact List.mem_of_getElem? hu
          have hb := (hB4 u hm).exN ((ExtN.of sc).trans ((eN.trans eN6).trans (.of sN)))
          have hy : ANS[j]? = some ("plan" : Str) := ans_lo hj25
          refine ⟨x, dx, u, rfl, upd_same, ?_⟩
          rcases hb with ⟨z, rfl, lz, nz⟩ | rfl | ⟨n, rfl⟩ | ⟨b, rfl⟩ | ⟨p, xs, rfl, h | h⟩ | ⟨p, kvs, rfl, h⟩ | ⟨p, dx', fs, rfl, h⟩
          · exact .inl ⟨z, rfl, lz, fun H' h _ _ _ => (by rw [nz] at h; cases h), fun H' _ s => .inl ⟨rfl, fin "plan" H' hy fun b o e => s _ _ (sN _ _ e)⟩⟩
          · exact .inr ⟨⟨_, (.base .non), (kit_ty (by decide +kernel))⟩, .inl ⟨rfl, fin "plan" _ hy sN⟩⟩
          · exact .inr ⟨⟨_, (.base (.int _)), (kit_ty (by decide +kernel))⟩, .inl ⟨rfl, fin "plan" _ hy sN⟩⟩
          · exact .inr ⟨⟨_, (.base (.bl _)), (kit_ty (by decide +kernel))⟩, .inl ⟨rfl, fin "plan" _ hy sN⟩⟩
          · exact .inr ⟨⟨_, (.base (.tup h)), (kit_ty (by decide +kernel))⟩, .inl ⟨rfl, fin "plan" _ hy sN⟩⟩
          · exact .inr ⟨⟨_, (.base (.lst h)), (kit_ty (by decide +kernel))⟩, .inl ⟨rfl, fin "plan" _ hy sN⟩⟩
          · exact .inr ⟨⟨_, (.base (.dK h)), (kit_ty (by decide +kernel))⟩, .inl ⟨rfl, fin "plan" _ hy sN⟩⟩
          · exact .inr ⟨⟨_, (.base (.ins h TC.cl TC.ca TC.cg TC.ct TC.ob)), TC.kitS⟩, .inl ⟨rfl, fin "plan" _ hy sN⟩⟩
        · rw [List.getElem?_append_right (by omega), List.getElem?_map] at hu
          obtain ⟨z, hz, rfl⟩ := Option.map_eq_some_iff.mp hu
          have hm := List.mem_of_getElem? hz
          obtain ⟨g1, g2⟩ := good_yes z hm
          have hl5 := (List.getElem?_eq_some_iff.mp hz).1
          have hj30 : j < 30 := by
            have : GOOD.length = 5 := rfl
            omega
          have hy : ANS[j]? = some ("fine" : Str) := ans_hi (by omega) hj30
          exact ⟨x, dx, .str z, rfl, upd_same, .inl ⟨z, rfl, g1, fun H' _ _ keep _ => ⟨rfl, fin "fine" H' hy fun b o e => keep b o (ne_of_none e nx) (sN _ _ e)⟩, fun H' h _ => by rw [g2] at h; cases h⟩⟩
      · obtain ⟨eD, eN, tt⟩ := h
        have e30 : (B ++ GOOD.map V.str).length = 30 := by
          rw [List.length_append, lB]
          rfl
        rw [e30, List.take_of_length_le (by decide)] at eD
        exact ⟨D, rfl, eD, (ExtN.of sc).trans eN⟩
    rintro σ' G5 ⟨l8, rfl, el8, e45⟩
    have el3 := e45 _ _ el3 (fun _ z => by cases z)
    have el4 := e45 _ _ el4 (fun _ z => by cases z)
    refine ⟨_, rfl, by show 1 ≤ sizeLine; omega, fun q1 nq1 => ?_⟩
    have s1 := same_new (o := .lst [.str "plan"]) (Same.refl G5) nq1
    have e1 : (upd G5 q1 (.lst [.str "plan"])) q1 = some (.lst [.str "plan"]) := upd_same
    generalize upd G5 q1 (.lst [.str "plan"]) = G6 at s1 e1
    refine ⟨_, rfl, l3, _, rfl, .inl (.inl (.inl (s1 _ _ el3))), ?_⟩
    rw [lB]
    refine ⟨q1, _, _, rfl, rfl, e1, by decide, by decide, by decide, fun q2 nq2 => ?_⟩
    have s2 := same_new (o := .lst ((List.replicate 25 ("plan" : Str)).map V.str)) (Same.refl G6) nq2
    have e2 : (upd G6 q2 (.lst ((List.replicate 25 ("plan" : Str)).map V.str))) q2 = some (.lst ((List.replicate 25 ("plan" : Str)).map V.str)) := upd_same
    refine ⟨by show 1 ≤ sizeLine; omega, fun q3 nq3 => ?_⟩
    have nq3 : (upd G6 q2 (.lst ((List.replicate 25 ("plan" : Str)).map V.str))) q3 = none := nq3
    have s3 := same_new (o := .lst [.str "fine"]) (Same.refl (upd G6 q2 (.lst ((List.replicate 25 ("plan" : Str)).map V.str)))) nq3
    have e3 : (upd (upd G6 q2 (.lst ((List.replicate 25 ("plan" : Str)).map V.str))) q3 (.lst [.str "fine"])) q3 = some (.lst [.str "fine"]) := upd_same
    refine ⟨_, rfl, l4, _, rfl, .inl (.inl (.inl (s3 _ _ (s2 _ _ (s1 _ _ el4))))), ?_⟩
    refine ⟨q3, _, _, rfl, rfl, e3, by decide, by decide, by decide, fun q4 nq4 => ?_⟩
    have nq4 : (upd (upd G6 q2 (.lst ((List.replicate 25 ("plan" : Str)).map V.str))) q3 (.lst [.str "fine"])) q4 = none := nq4
    have s4 := same_new (o := .lst ((List.replicate 5 ("fine" : Str)).map V.str)) (Same.refl (upd (upd G6 q2 (.lst ((List.replicate 25 ("plan" : Str)).map V.str))) q3 (.lst [.str "fine"]))) nq4
    have e4 : (upd (upd (upd G6 q2 (.lst ((List.replicate 25 ("plan" : Str)).map V.str))) q3 (.lst [.str "fine"])) q4 (.lst ((List.replicate 5 ("fine" : Str)).map V.str))) q4 = some (.lst ((List.replicate 5 ("fine" : Str)).map V.str)) := upd_same
    show rCat (V.ref q2) (V.ref q4) (upd (upd (upd G6 q2 (.lst ((List.replicate 25 ("plan" : Str)).map V.str))) q3 (.lst [.str "fine"])) q4 (.lst ((List.replicate 5 ("fine" : Str)).map V.str))) _
    have el8' := s4 _ _ (s3 _ _ (s2 _ _ (s1 _ _ el8)))
    have e2' := s4 _ _ (s3 _ _ e2)
    generalize upd (upd (upd G6 q2 (.lst ((List.replicate 25 ("plan" : Str)).map V.str))) q3 (.lst [.str "fine"])) q4 (.lst ((List.replicate 5 ("fine" : Str)).map V.str)) = G7 at el8' e2' e4
    refine ⟨q2, q4, _, _, rfl, rfl, e2', e4, by decide, fun q5 nq5 => ?_⟩
    have s5 := same_new (o := .lst ((List.replicate 25 ("plan" : Str)).map V.str ++ (List.replicate 5 ("fine" : Str)).map V.str)) (Same.refl G7) nq5
    have e5 : (upd G7 q5 (.lst ((List.replicate 25 ("plan" : Str)).map V.str ++ (List.replicate 5 ("fine" : Str)).map V.str))) q5 = some (.lst (ANS.map V.str)) := by
      rw [upd_same, List.map_append]
    refine ⟨.list (tD ANS), .list (tD ANS), .lst (.inl (.inl (s5 _ _ el8'))) (dp_texts ANS), .lst (.inl (.inl e5)) (dp_texts ANS), by decide +kernel, by decide +kernel, ?_⟩
    rw [show PyData.eqv (.list (tD ANS)) (.list (tD ANS)) = true by decide +kernel]
    refine ⟨_, rfl, ?_⟩
    rw [if_pos rfl]
    refine ⟨rfl, ?_⟩
    rw [decide_eq_true rfl]
    exact q _
end
end Kl

set_option maxRecDepth 100000
set_option maxHeartbeats 4000000
namespace Kl
open PySem PySem.Spec PyProof.Rows L2 Gx LamX
/-! ### the end -/
/-! ### the end -/
theorem all_mk {l : PySem.W.OpenLaw} {w : World} {K : PySem.W.Frag} {h : Heap} {mg : Str → Option Value} {fa : Addr} (X : K.In h) (G : h.Ns mainGlobals mg) (hfa : mg "law" = some (.ref fa))
    {Cy0 : Addr} {nmy0 qny0 : Str} {Ny0 : Addr} {bsy0 bmy0 : List Value} {hdy0 : Bool} {sny0 : List Str} {suby0 : List Value} {aby0 : Bool} {coly0 : Option Bool} {ddy0 : Option Addr} {k0y0 k1y0 k2y0 k3y0 k5y0 : Option Value}
    {Cy1 : Addr} {nmy1 qny1 : Str} {Ny1 : Addr} {bsy1 bmy1 : List Value} {hdy1 : Bool} {sny1 : List Str} {suby1 : List Value} {aby1 : Bool} {coly1 : Option Bool} {ddy1 : Option Addr} {k0y1 k1y1 k2y1 k3y1 k5y1 : Option Value}
    {f0 : Addr} {od0 an0 : Option Addr} {sl0 : Array (Option Value)} {oc0 kV0 dc0 pm0 cd0 ct0 : Value}
    {f1 : Addr} {od1 an1 : Option Addr} {sl1 : Array (Option Value)} {oc1 kV1 dc1 pm1 cd1 ct1 : Value}
    {f2 : Addr} {od2 an2 : Option Addr} {sl2 : Array (Option Value)} {oc2 kV2 dc2 pm2 cd2 ct2 : Value}
    {f3 : Addr} {od3 an3 : Option Addr} {sl3 : Array (Option Value)} {oc3 kV3 dc3 pm3 cd3 ct3 : Value}
    {f4 : Addr} {od4 an4 : Option Addr} {sl4 : Array (Option Value)} {oc4 kV4 dc4 pm4 cd4 ct4 : Value}
    {f5 : Addr} {od5 an5 : Option Addr} {sl5 : Array (Option Value)} {oc5 kV5 dc5 pm5 cd5 ct5 : Value}
    {f6 : Addr} {od6 an6 : Option Addr} {sl6 : Array (Option Value)} {oc6 kV6 dc6 pm6 cd6 ct6 : Value}
    {f7 : Addr} {od7 an7 : Option Addr} {sl7 : Array (Option Value)} {oc7 kV7 dc7 pm7 cd7 ct7 : Value}
    {f8 : Addr} {od8 an8 : Option Addr} {sl8 : Array (Option Value)} {oc8 kV8 dc8 pm8 cd8 ct8 : Value}
    {f9 : Addr} {od9 an9 : Option Addr} {sl9 : Array (Option Value)} {oc9 kV9 dc9 pm9 cd9 ct9 : Value}
    {f10 : Addr} {od10 an10 : Option Addr} {sl10 : Array (Option Value)} {oc10 kV10 dc10 pm10 cd10 ct10 : Value}
    {f11 : Addr} {od11 an11 : Option Addr} {sl11 : Array (Option Value)} {oc11 kV11 dc11 pm11 cd11 ct11 : Value}
    {f12 : Addr} {od12 an12 : Option Addr} {sl12 : Array (Option Value)} {oc12 kV12 dc12 pm12 cd12 ct12 : Value}
    {f13 : Addr} {od13 an13 : Option Addr} {sl13 : Array (Option Value)} {oc13 kV13 dc13 pm13 cd13 ct13 : Value}
    {f14 : Addr} {od14 an14 : Option Addr} {sl14 : Array (Option Value)} {oc14 kV14 dc14 pm14 cd14 ct14 : Value}
    {f15 : Addr} {od15 an15 : Option Addr} {sl15 : Array (Option Value)} {oc15 kV15 dc15 pm15 cd15 ct15 : Value}
    {f16 : Addr} {od16 an16 : Option Addr} {sl16 : Array (Option Value)} {oc16 kV16 dc16 pm16 cd16 ct16 : Value}
    {f17 : Addr} {od17 an17 : Option Addr} {sl17 : Array (Option Value)} {oc17 kV17 dc17 pm17 cd17 ct17 : Value}
    {CoPlan : Addr}
    {fM0Plan : Addr} {odM0Plan anM0Plan : Option Addr} {slM0Plan : Array (Option Value)} {ocM0Plan kVM0Plan dcM0Plan pmM0Plan cdM0Plan ctM0Plan : Value}
    {fM1Plan : Addr} {odM1Plan anM1Plan : Option Addr} {slM1Plan : Array (Option Value)} {ocM1Plan kVM1Plan dcM1Plan pmM1Plan cdM1Plan ctM1Plan : Value}
    {qM1Plan : Addr} {rsM1Plan : List Value}
    {fM2Plan : Addr} {odM2Plan anM2Plan : Option Addr} {slM2Plan : Array (Option Value)} {ocM2Plan kVM2Plan dcM2Plan pmM2Plan cdM2Plan ctM2Plan : Value}
    {qM2Plan : Addr} {rsM2Plan : List Value}
    {fM3Plan : Addr} {odM3Plan anM3Plan : Option Addr} {slM3Plan : Array (Option Value)} {ocM3Plan kVM3Plan dcM3Plan pmM3Plan cdM3Plan ctM3Plan : Value}
    {qM3Plan : Addr} {rsM3Plan : List Value}
    {fM6Plan : Addr} {odM6Plan anM6Plan : Option Addr} {slM6Plan : Array (Option Value)} {ocM6Plan kVM6Plan dcM6Plan pmM6Plan cdM6Plan ctM6Plan : Value}
    {fM7Plan : Addr} {odM7Plan anM7Plan : Option Addr} {slM7Plan : Array (Option Value)} {ocM7Plan kVM7Plan dcM7Plan pmM7Plan cdM7Plan ctM7Plan : Value}
    {fM8Plan : Addr} {odM8Plan anM8Plan : Option Addr} {slM8Plan : Array (Option Value)} {ocM8Plan kVM8Plan dcM8Plan pmM8Plan cdM8Plan ctM8Plan : Value}
    {fM9Plan : Addr} {odM9Plan anM9Plan : Option Addr} {slM9Plan : Array (Option Value)} {ocM9Plan kVM9Plan dcM9Plan pmM9Plan cdM9Plan ctM9Plan : Value}
    {t0 : Tok}
    {aU0 : Addr} {odU0 : Option Addr} {nU0 : Nat} {slU0 : Array (Option Value)} {tu0_0 tu0_1 tu0_2 : Tok}
    {aU1 : Addr} {odU1 : Option Addr} {nU1 : Nat} {slU1 : Array (Option Value)} {tu1_0 tu1_1 tu1_2 tu1_3 tu1_4 tu1_5 tu1_6 : Tok}
    {q : Program}
    {cT0 PT0 : Addr} {eT0 : DefRec} {ucT0 : Value} {odT0 : Option Addr} {vsT0 : Array Value} {slT0 : Array (Option Value)}
    {cT1 PT1 : Addr} {eT1 : DefRec} {ucT1 : Value} {odT1 : Option Addr} {vsT1 : Array Value} {slT1 : Array (Option Value)}
    (gy0 : PySem.W.nsIn K mainGlobals "InvalidPlan" = some (some (.ref Cy0))) (hy0 : K.lookup Cy0 = some (excClassObj nmy0 qny0 Cy0 Ny0 bsy0 bmy0 hdy0 sny0 suby0 aby0 coly0 ddy0 k0y0 k1y0 k2y0 k3y0 k5y0 "ValueError.__new__")) (ty0 : PySem.W.excTail [.type "ValueError", .type "Exception", .type "BaseException", .type "object"] bmy0 = true) (iy0 : PySem.W.findIn K (.ref Cy0) "__init__" = some (some (.builtin "ValueError.__init__"))) (ky0 : PySem.W.keepIn K (.ref Cy0) = true) (by0 : PySem.W.subIn K (.ref Cy0) (.type "BaseException") = some true) (wy0 : PySem.W.typeIn K (.ref Cy0) = some (.type "type")) (xy0 : PySem.W.isClsIn K Cy0 = true) (ry0 : PySem.W.subIn K (.ref Cy0) (.ref Cy0) = some true) (zy0 : xclsB K Cy0 = true)
    (gy1 : PySem.W.nsIn K mainGlobals "InvalidOperation" = some (some (.ref Cy1))) (hy1 : K.lookup Cy1 = some (excClassObj nmy1 qny1 Cy1 Ny1 bsy1 bmy1 hdy1 sny1 suby1 aby1 coly1 ddy1 k0y1 k1y1 k2y1 k3y1 k5y1 "ValueError.__new__")) (ty1 : PySem.W.excTail [.type "ValueError", .type "Exception", .type "BaseException", .type "object"] bmy1 = true) (iy1 : PySem.W.findIn K (.ref Cy1) "__init__" = some (some (.builtin "ValueError.__init__"))) (ky1 : PySem.W.keepIn K (.ref Cy1) = true) (by1 : PySem.W.subIn K (.ref Cy1) (.type "BaseException") = some true) (wy1 : PySem.W.typeIn K (.ref Cy1) = some (.type "type")) (xy1 : PySem.W.isClsIn K Cy1 = true) (ry1 : PySem.W.subIn K (.ref Cy1) (.ref Cy1) = some true) (zy1 : xclsB K Cy1 = true)
    (a0 : PySem.W.nsIn K mainGlobals "_wall" = some (some (.ref f0))) (l0 : K.lookup f0 = some ⟨oc0, od0, .func (PySem.W.fnOf "_wall" "_wall" (defArgs s_wall) (defBody s_wall) (defScope s_wall) .none kV0 dc0 pm0 an0 cd0 ct0), sl0⟩) (c0 : PySem.W.codeIn K cd0 "_wall" = true) (k0 : PySem.W.keepIn K (.ref f0) = true)
    (a1 : PySem.W.nsIn K mainGlobals "_is_side" = some (some (.ref f1))) (l1 : K.lookup f1 = some ⟨oc1, od1, .func (PySem.W.fnOf "_is_side" "_is_side" (defArgs s_is_side) (defBody s_is_side) (defScope s_is_side) .none kV1 dc1 pm1 an1 cd1 ct1), sl1⟩) (c1 : PySem.W.codeIn K cd1 "_is_side" = true) (k1 : PySem.W.keepIn K (.ref f1) = true)
    (a2 : PySem.W.nsIn K mainGlobals "_closed" = some (some (.ref f2))) (l2 : K.lookup f2 = some ⟨oc2, od2, .func (PySem.W.fnOf "_closed" "_closed" (defArgs s_closed) (defBody s_closed) (defScope s_closed) .none kV2 dc2 pm2 an2 cd2 ct2), sl2⟩) (c2 : PySem.W.codeIn K cd2 "_closed" = true) (k2 : PySem.W.keepIn K (.ref f2) = true)
    (a3 : PySem.W.nsIn K mainGlobals "_put_behind" = some (some (.ref f3))) (l3 : K.lookup f3 = some ⟨oc3, od3, .func (PySem.W.fnOf "_put_behind" "_put_behind" (defArgs s_put_behind) (defBody s_put_behind) (defScope s_put_behind) .none kV3 dc3 pm3 an3 cd3 ct3), sl3⟩) (c3 : PySem.W.codeIn K cd3 "_put_behind" = true) (k3 : PySem.W.keepIn K (.ref f3) = true)
    (a4 : PySem.W.nsIn K mainGlobals "deeds_in" = some (some (.ref f4))) (l4 : K.lookup f4 = some ⟨oc4, od4, .func (PySem.W.fnOf "deeds_in" "deeds_in" (defArgs s_deeds_in) (defBody s_deeds_in) (defScope s_deeds_in) .none kV4 dc4 pm4 an4 cd4 ct4), sl4⟩) (c4 : PySem.W.codeIn K cd4 "deeds_in" = true) (k4 : PySem.W.keepIn K (.ref f4) = true)
    (a5 : PySem.W.nsIn K mainGlobals "_are_for" = some (some (.ref f5))) (l5 : K.lookup f5 = some ⟨oc5, od5, .func (PySem.W.fnOf "_are_for" "_are_for" (defArgs s_are_for) (defBody s_are_for) (defScope s_are_for) .none kV5 dc5 pm5 an5 cd5 ct5), sl5⟩) (c5 : PySem.W.codeIn K cd5 "_are_for" = true) (k5 : PySem.W.keepIn K (.ref f5) = true)
    (a6 : PySem.W.nsIn K mainGlobals "_law_dice" = some (some (.ref f6))) (l6 : K.lookup f6 = some ⟨oc6, od6, .func (PySem.W.fnOf "_law_dice" "_law_dice" (defArgs s_law_dice) (defBody s_law_dice) (defScope s_law_dice) .none kV6 dc6 pm6 an6 cd6 ct6), sl6⟩) (c6 : PySem.W.codeIn K cd6 "_law_dice" = true) (k6 : PySem.W.keepIn K (.ref f6) = true)
    (a7 : PySem.W.nsIn K mainGlobals "_law_roll" = some (some (.ref f7))) (l7 : K.lookup f7 = some ⟨oc7, od7, .func (PySem.W.fnOf "_law_roll" "_law_roll" (defArgs s_law_roll) (defBody s_law_roll) (defScope s_law_roll) .none kV7 dc7 pm7 an7 cd7 ct7), sl7⟩) (c7 : PySem.W.codeIn K cd7 "_law_roll" = true) (k7 : PySem.W.keepIn K (.ref f7) = true)
    (a8 : PySem.W.nsIn K mainGlobals "_law_pick" = some (some (.ref f8))) (l8 : K.lookup f8 = some ⟨oc8, od8, .func (PySem.W.fnOf "_law_pick" "_law_pick" (defArgs s_law_pick) (defBody s_law_pick) (defScope s_law_pick) .none kV8 dc8 pm8 an8 cd8 ct8), sl8⟩) (c8 : PySem.W.codeIn K cd8 "_law_pick" = true) (k8 : PySem.W.keepIn K (.ref f8) = true)
    (a9 : PySem.W.nsIn K mainGlobals "_law_plan_text" = some (some (.ref f9))) (l9 : K.lookup f9 = some ⟨oc9, od9, .func (PySem.W.fnOf "_law_plan_text" "_law_plan_text" (defArgs s_law_plan_text) (defBody s_law_plan_text) (defScope s_law_plan_text) .none kV9 dc9 pm9 an9 cd9 ct9), sl9⟩) (c9 : PySem.W.codeIn K cd9 "_law_plan_text" = true) (k9 : PySem.W.keepIn K (.ref f9) = true)
    (a10 : PySem.W.nsIn K mainGlobals "_law_drawn_plan" = some (some (.ref f10))) (l10 : K.lookup f10 = some ⟨oc10, od10, .func (PySem.W.fnOf "_law_drawn_plan" "_law_drawn_plan" (defArgs s_law_drawn_plan) (defBody s_law_drawn_plan) (defScope s_law_drawn_plan) .none kV10 dc10 pm10 an10 cd10 ct10), sl10⟩) (c10 : PySem.W.codeIn K cd10 "_law_drawn_plan" = true) (k10 : PySem.W.keepIn K (.ref f10) = true)
    (a11 : PySem.W.nsIn K mainGlobals "_law_letters" = some (some (.ref f11))) (l11 : K.lookup f11 = some ⟨oc11, od11, .func (PySem.W.fnOf "_law_letters" "_law_letters" (defArgs s_law_letters) (defBody s_law_letters) (defScope s_law_letters) .none kV11 dc11 pm11 an11 cd11 ct11), sl11⟩) (c11 : PySem.W.codeIn K cd11 "_law_letters" = true) (k11 : PySem.W.keepIn K (.ref f11) = true)
    (a12 : PySem.W.nsIn K mainGlobals "_law_end_of" = some (some (.ref f12))) (l12 : K.lookup f12 = some ⟨oc12, od12, .func (PySem.W.fnOf "_law_end_of" "_law_end_of" (defArgs s_law_end_of) (defBody s_law_end_of) (defScope s_law_end_of) .none kV12 dc12 pm12 an12 cd12 ct12), sl12⟩) (c12 : PySem.W.codeIn K cd12 "_law_end_of" = true) (k12 : PySem.W.keepIn K (.ref f12) = true)
    (a13 : PySem.W.nsIn K mainGlobals "_law_is_plan" = some (some (.ref f13))) (l13 : K.lookup f13 = some ⟨oc13, od13, .func (PySem.W.fnOf "_law_is_plan" "_law_is_plan" (defArgs s_law_is_plan) (defBody s_law_is_plan) (defScope s_law_is_plan) .none kV13 dc13 pm13 an13 cd13 ct13), sl13⟩) (c13 : PySem.W.codeIn K cd13 "_law_is_plan" = true) (k13 : PySem.W.keepIn K (.ref f13) = true)
    (a14 : PySem.W.nsIn K mainGlobals "_law_said" = some (some (.ref f14))) (l14 : K.lookup f14 = some ⟨oc14, od14, .func (PySem.W.fnOf "_law_said" "_law_said" (defArgs s_law_said) (defBody s_law_said) (defScope s_law_said) .none kV14 dc14 pm14 an14 cd14 ct14), sl14⟩) (c14 : PySem.W.codeIn K cd14 "_law_said" = true) (k14 : PySem.W.keepIn K (.ref f14) = true)
    (a15 : PySem.W.nsIn K mainGlobals "_law_bent" = some (some (.ref f15))) (l15 : K.lookup f15 = some ⟨oc15, od15, .func (PySem.W.fnOf "_law_bent" "_law_bent" (defArgs s_law_bent) (defBody s_law_bent) (defScope s_law_bent) .none kV15 dc15 pm15 an15 cd15 ct15), sl15⟩) (c15 : PySem.W.codeIn K cd15 "_law_bent" = true) (k15 : PySem.W.keepIn K (.ref f15) = true)
    (a16 : PySem.W.nsIn K mainGlobals "_law_renamed_right" = some (some (.ref f16))) (l16 : K.lookup f16 = some ⟨oc16, od16, .func (PySem.W.fnOf "_law_renamed_right" "_law_renamed_right" (defArgs s_law_renamed_right) (defBody s_law_renamed_right) (defScope s_law_renamed_right) .none kV16 dc16 pm16 an16 cd16 ct16), sl16⟩) (c16 : PySem.W.codeIn K cd16 "_law_renamed_right" = true) (k16 : PySem.W.keepIn K (.ref f16) = true)
    (a17 : PySem.W.nsIn K mainGlobals "law" = some (some (.ref f17))) (l17 : K.lookup f17 = some ⟨oc17, od17, .func (PySem.W.fnOf "law" "law" (defArgs s_law) (defBody s_law) (defScope s_law) .none kV17 dc17 pm17 an17 cd17 ct17), sl17⟩) (c17 : PySem.W.codeIn K cd17 "law" = true) (k17 : PySem.W.keepIn K (.ref f17) = true)
    (goPlan : PySem.W.nsIn K mainGlobals "Plan" = some (some (.ref CoPlan)))
    (pgoPlan : PySem.W.plainGet K CoPlan Str.empty = true)
    (hdoPlan : PySem.W.hasDictIn K CoPlan = true)
    (pooPlan : PySem.W.plainOver K CoPlan = true)
    (saoPlan : PySem.W.findIn K (.ref CoPlan) "__setattr__" = some (some (.builtin "object.__setattr__")))
    (mkoPlan : PySem.W.makesIn K CoPlan = true)
    (kcoPlan : PySem.W.keepIn K (.ref CoPlan) = true)
    (neoPlan : PySem.W.findIn K (.ref CoPlan) "__ne__" = some (some (.builtin "object.__ne__")))
    (oboPlan : PySem.W.mroIn K CoPlan (.type "object") = some true)
    (kioPlan : PySem.W.kitOne K (.ref CoPlan) (.ref CoPlan) = some true)
    (ktoPlan : PySem.W.kitOne K (.type "tuple") (.ref CoPlan) = some false)
    (kdoPlan : PySem.W.kitOne K (.type "dict") (.ref CoPlan) = some false)
    (kroPlan : PySem.W.kitOne K (.ref CoPlan) (.type "tuple") = some false)
    (ksoPlan : PySem.W.kitOne K (.ref CoPlan) (.type "str") = some false)
    (kNoneTypeoPlan : PySem.W.kitOne K (.type "NoneType") (.ref CoPlan) = some false)
    (kintoPlan : PySem.W.kitOne K (.type "int") (.ref CoPlan) = some false)
    (kbooloPlan : PySem.W.kitOne K (.type "bool") (.ref CoPlan) = some false)
    (kstroPlan : PySem.W.kitOne K (.type "str") (.ref CoPlan) = some false)
    (klistoPlan : PySem.W.kitOne K (.type "list") (.ref CoPlan) = some false)
    (caoPlan : PySem.W.findIn K (.ref CoPlan) "__class__" = some (some (.builtin "object.__class__")))
    (cgoPlan : PySem.W.specialIn K (.builtin "object.__class__") "__get__" = some (some (.builtin "getset_descriptor.__get__")))
    (ctoPlan : PySem.W.takesIn K (.builtin "object.__class__") = some true)
    (n_textoPlan : PySem.W.findIn K (.ref CoPlan) "_text" = some none)
    (n_lettersoPlan : PySem.W.findIn K (.ref CoPlan) "_letters" = some none)
    (n_madeoPlan : PySem.W.findIn K (.ref CoPlan) "_made" = some none)
    (n_resultoPlan : PySem.W.findIn K (.ref CoPlan) "_result" = some none)
    (atM0Plan : PySem.W.findIn K (.ref CoPlan) "__init__" = some (some (.ref fM0Plan)))
    (ifM0Plan : PySem.W.isFn K (.ref fM0Plan) = true)
    (lM0Plan : K.lookup fM0Plan = some ⟨ocM0Plan, odM0Plan, .func (PySem.W.fnOf "__init__" "Plan.__init__" (defArgs s_Plan_init) (defBody s_Plan_init) (defScope s_Plan_init) .none kVM0Plan dcM0Plan pmM0Plan anM0Plan cdM0Plan ctM0Plan), slM0Plan⟩)
    (cM0Plan : PySem.W.codeIn K cdM0Plan "Plan.__init__" = true)
    (kM0Plan : PySem.W.keepIn K (.ref fM0Plan) = true)
    (atM1Plan : PySem.W.findIn K (.ref CoPlan) "text" = some (some (.ref qM1Plan)))
    (geM1Plan : PySem.W.specialIn K (.ref qM1Plan) "__get__" = some (some (.builtin "property.__get__")))
    (taM1Plan : PySem.W.takesIn K (.ref qM1Plan) = some true)
    (reM1Plan : PySem.W.recIn K qM1Plan "property" = some (.ref fM1Plan :: rsM1Plan))
    (lM1Plan : K.lookup fM1Plan = some ⟨ocM1Plan, odM1Plan, .func (PySem.W.fnOf "text" "Plan.text" (defArgs s_Plan_text) (defBody s_Plan_text) (defScope s_Plan_text) .none kVM1Plan dcM1Plan pmM1Plan anM1Plan cdM1Plan ctM1Plan), slM1Plan⟩)
    (cM1Plan : PySem.W.codeIn K cdM1Plan "Plan.text" = true)
    (kM1Plan : PySem.W.keepIn K (.ref fM1Plan) = true)
    (atM2Plan : PySem.W.findIn K (.ref CoPlan) "letters" = some (some (.ref qM2Plan)))
    (geM2Plan : PySem.W.specialIn K (.ref qM2Plan) "__get__" = some (some (.builtin "property.__get__")))
    (taM2Plan : PySem.W.takesIn K (.ref qM2Plan) = some true)
    (reM2Plan : PySem.W.recIn K qM2Plan "property" = some (.ref fM2Plan :: rsM2Plan))
    (lM2Plan : K.lookup fM2Plan = some ⟨ocM2Plan, odM2Plan, .func (PySem.W.fnOf "letters" "Plan.letters" (defArgs s_Plan_letters) (defBody s_Plan_letters) (defScope s_Plan_letters) .none kVM2Plan dcM2Plan pmM2Plan anM2Plan cdM2Plan ctM2Plan), slM2Plan⟩)
    (cM2Plan : PySem.W.codeIn K cdM2Plan "Plan.letters" = true)
    (kM2Plan : PySem.W.keepIn K (.ref fM2Plan) = true)
    (atM3Plan : PySem.W.findIn K (.ref CoPlan) "deeds" = some (some (.ref qM3Plan)))
    (geM3Plan : PySem.W.specialIn K (.ref qM3Plan) "__get__" = some (some (.builtin "property.__get__")))
    (taM3Plan : PySem.W.takesIn K (.ref qM3Plan) = some true)
    (reM3Plan : PySem.W.recIn K qM3Plan "property" = some (.ref fM3Plan :: rsM3Plan))
    (lM3Plan : K.lookup fM3Plan = some ⟨ocM3Plan, odM3Plan, .func (PySem.W.fnOf "deeds" "Plan.deeds" (defArgs s_Plan_deeds) (defBody s_Plan_deeds) (defScope s_Plan_deeds) .none kVM3Plan dcM3Plan pmM3Plan anM3Plan cdM3Plan ctM3Plan), slM3Plan⟩)
    (cM3Plan : PySem.W.codeIn K cdM3Plan "Plan.deeds" = true)
    (kM3Plan : PySem.W.keepIn K (.ref fM3Plan) = true)
    (atM6Plan : PySem.W.findIn K (.ref CoPlan) "renamed" = some (some (.ref fM6Plan)))
    (ifM6Plan : PySem.W.isFn K (.ref fM6Plan) = true)
    (lM6Plan : K.lookup fM6Plan = some ⟨ocM6Plan, odM6Plan, .func (PySem.W.fnOf "renamed" "Plan.renamed" (defArgs s_Plan_renamed) (defBody s_Plan_renamed) (defScope s_Plan_renamed) .none kVM6Plan dcM6Plan pmM6Plan anM6Plan cdM6Plan ctM6Plan), slM6Plan⟩)
    (cM6Plan : PySem.W.codeIn K cdM6Plan "Plan.renamed" = true)
    (kM6Plan : PySem.W.keepIn K (.ref fM6Plan) = true)
    (atM7Plan : PySem.W.findIn K (.ref CoPlan) "__len__" = some (some (.ref fM7Plan)))
    (ifM7Plan : PySem.W.isFn K (.ref fM7Plan) = true)
    (lM7Plan : K.lookup fM7Plan = some ⟨ocM7Plan, odM7Plan, .func (PySem.W.fnOf "__len__" "Plan.__len__" (defArgs s_Plan_len) (defBody s_Plan_len) (defScope s_Plan_len) .none kVM7Plan dcM7Plan pmM7Plan anM7Plan cdM7Plan ctM7Plan), slM7Plan⟩)
    (cM7Plan : PySem.W.codeIn K cdM7Plan "Plan.__len__" = true)
    (kM7Plan : PySem.W.keepIn K (.ref fM7Plan) = true)
    (atM8Plan : PySem.W.findIn K (.ref CoPlan) "__eq__" = some (some (.ref fM8Plan)))
    (ifM8Plan : PySem.W.isFn K (.ref fM8Plan) = true)
    (lM8Plan : K.lookup fM8Plan = some ⟨ocM8Plan, odM8Plan, .func (PySem.W.fnOf "__eq__" "Plan.__eq__" (defArgs s_Plan_eq) (defBody s_Plan_eq) (defScope s_Plan_eq) .none kVM8Plan dcM8Plan pmM8Plan anM8Plan cdM8Plan ctM8Plan), slM8Plan⟩)
    (cM8Plan : PySem.W.codeIn K cdM8Plan "Plan.__eq__" = true)
    (kM8Plan : PySem.W.keepIn K (.ref fM8Plan) = true)
    (atM9Plan : PySem.W.findIn K (.ref CoPlan) "__str__" = some (some (.ref fM9Plan)))
    (ifM9Plan : PySem.W.isFn K (.ref fM9Plan) = true)
    (lM9Plan : K.lookup fM9Plan = some ⟨ocM9Plan, odM9Plan, .func (PySem.W.fnOf "__str__" "Plan.__str__" (defArgs s_Plan_str) (defBody s_Plan_str) (defScope s_Plan_str) .none kVM9Plan dcM9Plan pmM9Plan anM9Plan cdM9Plan ctM9Plan), slM9Plan⟩)
    (cM9Plan : PySem.W.codeIn K cdM9Plan "Plan.__str__" = true)
    (kM9Plan : PySem.W.keepIn K (.ref fM9Plan) = true)
    (m0 : PySem.W.nsIn K mainGlobals "MAX_PLAN" = some (some (.int 4 t0)))
    (gu0 : PySem.W.nsIn K mainGlobals "LETTERS" = some (some (.ref aU0))) (lu0 : K.lookup aU0 = some ⟨.type "tuple", odU0, .seq #[.str "A" tu0_0, .str "B" tu0_1, .str "C" tu0_2] nU0, slU0⟩)
    (gu1 : PySem.W.nsIn K mainGlobals "_SIGNS" = some (some (.ref aU1))) (lu1 : K.lookup aU1 = some ⟨.type "tuple", odU1, .seq #[.str "A" tu1_0, .str "B" tu1_1, .str "C" tu1_2, .str "(" tu1_3, .str "+" tu1_4, .str ")" tu1_5, .str "'" tu1_6] nU1, slU1⟩)
    (z0 : PySem.W.nsIn K mainGlobals "ValueError" = some none)
    (z1 : PySem.W.nsIn K mainGlobals "abs" = some none)
    (z2 : PySem.W.nsIn K mainGlobals "all" = some none)
    (z3 : PySem.W.nsIn K mainGlobals "dict" = some none)
    (z4 : PySem.W.nsIn K mainGlobals "int" = some none)
    (z5 : PySem.W.nsIn K mainGlobals "isinstance" = some none)
    (z6 : PySem.W.nsIn K mainGlobals "len" = some none)
    (z7 : PySem.W.nsIn K mainGlobals "list" = some none)
    (z8 : PySem.W.nsIn K mainGlobals "max" = some none)
    (z9 : PySem.W.nsIn K mainGlobals "min" = some none)
    (z10 : PySem.W.nsIn K mainGlobals "property" = some none)
    (z11 : PySem.W.nsIn K mainGlobals "range" = some none)
    (z12 : PySem.W.nsIn K mainGlobals "set" = some none)
    (z13 : PySem.W.nsIn K mainGlobals "sorted" = some none)
    (z14 : PySem.W.nsIn K mainGlobals "str" = some none)
    (z15 : PySem.W.nsIn K mainGlobals "tuple" = some none)
    (tc0 : cd16 = .ref cT0) (tl0 : K.lookup cT0 = some ⟨ucT0, odT0, .fields vsT0, slT0⟩) (tp0 : vsT0[11]? = some (.ref PT0)) (tn0 : K.lookup PT0 = none) (tr0 : (recsOf q).find? (fun r => r.name == ("_law_renamed_right" : Str)) = some eT0)
    (tc1 : cd17 = .ref cT1) (tl1 : K.lookup cT1 = some ⟨ucT1, odT1, .fields vsT1, slT1⟩) (tp1 : vsT1[11]? = some (.ref PT1)) (tn1 : K.lookup PT1 = none) (tr1 : (recsOf q).find? (fun r => r.name == ("law" : Str)) = some eT1)
    (tdd : ([PT0, PT1] : List Addr).Nodup)
    (nc0 : PySem.W.subIn K (.ref Cy1) (.ref Cy0) = some false) :
    ∃ (fd : FuncData) (cs : List (Addr × Addr)) (sp : Sp), (∀ c ∈ cs, (∃ (y : Str) (e : DefRec), (recsOf q).find? (fun r => r.name == y) = some e ∧ PySem.W.tabIn K y = some c) ∧ K.lookup c.2 = none) ∧ (∀ (s : Shared) (u : Value), BindsTo s fd ⟨[u], []⟩ [("_law_script", u)]) ∧ (∀ (H : Hp) (a : Addr) (ns : List Int), ns.length ≤ 63 → (∀ c ∈ cs, H c.2 = some (.tbl #[])) → SqL K H a (ns.map V.int) → sp [.ref a] H (fun v _ => v = .bl true) fun _ _ _ => False) ∧ ∀ base : Heap, K.In base → base.Ns mainGlobals mg → (∀ c ∈ cs, LamX.TabB base mg c.1 c.2) → FnG l.prog w K mg base CX0 80 fa fd ["_law_script"] sp := by
  have e := hfa.symm.trans (PySem.W.mg_of X G a17)
  cases e
  have T : Top K mg := {
    p_InvalidPlan := ⟨Cy0, ⟨PySem.W.mg_of X G gy0, ⟨_, _, _, _, _, _, _, _, _, _, _, _, _, _, _, _, hy0, ty0⟩, iy0, ky0⟩, xclsB_ok zy0, exm_own by0 xy0 wy0 ry0⟩
    p_InvalidOperation := ⟨Cy1, ⟨PySem.W.mg_of X G gy1, ⟨_, _, _, _, _, _, _, _, _, _, _, _, _, _, _, _, hy1, ty1⟩, iy1, ky1⟩, xclsB_ok zy1, exm_own by1 xy1 wy1 ry1⟩
    d_wall := ⟨_, _, fun_mk l0 c0 k0, (fun_mk (st := s_wall) l0 c0 k0).binds (ps := ["k"]) fun _ _ _ _ _ _ us hl => match us, hl with | [_], _ => rfl, PySem.W.mg_of X G a0⟩
    d_is_side := ⟨_, _, fun_mk l1 c1 k1, (fun_mk (st := s_is_side) l1 c1 k1).binds (ps := ["sign"]) fun _ _ _ _ _ _ us hl => match us, hl with | [_], _ => rfl, PySem.W.mg_of X G a1⟩
    d_closed := ⟨_, _, fun_mk l2 c2 k2, (fun_mk (st := s_closed) l2 c2 k2).binds (ps := ["waiting", "deeds"]) fun _ _ _ _ _ _ us hl => match us, hl with | [_, _], _ => rfl, PySem.W.mg_of X G a2⟩
    d_put_behind := ⟨_, _, fun_mk l3 c3 k3, (fun_mk (st := s_put_behind) l3 c3 k3).binds (ps := ["waiting", "deeds"]) fun _ _ _ _ _ _ us hl => match us, hl with | [_, _], _ => rfl, PySem.W.mg_of X G a3⟩
    d_deeds_in := ⟨_, _, fun_mk l4 c4 k4, (fun_mk (st := s_deeds_in) l4 c4 k4).binds (ps := ["text"]) fun _ _ _ _ _ _ us hl => match us, hl with | [_], _ => rfl, PySem.W.mg_of X G a4⟩
    d_are_for := ⟨_, _, fun_mk l5 c5 k5, (fun_mk (st := s_are_for) l5 c5 k5).binds (ps := ["letters", "value"]) fun _ _ _ _ _ _ us hl => match us, hl with | [_, _], _ => rfl, PySem.W.mg_of X G a5⟩
    d_law_dice := ⟨_, _, fun_mk l6 c6 k6, (fun_mk (st := s_law_dice) l6 c6 k6).binds (ps := ["_law_script", "_law_spot"]) fun _ _ _ _ _ _ us hl => match us, hl with | [_, _], _ => rfl, PySem.W.mg_of X G a6⟩
    d_law_roll := ⟨_, _, fun_mk l7 c7 k7, (fun_mk (st := s_law_roll) l7 c7 k7).binds (ps := ["_law_dice_here", "_law_total"]) fun _ _ _ _ _ _ us hl => match us, hl with | [_, _], _ => rfl, PySem.W.mg_of X G a7⟩
    d_law_pick := ⟨_, _, fun_mk l8 c8 k8, (fun_mk (st := s_law_pick) l8 c8 k8).binds (ps := ["_law_dice_here", "_law_items"]) fun _ _ _ _ _ _ us hl => match us, hl with | [_, _], _ => rfl, PySem.W.mg_of X G a8⟩
    d_law_plan_text := ⟨_, _, fun_mk l9 c9 k9, (fun_mk (st := s_law_plan_text) l9 c9 k9).binds (ps := ["_law_plan"]) fun _ _ _ _ _ _ us hl => match us, hl with | [_], _ => rfl, PySem.W.mg_of X G a9⟩
    d_law_drawn_plan := ⟨_, _, fun_mk l10 c10 k10, (fun_mk (st := s_law_drawn_plan) l10 c10 k10).binds (ps := ["_law_dice_here", "_law_many"]) fun _ _ _ _ _ _ us hl => match us, hl with | [_, _], _ => rfl, PySem.W.mg_of X G a10⟩
    d_law_letters := ⟨_, _, fun_mk l11 c11 k11, (fun_mk (st := s_law_letters) l11 c11 k11).binds (ps := ["_law_plan"]) fun _ _ _ _ _ _ us hl => match us, hl with | [_], _ => rfl, PySem.W.mg_of X G a11⟩
    d_law_end_of := ⟨_, _, fun_mk l12 c12 k12, (fun_mk (st := s_law_end_of) l12 c12 k12).binds (ps := ["_law_text", "_law_at"]) fun _ _ _ _ _ _ us hl => match us, hl with | [_, _], _ => rfl, PySem.W.mg_of X G a12⟩
    d_law_is_plan := ⟨_, _, fun_mk l13 c13 k13, (fun_mk (st := s_law_is_plan) l13 c13 k13).binds (ps := ["_law_text"]) fun _ _ _ _ _ _ us hl => match us, hl with | [_], _ => rfl, PySem.W.mg_of X G a13⟩
    d_law_said := ⟨_, _, fun_mk l14 c14 k14, (fun_mk (st := s_law_said) l14 c14 k14).binds (ps := ["_law_call"]) fun _ _ _ _ _ _ us hl => match us, hl with | [_], _ => rfl, PySem.W.mg_of X G a14⟩
    d_law_bent := ⟨_, _, fun_mk l15 c15 k15, (fun_mk (st := s_law_bent) l15 c15 k15).binds (ps := ["_law_dice_here", "_law_text"]) fun _ _ _ _ _ _ us hl => match us, hl with | [_, _], _ => rfl, PySem.W.mg_of X G a15⟩
    d_law_renamed_right := ⟨_, _, fun_mk l16 c16 k16, (fun_mk (st := s_law_renamed_right) l16 c16 k16).binds (ps := ["_law_dice_here", "_law_made", "_law_text"]) fun _ _ _ _ _ _ us hl => match us, hl with | [_, _, _], _ => rfl, PySem.W.mg_of X G a16⟩
    c_Plan := ⟨CoPlan, { gC := PySem.W.mg_of X G goPlan, cl := ⟨pgoPlan, hdoPlan, pooPlan, saoPlan⟩, ne := neoPlan, ob := oboPlan, kit := kioPlan, kitT := ktoPlan, kitD := kdoPlan, ca := caoPlan, cg := cgoPlan, ct := ctoPlan, kitR := kroPlan, kitS := ksoPlan, kit_NoneType := kNoneTypeoPlan, kit_int := kintoPlan, kit_bool := kbooloPlan, kit_str := kstroPlan, kit_list := klistoPlan, n_text := n_textoPlan, n_letters := n_lettersoPlan, n_made := n_madeoPlan, n_result := n_resultoPlan, made := ⟨_, _, ⟨mkoPlan, atM0Plan, ifM0Plan, kcoPlan⟩, fun_mk (st := s_Plan_init) lM0Plan cM0Plan kM0Plan, (fun_mk (st := s_Plan_init) lM0Plan cM0Plan kM0Plan).binds (ps := ["self", "text"]) fun _ _ _ _ _ _ us hl => match us, hl with | [_, _], _ => rfl⟩, p_text := ⟨_, _, _, ⟨atM1Plan, geM1Plan, taM1Plan, ⟨_, reM1Plan⟩⟩, fun_mk (st := s_Plan_text) lM1Plan cM1Plan kM1Plan, (fun_mk (st := s_Plan_text) lM1Plan cM1Plan kM1Plan).binds (ps := ["self"]) fun _ _ _ _ _ _ us hl => match us, hl with | [_], _ => rfl⟩, p_letters := ⟨_, _, _, ⟨atM2Plan, geM2Plan, taM2Plan, ⟨_, reM2Plan⟩⟩, fun_mk (st := s_Plan_letters) lM2Plan cM2Plan kM2Plan, (fun_mk (st := s_Plan_letters) lM2Plan cM2Plan kM2Plan).binds (ps := ["self"]) fun _ _ _ _ _ _ us hl => match us, hl with | [_], _ => rfl⟩, p_deeds := ⟨_, _, _, ⟨atM3Plan, geM3Plan, taM3Plan, ⟨_, reM3Plan⟩⟩, fun_mk (st := s_Plan_deeds) lM3Plan cM3Plan kM3Plan, (fun_mk (st := s_Plan_deeds) lM3Plan cM3Plan kM3Plan).binds (ps := ["self"]) fun _ _ _ _ _ _ us hl => match us, hl with | [_], _ => rfl⟩, m_renamed := ⟨_, _, fun_mk (st := s_Plan_renamed) lM6Plan cM6Plan kM6Plan, ⟨atM6Plan, ifM6Plan, kM6Plan⟩, ((fun_mk (st := s_Plan_renamed) lM6Plan cM6Plan kM6Plan).binds (ps := ["self", "letters"]) fun _ _ _ _ _ _ us hl => match us, hl with | [_, _], _ => rfl), fn_in lM6Plan⟩, m_len := ⟨_, _, fun_mk (st := s_Plan_len) lM7Plan cM7Plan kM7Plan, ⟨atM7Plan, ifM7Plan, kM7Plan⟩, ((fun_mk (st := s_Plan_len) lM7Plan cM7Plan kM7Plan).binds (ps := ["self"]) fun _ _ _ _ _ _ us hl => match us, hl with | [_], _ => rfl), fn_in lM7Plan⟩, m_eq := ⟨_, _, fun_mk (st := s_Plan_eq) lM8Plan cM8Plan kM8Plan, ⟨atM8Plan, ifM8Plan, kM8Plan⟩, ((fun_mk (st := s_Plan_eq) lM8Plan cM8Plan kM8Plan).binds (ps := ["self", "other"]) fun _ _ _ _ _ _ us hl => match us, hl with | [_, _], _ => rfl), fn_in lM8Plan⟩, m_str := ⟨_, _, fun_mk (st := s_Plan_str) lM9Plan cM9Plan kM9Plan, ⟨atM9Plan, ifM9Plan, kM9Plan⟩, ((fun_mk (st := s_Plan_str) lM9Plan cM9Plan kM9Plan).binds (ps := ["self"]) fun _ _ _ _ _ _ us hl => match us, hl with | [_], _ => rfl), fn_in lM9Plan⟩ }⟩
    g_MAX_PLAN := ⟨_, PySem.W.mg_of X G m0⟩
    t_LETTERS := ⟨_, _, _, _, PySem.W.mg_of X G gu0, lu0, rfl, rfl, (by show 3 ≤ sizeLine; decide), .cons ⟨_, rfl⟩ (.cons ⟨_, rfl⟩ (.cons ⟨_, rfl⟩ (.nil)))⟩
    t__SIGNS := ⟨_, _, _, _, PySem.W.mg_of X G gu1, lu1, rfl, rfl, (by show 7 ≤ sizeLine; decide), .cons ⟨_, rfl⟩ (.cons ⟨_, rfl⟩ (.cons ⟨_, rfl⟩ (.cons ⟨_, rfl⟩ (.cons ⟨_, rfl⟩ (.cons ⟨_, rfl⟩ (.cons ⟨_, rfl⟩ (.nil)))))))⟩
    b_ValueError := PySem.W.mg_none_of X G z0
    b_abs := PySem.W.mg_none_of X G z1
    b_all := PySem.W.mg_none_of X G z2
    b_dict := PySem.W.mg_none_of X G z3
    b_int := PySem.W.mg_none_of X G z4
    b_isinstance := PySem.W.mg_none_of X G z5
    b_len := PySem.W.mg_none_of X G z6
    b_list := PySem.W.mg_none_of X G z7
    b_max := PySem.W.mg_none_of X G z8
    b_min := PySem.W.mg_none_of X G z9
    b_property := PySem.W.mg_none_of X G z10
    b_range := PySem.W.mg_none_of X G z11
    b_set := PySem.W.mg_none_of X G z12
    b_sorted := PySem.W.mg_none_of X G z13
    b_str := PySem.W.mg_none_of X G z14
    b_tuple := PySem.W.mg_none_of X G z15 }
  have tt0 : PySem.W.tabIn K "_law_renamed_right" = some (cT0, PT0) := Gx.tabIn_of a16 l16 tc0 tl0 tp0
  have tt1 : PySem.W.tabIn K "law" = some (cT1, PT1) := Gx.tabIn_of a17 l17 tc1 tl1 tp1
  have nd : (([(PT0, ln "_law_renamed_right"), (PT1, ln "law")] : List (Addr × Str)).map (·.1)).Nodup := tdd
  refine ⟨PySem.W.fnOf "law" "law" (defArgs s_law) (defBody s_law) (defScope s_law) .none kV17 dc17 pm17 an17 cd17 ct17, [(cT0, PT0), (cT1, PT1)], spLaw K [(PT0, ln "_law_renamed_right"), (PT1, ln "law")], fun c hc => ?_, fun s v => .of_eq rfl, fun H a ns hl hc hS => ⟨a, ns, rfl, hS, hl, fun p hp => ?_, fun _ => rfl⟩, fun base KB GB TB => ok_law (fun_mk (st := s_law) l17 c17 k17) (PySem.W.mg_of X G a17) (Lam.mk_of KB GB tt0 (TB _ (.head _)) nd (.head _)) (Lam.mk_of KB GB tt1 (TB _ (.tail _ (.head _))) nd (.tail _ (.head _))) T (fun C1 C2 g1 g2 => by cases g1.symm.trans (PySem.W.mg_of X G gy0); cases g2.symm.trans (PySem.W.mg_of X G gy1); exact exm_no by0 xy0 wy0 nc0)⟩
  · simp only [List.mem_cons, List.not_mem_nil, or_false] at hc
    rcases hc with rfl | rfl
    · exact ⟨⟨_, _, tr0, tt0⟩, tn0⟩
    · exact ⟨⟨_, _, tr1, tt1⟩, tn1⟩
  · simp only [List.mem_cons, List.not_mem_nil, or_false] at hp
    rcases hp with rfl | rfl
    · exact .nil (hc _ (.head _))
    · exact .nil (hc _ (.tail _ (.head _)))
end Kl
open PySem PySem.W PyProof.Rows
set_option maxHeartbeats 0 in
theorem PySem.Challenge.cw_linkbooks_k77_plans_told_holds : PySem.Challenge.rw_linkbooks_k77_plans_told.Holds := by
  w_on; o_law; k_head; (case hw => w_witness2)
  k_fill
  refine Gx.walkGT (l := PySem.Challenge.rw_linkbooks_k77_plans_told) (n := 63) (k := 80) (x := "_law_script") (CX := fun _ => L2.CX0) rfl (by decide) rfl ⟨rfl, by decide, by decide⟩ (fun w h Y => PySem.W.km_in_of Y) ?F (fun _ _ _ _ _ h => h)
  case F =>
    intro w mg fa h KX G hmg
    refine' Kl.all_mk KX G hmg ?gy0 ?hy0 ?ty0 ?iy0 ?ky0 ?by0 ?wy0 ?xy0 ?ry0 ?zy0 ?gy1 ?hy1 ?ty1 ?iy1 ?ky1 ?by1 ?wy1 ?xy1 ?ry1 ?zy1 ?a0 ?l0 ?c0 ?k0 ?a1 ?l1 ?c1 ?k1 ?a2 ?l2 ?c2 ?k2 ?a3 ?l3 ?c3 ?k3 ?a4 ?l4 ?c4 ?k4 ?a5 ?l5 ?c5 ?k5 ?a6 ?l6 ?c6 ?k6 ?a7 ?l7 ?c7 ?k7 ?a8 ?l8 ?c8 ?k8 ?a9 ?l9 ?c9 ?k9 ?a10 ?l10 ?c10 ?k10 ?a11 ?l11 ?c11 ?k11 ?a12 ?l12 ?c12 ?k12 ?a13 ?l13 ?c13 ?k13 ?a14 ?l14 ?c14 ?k14 ?a15 ?l15 ?c15 ?k15 ?a16 ?l16 ?c16 ?k16 ?a17 ?l17 ?c17 ?k17 ?goPlan ?pgoPlan ?hdoPlan ?pooPlan ?saoPlan ?mkoPlan ?kcoPlan ?neoPlan ?oboPlan ?kioPlan ?ktoPlan ?kdoPlan ?kroPlan ?ksoPlan ?kNoneTypeoPlan ?kintoPlan ?kbooloPlan ?kstroPlan ?klistoPlan ?caoPlan ?cgoPlan ?ctoPlan ?n_textoPlan ?n_lettersoPlan ?n_madeoPlan ?n_resultoPlan ?atM0Plan ?ifM0Plan ?lM0Plan ?cM0Plan ?kM0Plan ?atM1Plan ?geM1Plan ?taM1Plan ?reM1Plan ?lM1Plan ?cM1Plan ?kM1Plan ?atM2Plan ?geM2Plan ?taM2Plan ?reM2Plan ?lM2Plan ?cM2Plan ?kM2Plan ?atM3Plan ?geM3Plan ?taM3Plan ?reM3Plan ?lM3Plan ?cM3Plan ?kM3Plan ?atM6Plan ?ifM6Plan ?lM6Plan ?cM6Plan ?kM6Plan ?atM7Plan ?ifM7Plan ?lM7Plan ?cM7Plan ?kM7Plan ?atM8Plan ?ifM8Plan ?lM8Plan ?cM8Plan ?kM8Plan ?atM9Plan ?ifM9Plan ?lM9Plan ?cM9Plan ?kM9Plan ?m0 ?gu0 ?lu0 ?gu1 ?lu1 ?z0 ?z1 ?z2 ?z3 ?z4 ?z5 ?z6 ?z7 ?z8 ?z9 ?z10 ?z11 ?z12 ?z13 ?z14 ?z15 ?tc0 ?tl0 ?tp0 ?tn0 ?tr0 ?tc1 ?tl1 ?tp1 ?tn1 ?tr1 ?tdd ?nc0
    (case gy0 => k_is); (case hy0 => k_is); (case ty0 => decide +kernel); (case iy0 => k_is); (case ky0 => k_is); (case by0 => k_is); (case wy0 => k_is); (case xy0 => k_is); (case ry0 => first | rfl | k_is); (case zy0 => kernel_rfl); (case gy1 => k_is); (case hy1 => k_is); (case ty1 => decide +kernel); (case iy1 => k_is); (case ky1 => k_is); (case by1 => k_is); (case wy1 => k_is); (case xy1 => k_is); (case ry1 => first | rfl | k_is); (case zy1 => kernel_rfl); (case a0 => k_is); (case l0 => k_is); (case c0 => k_is); (case k0 => k_is); (case a1 => k_is); (case l1 => k_is); (case c1 => k_is); (case k1 => k_is); (case a2 => k_is); (case l2 => k_is); (case c2 => k_is); (case k2 => k_is); (case a3 => k_is); (case l3 => k_is); (case c3 => k_is); (case k3 => k_is); (case a4 => k_is); (case l4 => k_is); (case c4 => k_is); (case k4 => k_is); (case a5 => k_is); (case l5 => k_is); (case c5 => k_is); (case k5 => k_is); (case a6 => k_is); (case l6 => k_is); (case c6 => k_is); (case k6 => k_is); (case a7 => k_is); (case l7 => k_is); (case c7 => k_is); (case k7 => k_is); (case a8 => k_is); (case l8 => k_is); (case c8 => k_is); (case k8 => k_is); (case a9 => k_is); (case l9 => k_is); (case c9 => k_is); (case k9 => k_is); (case a10 => k_is); (case l10 => k_is); (case c10 => k_is); (case k10 => k_is); (case a11 => k_is); (case l11 => k_is); (case c11 => k_is); (case k11 => k_is); (case a12 => k_is); (case l12 => k_is); (case c12 => k_is); (case k12 => k_is); (case a13 => k_is); (case l13 => k_is); (case c13 => k_is); (case k13 => k_is); (case a14 => k_is); (case l14 => k_is); (case c14 => k_is); (case k14 => k_is); (case a15 => k_is); (case l15 => k_is); (case c15 => k_is); (case k15 => k_is); (case a16 => k_is); (case l16 => k_is); (case c16 => k_is); (case k16 => k_is); (case a17 => k_is); (case l17 => k_is); (case c17 => k_is); (case k17 => k_is); (case goPlan => k_is); (case pgoPlan => k_is); (case hdoPlan => k_is); (case pooPlan => k_is); (case saoPlan => k_is); (case mkoPlan => k_is); (case kcoPlan => k_is); (case neoPlan => k_is); (case oboPlan => k_is); (case kioPlan => first | rfl | k_is); (case ktoPlan => first | rfl | k_is); (case kdoPlan => first | rfl | k_is); (case kroPlan => first | rfl | k_is); (case ksoPlan => first | rfl | k_is); (case kNoneTypeoPlan => first | rfl | k_is); (case kintoPlan => first | rfl | k_is); (case kbooloPlan => first | rfl | k_is); (case kstroPlan => first | rfl | k_is); (case klistoPlan => first | rfl | k_is); (case caoPlan => k_is); (case cgoPlan => k_is); (case ctoPlan => k_is); (case n_textoPlan => k_is); (case n_lettersoPlan => k_is); (case n_madeoPlan => k_is); (case n_resultoPlan => k_is); (case atM0Plan => k_is); (case ifM0Plan => k_is); (case lM0Plan => k_is); (case cM0Plan => k_is); (case kM0Plan => k_is); (case atM1Plan => k_is); (case geM1Plan => k_is); (case taM1Plan => k_is); (case reM1Plan => k_is); (case lM1Plan => k_is); (case cM1Plan => k_is); (case kM1Plan => k_is); (case atM2Plan => k_is); (case geM2Plan => k_is); (case taM2Plan => k_is); (case reM2Plan => k_is); (case lM2Plan => k_is); (case cM2Plan => k_is); (case kM2Plan => k_is); (case atM3Plan => k_is); (case geM3Plan => k_is); (case taM3Plan => k_is); (case reM3Plan => k_is); (case lM3Plan => k_is); (case cM3Plan => k_is); (case kM3Plan => k_is); (case atM6Plan => k_is); (case ifM6Plan => k_is); (case lM6Plan => k_is); (case cM6Plan => k_is); (case kM6Plan => k_is); (case atM7Plan => k_is); (case ifM7Plan => k_is); (case lM7Plan => k_is); (case cM7Plan => k_is); (case kM7Plan => k_is); (case atM8Plan => k_is); (case ifM8Plan => k_is); (case lM8Plan => k_is); (case cM8Plan => k_is); (case kM8Plan => k_is); (case atM9Plan => k_is); (case ifM9Plan => k_is); (case lM9Plan => k_is); (case cM9Plan => k_is); (case kM9Plan => k_is); (case m0 => k_is); (case gu0 => k_is); (case lu0 => k_is); (case gu1 => k_is); (case lu1 => k_is); (case z0 => k_is); (case z1 => k_is); (case z2 => k_is); (case z3 => k_is); (case z4 => k_is); (case z5 => k_is); (case z6 => k_is); (case z7 => k_is); (case z8 => k_is); (case z9 => k_is); (case z10 => k_is); (case z11 => k_is); (case z12 => k_is); (case z13 => k_is); (case z14 => k_is); (case z15 => k_is); (case tc0 => rfl); (case tl0 => k_is); (case tp0 => rfl); (case tn0 => kernel_rfl); (case tr0 => rfl); (case tc1 => rfl); (case tl1 => k_is); (case tp1 => rfl); (case tn1 => kernel_rfl); (case tr1 => rfl); (case tdd => decide); (case nc0 => first | rfl | k_is)
