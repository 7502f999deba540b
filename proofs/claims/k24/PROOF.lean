import PyProof.Rows.All
import Wide.All
import OpenK.AllK
import Wide.FinOn
import KE.KCallOwn
import KE.KEqDict
import PyProof.InstEq
import HandS.Base
import HandS.Call
import HandS.List
import HandS.Dict
import HandS.More
import HandS.Comp
import HandS.Words
import HandS.Property
import HandS.IsInst
import PyProof.Rows.SortShellAny
import PyProof.Rows.SetFrom
import HandS.Set
import PyProof.Rows.StrCountLaw
import HandS.ForMost
import HandS.Wide
import HandS.StrMore
import HandS.Style
import PyProof.ReprReads
import HandS.Ends
import PyProof.ReprRoads
import PyProof.TupleOfSeq
import KE.KExcInit
import HandS.ForExc
import HandS.TryMany
import HandS.Defaults
import HandS.Deep
import HandS.ExcValue
import KE.KExcMake
import KE.KExcIs
import HandS.ClsMeth
import HandS.Walk
import HandS.FStr
import HandS.DictComp
import HandS.ListItems
import HandS.TupAny
import HandS.Star
import HandS.Strs
import HandS.SetFor
import PyProof.Rows.StrSplitCount
import PyProof.Rows.StrSplitJoin
import HandS.RaiseMore
import HandS.ReCall
import PyProof.Rows.RegFStrParts
import KE.SortCalls
import KE.KExcLine
import PySem.Challenge.RW_linkbooks_k24_pages_told
set_option Elab.async false
set_option linter.all false
set_option maxRecDepth 100000
set_option maxHeartbeats 4000000
namespace Gx
open PySem PySem.Spec PySem.Calls PyProof.Rows L2
/-! ### own protocols: in, [], len, str, == and != of instances -/
theorem rel_ref (a : Addr) : RelV (V.ref a) (Value.ref a) := rfl
/-- a method of the class at C that keeps the promise sp, by at most level k -/
def CalM (P : Program) (w : World) (K : PySem.W.Frag) (mg : Str → Option Value) (base : Heap) (C : Addr) (m : Str) (k : Nat) (ps : List Str) (sp : Sp) : Prop :=
  ∃ (f : Addr) (fd : FuncData), FnOk P w K mg base CX0 k f fd ps sp ∧ Meth K C m f ∧ Binds K fd ps [] ∧ PySem.W.fnIn K f = true
theorem CalM.mono {P : Program} {w : World} {K : PySem.W.Frag} {mg : Str → Option Value} {base : Heap} {C : Addr} {m : Str} {j k : Nat} {ps : List Str} {sp : Sp} (c : CalM P w K mg base C m j ps sp) (h : j ≤ k) : CalM P w K mg base C m k ps sp := by
  obtain ⟨f, fd, F, more⟩ := c
  exact ⟨f, fd, F.mono h, more⟩
section
variable {X : Cx} {C : Addr} {k : Nat} {ps : List Str} {sp : Sp} {m : Str}
/-- the method runs, somewhere below the body -/
theorem run_below {f : Addr} {fd : FuncData} {A : Around} {pins : List (Addr × Obj)} {σ : L2.St} {H : Hp} {s : Shared} {us : List Value} {vs : List V} {Q : VK} {E : Value → Shared → Prop} (F : FnOk X.prog X.w X.K X.mg X.base CX0 k f fd ps sp) (room : Room k A) (fr : A.frames = X.A.frames) (b : Binds X.K fd ps [])
    (I : Inv X pins σ H s) (r : Vals vs us) (want : sp vs H Q E0) : wpAny (model X.prog X.w) A (call (.ref f) us) (EP X pins σ Q) E s := by
  have e0 : Env0 X.prog X.w X.K X.mg X.base A X.stack s H := by
    have e := I.env0
    exact ⟨by rw [fr]; exact e.frames, e.mod, e.bs, e.bsz, e.funs, e.frf, e.hok, e.bare⟩
  have hl : us.length = ps.length := r.length.symm.trans (F.len _ _ _ _ want)
  have bt : BindsTo s fd ⟨us, []⟩ (ps.zip us) := by
    have q := b s us I.kIn (by rw [List.append_nil]; exact hl)
    rw [List.append_nil] at q
    exact q
  refine wpAny_call (codeAny_mono (F.run A X.stack s H ⟨us, []⟩ us vs Q E0 room e0 bt r want) fun res s' hres => ?_)
  match res, hres with
  | .error e, hres => exact hres.elim
  | .ok (.ret u), hres => exact I.after hres
/-- x in o, x not in o -/
def rInM (C : Addr) (sp : Sp) (neg : Bool) : R2 := fun x y H Q => ∃ a dx fs, y = .ref a ∧ H a = some (.ins C dx fs) ∧ sp [.ref a, x] H (fun v H' => ∃ b, v = .bl b ∧ Q (.bl (if neg then !b else b)) H') E0
theorem op_inM (c : CalM X.prog X.w X.K X.mg X.base C "__contains__" k ps sp) (hr : Room k X.A) : OpR X (compareOp .In) (rInM C sp false) := by
  intro pins s σ H x y v u Q I rx ry h
  obtain ⟨f, fd, F, me, b, _⟩ := c
  obtain ⟨a, dx, fs, rfl, ea, q⟩ := h
  obtain rfl : u = Value.ref a := ry
  obtain ⟨mA, O, _⟩ := ins_get I.hok ea
  obtain ⟨od, J, _⟩ := O.look
  obtain ⟨mm, hF⟩ := I.fr
  refine PySem.W.in_K hF I.ok.mod.kin J me.at_ me.fn (wpAny_mono (run_below F hr rfl b I (.cons (rel_ref a) (.cons rx .nil)) q) (fun r s' z => ?_) fun _ _ e => e)
  obtain ⟨v', H', I', rv, t, rfl, q'⟩ := z
  cases rv
  exact wpAny_truthy_bool ⟨.bl t, H', I', rfl, q'⟩
theorem op_notinM (c : CalM X.prog X.w X.K X.mg X.base C "__contains__" k ps sp) (hr : Room k X.A) : OpR X (compareOp .NotIn) (rInM C sp true) := by
  intro pins s σ H x y v u Q I rx ry h
  obtain ⟨f, fd, F, me, b, _⟩ := c
  obtain ⟨a, dx, fs, rfl, ea, q⟩ := h
  obtain rfl : u = Value.ref a := ry
  obtain ⟨mA, O, _⟩ := ins_get I.hok ea
  obtain ⟨od, J, _⟩ := O.look
  obtain ⟨mm, hF⟩ := I.fr
  refine PySem.W.notIn_K hF I.ok.mod.kin J me.at_ me.fn (wpAny_mono (run_below F hr rfl b I (.cons (rel_ref a) (.cons rx .nil)) q) (fun r s' z => ?_) fun _ _ e => e)
  obtain ⟨v', H', I', rv, t, rfl, q'⟩ := z
  cases rv
  exact wpAny_truthy_bool ⟨.bl (!t), H', I', rfl, q'⟩
/-- o[x] -/
def rIxM (C : Addr) (sp : Sp) : R2 := fun x y H Q => ∃ a dx fs, x = .ref a ∧ H a = some (.ins C dx fs) ∧ sp [.ref a, y] H Q E0
theorem pe_ixM {a b : Expr} {ta tb : TE} {pos : Pos} (c : CalM X.prog X.w X.K X.mg X.base C "__getitem__" k ps sp) (hr : Room (k + 1) X.A) (ha : PE X a ta) (hb : PE X b tb)
    (hs : ∀ v u, subscripted b true v u = runValue (.builtin "lifetime.subscript" ⟨[v, u], []⟩)) : PE X (.Subscript a b pos) (tOp (rIxM C sp) ta tb) := by
  obtain ⟨f, fd, F, me, bi, fi⟩ := c
  refine ⟨fun pins s σ H Q I h => ?_⟩
  refine Subscript_ (binT ha hb I h fun v u s2 x y H2 I2 rx ry q => ?_)
  obtain ⟨p, dx, fs, rfl, ea, q⟩ := q
  obtain rfl : v = Value.ref p := rx
  obtain ⟨mA, O, _⟩ := ins_get I2.hok ea
  obtain ⟨od, J, _⟩ := O.look
  obtain ⟨mm, hF⟩ := I2.fr
  exact PySem.W.sub_K hF I2.ok.mod.kin J me.at_ fi me.fn (run_below F hr.in1 rfl bi I2 (.cons (rel_ref _) (.cons ry .nil)) q) (hs _ _)
/-- len(o) -/
def rLenM (C : Addr) (sp : Sp) : List V → Hp → VK → Prop := fun vs H Q => ∃ a dx fs, vs = [.ref a] ∧ H a = some (.ins C dx fs) ∧ sp [.ref a] H (fun v H' => ∃ n : Nat, v = .int n ∧ n ≤ 1000000 ∧ Q (.int n) H') E0
theorem call_lenM (c : CalM X.prog X.w X.K X.mg X.base C "__len__" k ps sp) (hr : Room (k + 1) X.A) : CallR X (.builtin "len") (rLenM C sp) := by
  intro pins s σ H xs us Q I r h
  obtain ⟨f, fd, F, me, b, _⟩ := c
  obtain ⟨a, dx, fs, rfl, ea, q⟩ := h
  rw [Vals.ref1 r]
  obtain ⟨mA, O, _⟩ := ins_get I.hok ea
  obtain ⟨od, J, _⟩ := O.look
  obtain ⟨mm, hF⟩ := I.fr
  refine PySem.W.len_K hF I.ok.mod.kin J me.at_ me.fn (wpAny_mono (run_below F hr.in1 rfl b I (.cons (rel_ref a) .nil) q) (fun r s' z => ?_) fun _ _ e => e)
  obtain ⟨v', H', I', rv, n, rfl, hn, q'⟩ := z
  obtain ⟨t, rfl⟩ := (show ∃ t, r = Value.int n t from rv)
  exact ⟨⟨by omega, by omega⟩, .int n, H', I'.tok _, ⟨_, rfl⟩, q'⟩
/-- str(o) -/
def rStrM (C : Addr) (sp : Sp) : List V → Hp → VK → Prop := fun vs H Q => ∃ a dx fs, vs = [.ref a] ∧ H a = some (.ins C dx fs) ∧ sp [.ref a] H (fun v H' => ∃ z : Str, v = .str z ∧ Q (.str z) H') E0
theorem call_strM (c : CalM X.prog X.w X.K X.mg X.base C "__str__" k ps sp) (hr : Room (k + 2) X.A) : CallR X (.type "str") (rStrM C sp) := by
  intro pins s σ H xs us Q I r h
  obtain ⟨f, fd, F, me, b, _⟩ := c
  obtain ⟨a, dx, fs, rfl, ea, q⟩ := h
  rw [Vals.ref1 r]
  obtain ⟨mA, O, _⟩ := ins_get I.hok ea
  obtain ⟨od, J, _⟩ := O.look
  have r2 : Room k X.A.in1.in1 := (hr.in1).in1
  refine PySem.W.kso_call r2.units0 I.kIn J me.at_ me.fn (wpAny_mono (run_below F r2 rfl b I (.cons (rel_ref a) .nil) q) (fun r s' z => ?_) fun _ _ e => e)
  obtain ⟨v', H', I', rv, y, rfl, q'⟩ := z
  obtain ⟨t, rfl⟩ := (show ∃ t, r = Value.str y t from rv)
  exact ⟨.str y, H', I', ⟨_, rfl⟩, q'⟩
/-- what an instance of the class at C may be compared with: another one, a tuple, a dict -/
inductive Oth (K : PySem.W.Frag) (H : Hp) (C : Addr) : V → Value → Prop
  | ins {a dx : Addr} {fs : List (Str × V)} (e : H a = some (.ins C dx fs)) : Oth K H C (.ref a) (.ref C)
  | tup {a : Addr} {xs : List V} (e : SqT K H a xs) : Oth K H C (.ref a) (.type "tuple")
  | dict {a : Addr} {kvs : List (Key × V)} (e : H a = some (.dK kvs)) : Oth K H C (.ref a) (.type "dict")
theorem sub_tuple_own {K : PySem.W.Frag} {C : Addr} : PySem.W.subIn K (.type "tuple") (.ref C) = some false := by
  have e : fastBuiltinMro "tuple" = some [.type "tuple", .type "object"] := by decide +kernel
  show (fastBuiltinMro "tuple").map (·.contains (.ref C)) = some false
  rw [e]
  first
    | rfl
    | simp
theorem sub_dict_own {K : PySem.W.Frag} {C : Addr} : PySem.W.subIn K (.type "dict") (.ref C) = some false := by
  have e : fastBuiltinMro "dict" = some [.type "dict", .type "object"] := by decide +kernel
  show (fastBuiltinMro "dict").map (·.contains (.ref C)) = some false
  rw [e]
  first
    | rfl
    | simp
theorem Oth.looks {M : Model} {pins : List (Addr × Obj)} {σ : L2.St} {H : Hp} {s : Shared} {y : V} {u t : Value} (I : Inv X pins σ H s) (o : Oth X.K H C y t) (r : RelV y u) :
    PySem.W.Looks M s.heap (typeOf u) t ∧ PySem.W.notFirst X.K C t = true := by
  cases o with
  | @ins a dx fs e =>
    obtain rfl : u = Value.ref a := r
    obtain ⟨mA, O, _⟩ := ins_get I.hok e
    obtain ⟨od, J, _⟩ := O.look
    exact ⟨J.type, by simp [PySem.W.notFirst]⟩
  | @tup a xs e =>
    obtain rfl : u = Value.ref a := r
    obtain ⟨its, rv, ⟨ob, ho, hc, _⟩, _⟩ := I.tuple e
    refine ⟨?_, by simp [PySem.W.notFirst, sub_tuple_own]⟩
    intro A Q E s' kp q
    exact wpAny_typeOf (T := "tuple") ⟨ob, kp _ _ ho, hc⟩ q
  | @dict a kvs e =>
    obtain rfl : u = Value.ref a := r
    obtain ⟨_, _, vs, _, dd⟩ := dk_of I.hok e
    refine ⟨?_, by simp [PySem.W.notFirst, sub_dict_own]⟩
    intro A Q E s' kp q
    obtain ⟨ob, ho, hc⟩ := dd.typeIs
    exact wpAny_typeOf (T := "dict") ⟨ob, kp _ _ ho, hc⟩ q
/-- o == y by the class's own == -/
def rEqM (K : PySem.W.Frag) (C : Addr) (sp : Sp) : R2 := fun x y H Q => ∃ a dx fs t, x = .ref a ∧ H a = some (.ins C dx fs) ∧ Oth K H C y t ∧ sp [.ref a, y] H (fun v H' => ∃ b, v = .bl b ∧ Q (.bl b) H') E0
theorem op_eqM (c : CalM X.prog X.w X.K X.mg X.base C "__eq__" k ps sp) (hr : Room k X.A) : OpR X (compareOp .Eq) (rEqM X.K C sp) := by
  intro pins s σ H x y v u Q I rx ry h
  obtain ⟨f, fd, F, me, b, _⟩ := c
  obtain ⟨a, dx, fs, t, rfl, ea, o, q⟩ := h
  obtain rfl : v = Value.ref a := rx
  obtain ⟨mA, O, _⟩ := ins_get I.hok ea
  obtain ⟨od, J, _⟩ := O.look
  obtain ⟨mm, hF⟩ := I.fr
  obtain ⟨lk, nf⟩ := o.looks (M := model X.prog X.w) I ry
  show wpAny _ _ (richCompare .Eq (.ref a) u) _ _ _
  refine PySem.W.cmp_K (op := .Eq) hr.units0 hF I.ok.mod.kin J lk nf me.at_ me.fn (wpAny_mono (run_below F hr rfl b I (.cons (rel_ref _) (.cons ry .nil)) q) (fun r s' z => ?_) fun _ _ e => e)
  obtain ⟨v', H', I', rv, t, rfl, q'⟩ := z
  cases rv
  exact ⟨.bl t, H', I', rfl, q'⟩
end
section
variable {prog : Program} {w : World} {A : Around} {E : Value → Shared → Prop} {s : Shared} {K : PySem.W.Frag} {x C f : Addr} {ox : Obj} {od : Option Obj} {y : Value}
theorem objNe_by (inK : K.In s.heap) (J : PySem.W.InstAt s.heap x ox C od) (hs : PySem.W.findIn K (.ref C) "__eq__" = some (some (.ref f))) (hf : PySem.W.isFn K (.ref f) = true) (hu : A.units < cLine) {Q : Fin → Shared → Prop}
    (hcall : wpAny (model prog w) A (call (.ref f) [.ref x, y]) (fun v s' => ∃ b, v = .bool b ∧ Q (.done (.ret (.bool (!b)))) s') E s) : wpAny (model prog w) A (Builtin.«object.__ne__» ⟨[.ref x, y], []⟩) Q E s := by
  unfold Builtin.«object.__ne__»
  repeat (first
    | with_reducible refine wpAny_cRoomFor hu ?_
    | (refine wpAny_bind (m := callSpecialIfBound? (.ref x) (Str.ofString "__eq__") [y]) (PySem.W.ifBound_K inK J hs hf (wpAny_mono hcall (fun r s' hr => by
          obtain ⟨b, rfl, hq⟩ := hr
          repeat (first | exact hq | exact wpAny_pure hq | exact wpAny_truthy_bool hq | (refine wpAny_bind (m := truthy (.bool _)) (wpAny_truthy_bool ?_)) | wp_step)) fun _ _ e => e)))
    | wp_step)
theorem bound_ne {args : List Value} {Q : Option Value → Shared → Prop} (inK : K.In s.heap) (J : PySem.W.InstAt s.heap x ox C od) (hs : PySem.W.findIn K (.ref C) "__ne__" = some (some (.builtin "object.__ne__")))
    (h : wpAny (model prog w) A (call (.builtin "object.__ne__") (.ref x :: args)) (fun v => Q (some v)) E s) : wpAny (model prog w) A (callSpecialIfBound? (.ref x) "__ne__" args) Q E s := by
  simp only [callSpecialIfBound?, bindSpecialIfBound?]
  refine wpAny_holding (wpAny_bind (wpAny_bind (wpAny_bind (J.type.here ((PySem.W.looks_findIn inK hs).here ?_)))))
  refine wpAny_bind (wpAny_askSetting (wpAny_ite ?_))
  have last : wpAny (model prog w) A (call (.builtin "object.__ne__") ([.ref x] ++ args) >>= fun v => pure (some v)) Q E s := wpAny_bind (wpAny_mono h (fun v s' h' => wpAny_pure h') fun _ _ h' => h')
  split
  · exact wpAny_bind (wpAny_of_eq (PySem.F.cmp_object.ne.bind _) (wpAny_pure (by exact last)))
  · exact wpAny_tryCatch (wpAny_bind (wpAny_of_eq (PySem.F.cmp_object.ne.bind _) (wpAny_pure (by exact last))))
theorem rc_neM {tb : Value} {Q : Value → Shared → Prop} (inK : K.In s.heap) (J : PySem.W.InstAt s.heap x ox C od) (hm : PySem.W.mroIn K C (.type "object") = some true) (hn : PySem.W.findIn K (.ref C) "__ne__" = some (some (.builtin "object.__ne__")))
    (hs : PySem.W.findIn K (.ref C) "__eq__" = some (some (.ref f))) (hf : PySem.W.isFn K (.ref f) = true) (hu : A.units < cLine) (hu1 : A.in1.units < cLine) (lk : PySem.W.Looks (model prog w) s.heap (typeOf y) tb) (nf : PySem.W.notFirst K C tb = true)
    (hcall : wpAny (model prog w) A.in1 (call (.ref f) [.ref x, y]) (fun v s' => ∃ b, v = .bool b ∧ Q (.bool (!b)) s') E s) : wpAny (model prog w) A (richCompare .NotEq (.ref x) y) Q E s := by
  have one : wpAny (model prog w) A (tryCompare (.ref x) "__ne__" y) (fun r s' => ∃ v, r = some v ∧ Q v s') E s := by
    unfold tryCompare
    refine wpAny_bind (bound_ne inK J hn (wpAny_call (codeAny_call_builtin PySem.F.cmp_object.ne.plain PySem.F.cmpEntry_ne
      (PySem.W.check_slot PySem.F.cmpKind_ne PySem.F.cmpSplit_ne (J.type.andThen (PySem.W.looks_mroIn inK hm)) (PySem.F.cmpArgs_ne _ _) (objNe_by inK J hs hf hu1 (wpAny_mono hcall (fun v s' hv => ?_) fun _ _ e => e))))))
    obtain ⟨b, rfl, q⟩ := hv
    first
      | exact ⟨b, rfl, wpAny_pure ⟨_, rfl, q⟩⟩
      | exact ⟨b, rfl, wpAny_pure (wpAny_pure ⟨_, rfl, q⟩)⟩
      | exact ⟨b, rfl, ⟨_, rfl, q⟩⟩
  unfold richCompare
  simp only [oneThing_ref]
  refine wpAny_holding (wpAny_bind (wpAny_cRoomFor hu ?_))
  refine wpAny_bind (J.type.here (wpAny_bind (lk.here ?_)))
  split
  · rename_i q
    have e : PySem.W.subIn K tb (.ref C) = some false := by
      rcases Bool.or_eq_true_iff.mp nf with e | e
      · rw [beq_iff_eq.mp e] at q
        simp at q
      · exact beq_iff_eq.mp e
    refine wpAny_bind ((PySem.W.looks_subIn inK e).here ?_)
    simp only [Bool.false_eq_true, if_false]
    refine wpAny_bind (wpAny_mono one (fun r s' z => ?_) fun _ _ e => e)
    obtain ⟨v, rfl, hq⟩ := z
    exact wpAny_pure hq
  · refine wpAny_bind (wpAny_pure ?_)
    simp only [Bool.false_eq_true, if_false]
    refine wpAny_bind (wpAny_mono one (fun r s' z => ?_) fun _ _ e => e)
    obtain ⟨v, rfl, hq⟩ := z
    exact wpAny_pure hq
end
section
variable {X : Cx} {C : Addr} {k : Nat} {ps : List Str} {sp : Sp}
/-- o != y, the class having no != of its own -/
def rNeM (K : PySem.W.Frag) (C : Addr) (sp : Sp) : R2 := fun x y H Q => ∃ a dx fs t, x = .ref a ∧ H a = some (.ins C dx fs) ∧ Oth K H C y t ∧ sp [.ref a, y] H (fun v H' => ∃ b, v = .bl b ∧ Q (.bl (!b)) H') E0
theorem op_neM (c : CalM X.prog X.w X.K X.mg X.base C "__eq__" k ps sp) (hn : PySem.W.findIn X.K (.ref C) "__ne__" = some (some (.builtin "object.__ne__"))) (hm : PySem.W.mroIn X.K C (.type "object") = some true) (hr : Room (k + 1) X.A) :
    OpR X (compareOp .NotEq) (rNeM X.K C sp) := by
  intro pins s σ H x y v u Q I rx ry h
  obtain ⟨f, fd, F, me, b, _⟩ := c
  obtain ⟨a, dx, fs, t, rfl, ea, o, q⟩ := h
  obtain rfl : v = Value.ref a := rx
  obtain ⟨mA, O, _⟩ := ins_get I.hok ea
  obtain ⟨od, J, _⟩ := O.look
  obtain ⟨lk, nf⟩ := o.looks (M := model X.prog X.w) I ry
  show wpAny _ _ (richCompare .NotEq (.ref a) u) _ _ _
  refine rc_neM I.kIn J hm hn me.at_ me.fn hr.units0 hr.in1.units0 lk nf (wpAny_mono (run_below F hr.in1 rfl b I (.cons (rel_ref _) (.cons ry .nil)) q) (fun r s' z => ?_) fun _ _ e => e)
  obtain ⟨v', H', I', rv, t, rfl, q'⟩ := z
  cases rv
  exact ⟨t, rfl, .bl (!t), H', I', rfl, q'⟩
/-! ### dicts of data compared -/
/-- the pairs ks, one by one, in the dict of the pairs ls -/
inductive HitsV (K : PySem.W.Frag) (H : Hp) (ls : List (Key × V)) : List (Key × V) → Bool → Prop
  | nil : HitsV K H ls [] true
  | miss {p : Key × V} {r : List (Key × V)} (e : valV ls p.1 = none) : HitsV K H ls (p :: r) false
  | hit {p : Key × V} {r : List (Key × V)} {y : V} {d e : PyData} {b : Bool} (at_ : valV ls p.1 = some y) (hd : Dp K H p.2 d) (he : Dp K H y e) (sd : SeqAt.shaped d = true) (se : SeqAt.shaped e = true) (more : HitsV K H ls r b) : HitsV K H ls (p :: r) (PyData.eqv d e && b)
theorem HitsV.raw {pins : List (Addr × Obj)} {σ : L2.St} {H : Hp} {s : Shared} (I : Inv X pins σ H s) (hu : X.A.in1.units + 64 < cLine) {ls : List (Key × V)} {vb : List (Key × Value)} (rb : KV ls vb) {ks : List (Key × V)} {r : Bool} (h : HitsV X.K H ls ks r) :
    ∀ {va : List (Key × Value)}, KV ks va → PySem.W.KeqHits X.A.in1 s vb va r := by
  induction h with
  | nil =>
    intro va ra
    unfold KV at ra
    cases ra
    exact .nil
  | @miss p r e =>
    intro va ra
    unfold KV at ra
    cases ra with
    | @cons _ q _ qs h t =>
      obtain ⟨k, v⟩ := q
      obtain ⟨h1, h2⟩ := h
      have h1' : p.1 = k := h1
      have rr := rb.val p.1
      rw [e, h1'] at rr
      refine .miss ?_
      cases c : valueAt vb k with
      | none => rfl
      | some z => rw [c] at rr; exact rr.elim
  | @hit p r y d e b at_ hd he sd se more ih =>
    intro va ra
    unfold KV at ra
    cases ra with
    | @cons _ q _ qs h t =>
      obtain ⟨k, v⟩ := q
      obtain ⟨h1, h2⟩ := h
      have h1' : p.1 = k := h1
      have rr := rb.val p.1
      rw [at_, h1'] at rr
      obtain ⟨z, hz, rz⟩ := RelO.some_of rr
      obtain ⟨as, r1⟩ := Dp.reads I d p.2 v hd h2
      obtain ⟨bs, r2⟩ := Dp.reads I e y z he rz
      exact .hit hz (PySem.W.keq_at r1 r2 sd se hu) (ih t)
def rEqDX (K : PySem.W.Frag) : R2 := fun x y H Q => ∃ a b ks ls r, x = .ref a ∧ y = .ref b ∧ H a = some (.dK ks) ∧ H b = some (.dK ls) ∧ (ks.length = ls.length → HitsV K H ls ks r) ∧ Q (.bl (ks.length == ls.length && r)) H
theorem op_eqDX (hu : X.A.units + 66 < cLine) : OpR X (compareOp .Eq) (rEqDX X.K) := by
  intro pins s σ H x y v u Q I rx ry h
  obtain ⟨a, b, ks, ls, r, rfl, rfl, ea, eb, hits, q⟩ := h
  obtain rfl : v = Value.ref a := rx
  obtain rfl : u = Value.ref b := ry
  obtain ⟨_, ya, va, ra, da⟩ := dk_of I.hok ea
  obtain ⟨_, yb, vb, rb, db⟩ := dk_of I.hok eb
  have l1 := ra.length
  have l2 := rb.length
  have u1 : X.A.in1.units + 64 < cLine := by
    have e : X.A.in1.units ≤ X.A.units + 1 := by
      show X.A.units + 1 ≤ _
      exact Nat.le_refl _
    omega
  refine PySem.W.keq_eq (knd := mixKind X.prog X.w) (r := r) ya yb da db (by omega) (fun e => (hits (by omega)).raw I u1 rb ra) (fin_bl I q ?_)
  rw [l1, l2]
/-! ### a star before a dict -/
def tStarD (te : TE) (t : TA) : TA := fun σ H Q => te σ H fun x H1 => ∃ p kvs, x = V.ref p ∧ H1 p = some (.dK kvs) ∧ t σ H1 fun ys H2 => Q ((kvs.map fun kv => kV kv.1) ++ ys) H2
theorem star_dict {pins : List (Addr × Obj)} {σ : L2.St} {H : Hp} {s : Shared} (hc : X.calm = true) {a : Addr} {kvs : List (Key × V)} {E : Value → Shared → Prop} {Q : List Value → Shared → Prop} (I : Inv X pins σ H s) (h : H a = some (.dK kvs)) (hQ : ∀ us s', Inv X pins σ H s' → Vals (kvs.map fun kv => kV kv.1) us → Q us s') :
    PySem.W.StarOf (model X.prog X.w) X.A E (.ref a) Q s := by
  obtain ⟨z, lo, vs, rel, dd⟩ := dk_of I.hok h
  obtain ⟨ep, hat⟩ := dd.dictAt
  have hT : s.TypeIs (.ref a) "dict" := dd.typeIs
  have z2 : vs.length ≤ sizeLine := by rw [← rel.length]; exact z
  have ek : (kvs.map fun kv => kV kv.1) = vs.map fun p => kV p.1 := by
    have e := congrArg (List.map kV) rel.keys
    rw [List.map_map, List.map_map] at e
    exact e
  have g : wpAny (model X.prog X.w) X.A (collect (.ref a)) Q E s := by
    refine PySem.W.kdu_collect (PySem.W.kdl_dict (knd := mixKind X.prog X.w) (kvs := vs) (ep := ep) lo) (I.ok.hd hc) hat z2 fun h' tk acc hk hacc => ?_
    have hv : Vals (vs.map fun p => kV p.1) acc.toList := keys_at (by rw [Array.length_toList]; exact hacc.1) fun j v e => hacc.2 j v (by rw [← Array.getElem?_toList]; exact e)
    exact hQ _ _ (I.kept (t' := tk) hk) (by rw [ek]; exact hv)
  unfold PySem.W.StarOf notIterableAtAll
  exact wpAny_bind (wpAny_specialOf hT PySem.F.slot_dict_iter.lookup (wpAny_pure ⟨rfl, g⟩))
theorem pa_starD {e : Expr} {es : List Expr} {te : TE} {t : TA} {p : Pos} (hc : X.calm = true) (he : PE X e te) (hr : PA X es t) (hs : starEach (.Starred e p :: es) X.env = (true, eval e X.env) :: starEach es X.env := by rfl) : PA X (.Starred e p :: es) (tStarD te t) := by
  refine ⟨fun pos pins s σ H Q I h => ?_⟩
  refine PySem.W.items_star (thn (he.run pins s σ H _ I h) fun v s1 ⟨y, H1, I1, ry, a, kvs, ey, hx, q⟩ => ?_) hs
  subst ey
  obtain rfl : v = Value.ref a := ry
  refine star_dict hc I1 hx fun us s2 I2 rv => ?_
  exact thn (hr.run pos pins s2 σ H1 _ I2 q) fun ws s3 ⟨vs, H3, I3, r3, q3⟩ => ⟨_, H3, I3, rv.append r3, q3⟩
end
end Gx

set_option maxRecDepth 100000
set_option maxHeartbeats 4000000
namespace Gx
open PySem PySem.Spec PyProof.Rows L2
/-! ### classes of the top: methods, properties, making -/
theorem fn_in {K : PySem.W.Frag} {f : Addr} {oc : Value} {od : Option Addr} {fd : FuncData} {sl : Array (Option Value)} (l : K.lookup f = some ⟨oc, od, .func fd, sl⟩) : PySem.W.fnIn K f = true := by
  unfold PySem.W.fnIn
  rw [l]
/-- the class at C has the def st as its property m -/
def PropD (K : PySem.W.Frag) (C : Addr) (m qual : Str) (st : Stmt) : Prop := ∃ (p f : Addr) (fd : FuncData), PropOf K C m p f ∧ Fun K m qual st f fd ∧ Binds K fd ["self"] []
/-- .. as its method m -/
def DefM (K : PySem.W.Frag) (C : Addr) (m qual : Str) (st : Stmt) (ps : List Str) : Prop := ∃ (f : Addr) (fd : FuncData), Fun K m qual st f fd ∧ Meth K C m f ∧ Binds K fd ps [] ∧ PySem.W.fnIn K f = true
/-- a property that keeps the promise sp -/
def CalP (P : Program) (w : World) (K : PySem.W.Frag) (mg : Str → Option Value) (base : Heap) (C : Addr) (m : Str) (k : Nat) (sp : Sp) : Prop :=
  ∃ (p f : Addr) (fd : FuncData), PropOf K C m p f ∧ FnOk P w K mg base CX0 k f fd ["self"] sp ∧ Binds K fd ["self"] []
/-- C(..) by its __init__'s promise -/
def CalI (P : Program) (w : World) (K : PySem.W.Frag) (mg : Str → Option Value) (base : Heap) (C : Addr) (k : Nat) (ps : List Str) (sp : Sp) : Prop :=
  ∃ (f : Addr) (fd : FuncData), Mk K C f ∧ FnOk P w K mg base CX0 k f fd ps sp ∧ Binds K fd ps []
section
variable {P : Program} {w : World} {K : PySem.W.Frag} {mg : Str → Option Value} {base : Heap} {C : Addr} {m qual : Str} {st : Stmt} {k : Nat} {ps : List Str} {sp : Sp}
theorem DefM.cal (d : DefM K C m qual st ps) (h : ∀ f fd, Fun K m qual st f fd → FnOk P w K mg base CX0 k f fd ps sp) : CalM P w K mg base C m k ps sp := by
  obtain ⟨f, fd, F, me, b, fi⟩ := d
  exact ⟨f, fd, h f fd F, me, b, fi⟩
theorem PropD.cal (d : PropD K C m qual st) (h : ∀ f fd, Fun K m qual st f fd → FnOk P w K mg base CX0 k f fd ["self"] sp) : CalP P w K mg base C m k sp := by
  obtain ⟨p, f, fd, pr, F, b⟩ := d
  exact ⟨p, f, fd, pr, h f fd F, b⟩
theorem CalP.mono {j : Nat} (c : CalP P w K mg base C m j sp) (h : j ≤ k) : CalP P w K mg base C m k sp := by
  obtain ⟨p, f, fd, pr, F, b⟩ := c
  exact ⟨p, f, fd, pr, F.mono h, b⟩
theorem CalI.mono {j : Nat} (c : CalI P w K mg base C j ps sp) (h : j ≤ k) : CalI P w K mg base C k ps sp := by
  obtain ⟨f, fd, M, F, b⟩ := c
  exact ⟨f, fd, M, F.mono h, b⟩
end
section
variable {X : Cx} {C : Addr} {m x : Str} {k : Nat} {ps : List Str} {sp : Sp} {ta : TE} {t : TA} {o e : Expr} {es : List Expr} {pos apos p : Pos}
/-- o.m, a property -/
def tPropC (C : Addr) (sp : Sp) (ta : TE) : TE := fun σ H Q => ta σ H fun x H1 => ∃ a dx fs, x = .ref a ∧ H1 a = some (.ins C dx fs) ∧ sp [.ref a] H1 Q E0
theorem pe_propC (he : PE X o ta) (cl : Cls X.K C) (c : CalP X.prog X.w X.K X.mg X.base C m k sp) (hr : Room (k + 1) X.A) (hab : attributeBase o m X.env (eval o X.env) = eval o X.env := by rfl) : PE X (.Attribute o m pos) (tPropC C sp ta) := by
  obtain ⟨p, f, fd, pr, F, b⟩ := c
  have h := pe_prop (pos := pos) (E := E0) he cl pr F hr b .nil pass0 hab
  exact h
/-- o.m(..) -/
def tMethC (C : Addr) (m : Str) (sp : Sp) (ta : TE) (t : TA) : TE := fun σ H Q => ta σ H fun x H1 => ∃ a dx fs, x = .ref a ∧ H1 a = some (.ins C dx fs) ∧ fs.lookup m = none ∧ t σ H1 fun vs H2 => sp (x :: vs) H2 Q E0
theorem tMethC_eq : tMeth C m sp [] E0 ta t = tMethC C m sp ta t := by
  funext σ H Q
  show ta σ H _ = ta σ H _
  congr 1
  funext x H1
  simp only [List.append_nil]
theorem pe_methC {pl : Sem Bool} (he : PE X o ta) (cl : Cls X.K C) (c : CalM X.prog X.w X.K X.mg X.base C m k ps sp) (hr : Room k X.A) (ha : PA X (e :: es) t)
    (hst : starEach (e :: es) X.env = (false, eval e X.env) :: starEach es X.env := by rfl) (hpl : (backTo pos (starEach es X.env)).any (·.1) = false := by rfl)
    (ht : eval (.Call (.Attribute o m apos) (e :: es) [] pos) X.env = (do
      let ov ← eval o X.env
      standAt apos.atName
      let (f, first) ← holding [ov] (getMethod ov m pl)
      callWith pos f first (backTo pos (starEach (e :: es) X.env)) (backToKw pos (keywordEach [] X.env))) := by rfl) :
    PE X (.Call (.Attribute o m apos) (e :: es) [] pos) (tMethC C m sp ta t) := by
  obtain ⟨f, fd, F, me, b, fi⟩ := c
  rw [← tMethC_eq]
  exact pe_meth (pl := pl) he cl me F hr b .nil pass0 ha hst hpl ht
/-- C(..) -/
def tMakeC (C : Addr) (sp : Sp) (t : TA) : TE := fun σ H Q => t σ H fun vs H1 => ∀ x dx, H1 x = none → H1 dx = none → dx ≠ x →
  sp (.ref x :: vs) (upd (upd H1 dx (.own x)) x (.ins C dx [])) (fun v H2 => v = .non ∧ Q (.ref x) H2) E0
theorem tMakeC_eq : tMake C sp [] E0 t = tMakeC C sp t := by
  funext σ H Q
  show t σ H _ = t σ H _
  congr 1
  funext vs H1
  simp only [List.append_nil]
theorem pe_makeC (c : CalI X.prog X.w X.K X.mg X.base C k ps sp) (hr : Room (k + 1) X.A) (hg : Gl X x) (hm : X.mg x = some (.ref C)) (ha : PA X (e :: es) t)
    (hdb : (x == ("__debug__" : Str)) = false := by decide) (he : starEach (e :: es) X.env = (false, eval e X.env) :: starEach es X.env := by rfl) (hpl : (backTo pos (starEach es X.env)).any (·.1) = false := by rfl) :
    PE X (.Call (.Name x p) (e :: es) [] pos) (tMakeC C sp t) := by
  obtain ⟨f, fd, M, F, b⟩ := c
  rw [← tMakeC_eq]
  exact pe_make M F hr hg hm b .nil pass0 ha hdb he hpl
end
/-! ### dicts walked under their lock -/
theorem same_lock {H : Hp} {d : Addr} {u : HO} {o : Obj} (e : H d = some u) {b : Addr} {ob : HO} (n : b ≠ d) (h : H b = some ob) : upd H d (.frz o u) b = some ob := by
  rw [upd_ne n]
  exact h
theorem same_unlock {H H' : Hp} {d : Addr} {u : HO} {o : Obj} (e : H d = some u) (s : Same (upd H d (.frz o u)) H') : Same H (upd H' d u) := by
  intro b ob h
  by_cases n : b = d
  · subst n
    rw [upd_same]
    exact e.symm.trans h
  · rw [upd_ne n]
    exact s b ob (by rw [upd_ne n]; exact h)
end Gx

set_option maxRecDepth 100000
set_option maxHeartbeats 4000000
namespace Gx
open PySem PySem.Spec PyProof.Rows L2
/-! ### sets of texts: set(list), sorted(set) -/
/-- a member's text -/
def txE (m : Int × Value) : Str :=
  match m.2 with
  | .str z _ => z
  | _ => Str.empty
def TxE (P : Program) (w : World) (m : Int × Value) : Prop := ∃ z tk, m.2 = Value.str z tk ∧ m.1 = (PySem.strKind P w).hash z
/-- at a stands the set of the texts of L, some of which may be there twice; its table can be walked -/
def SetX (P : Program) (w : World) (h : Heap) (a : Addr) (L : List Str) : Prop :=
  ∃ ob ms ep tb, h.get? a = some ob ∧ ob.ExactSet ∧ ob.data = .set ms ep tb ∧ (∀ m ∈ ms.toList, TxE P w m) ∧ (ms.toList.map txE).Nodup ∧ (∀ z, z ∈ L ↔ z ∈ ms.toList.map txE) ∧
    ms.size < scanBound ∧ tb.fits ms.size = true ∧ ms.size ≤ L.length ∧ Ris tb.place.toList ∧ (w.params.followText "set-order" = true ∨ tb.led = true)
section
variable {P : Program} {w : World} {h h' : Heap} {a : Addr} {L : List Str}
theorem SetX.at (R : SetX P w h a L) (k : ∀ o, h.get? a = some o → h'.get? a = some o) : SetX P w h' a L := by
  obtain ⟨ob, ms, ep, tb, here, more⟩ := R
  exact ⟨ob, ms, ep, tb, k ob here, more⟩
theorem SetX.same {L' : List Str} (R : SetX P w h a L) (e : ∀ z, z ∈ L' ↔ z ∈ L) (hl : L.length ≤ L'.length) : SetX P w h a L' := by
  obtain ⟨ob, ms, ep, tb, here, ex, dt, gd, nd, mem, bd, ft, le, more⟩ := R
  exact ⟨ob, ms, ep, tb, here, ex, dt, gd, nd, fun z => (e z).trans (mem z), bd, ft, Nat.le_trans le hl, more⟩
theorem tx_elems {l : List (Int × Value)} (gd : ∀ m ∈ l, TxE P w m) : ElemsOf (PySem.strKind P w) l := by
  intro m hm
  obtain ⟨z, tk, e1, e2⟩ := gd m hm
  refine ⟨⟨z, ?_, e2⟩, ?_⟩
  · rw [e1]
    exact strKind_is P w z tk
  · rw [e1]
    rfl
theorem tx_is {m : Int × Value} (gd : TxE P w m) (z : Str) : (PySem.strKind P w).is z m.2 = true ↔ txE m = z := by
  obtain ⟨y, tk, e1, _⟩ := gd
  have e3 : txE m = y := by unfold txE; rw [e1]
  rw [e3, e1]
  constructor
  · intro q
    obtain ⟨t, q⟩ := Value.isStrOf_shape (show Value.isStrOf z (.str y tk) = true from q)
    cases q
    rfl
  · rintro rfl
    exact strKind_is P w y tk
theorem tx_mem {l : List (Int × Value)} (gd : ∀ m ∈ l, TxE P w m) (z : Str) : z ∈ l.map txE ↔ ∃ m ∈ l, (PySem.strKind P w).is z m.2 = true := by
  rw [List.mem_map]
  exact ⟨fun ⟨m, hm, q⟩ => ⟨m, hm, (tx_is (gd m hm) z).2 q⟩, fun ⟨m, hm, q⟩ => ⟨m, hm, (tx_is (gd m hm) z).1 q⟩⟩
end
section
variable {P : Program} {w : World} {A : Around} {E : Value → Shared → Prop} {s : Shared} {a : Addr} {L : List Str}
/-! ### one text more -/
theorem setX_tail {g : Bool → Sem Unit} (hg : ∀ (b : Bool) (s₁ : Shared) (Q' : Unit → Shared → Prop), Q' () s₁ → wpAny (model P w) A (g b) Q' E s₁)
    {ob : Obj} {ms : Array (Int × Value)} {ep : Nat} {tb : SetTable} (here : s.heap.get? a = some ob) (ex : ob.ExactSet) (dt : ob.data = .set ms ep tb)
    {ms1 : Array (Int × Value)} {tb2 : SetTable} {L' : List Str} (g1 : ∀ m ∈ ms1.toList, TxE P w m) (nd1 : (ms1.toList.map txE).Nodup) (m1 : ∀ z, z ∈ L' ↔ z ∈ ms1.toList.map txE)
    (bd1 : ms1.size < scanBound) (ft2 : tb2.fits ms1.size = true) (le1 : ms1.size ≤ L'.length) (ri : Ris tb2.place.toList) (ld : w.params.followText "set-order" = true ∨ tb2.led = true) {dummy : Bool} {R : Option Bool → Shared → Prop}
    (hR : ∀ h', Heap.SameBut a s.heap h' → SetX P w h' a L' → R (some true) { s with heap := h' }) :
    wpAny (model P w) A (do
        storeSet a ms1 tb2
        if (!dummy && tb2.tooFull) = true then do
            g (relayAll tb2 ms1 (SetTable.grown ms1.size)).2.2
            storeSet a (relayAll tb2 ms1 (SetTable.grown ms1.size)).1 (relayAll tb2 ms1 (SetTable.grown ms1.size)).2.1
            pure (some true)
          else pure (some true)) R E s := by
  refine wpAny_bind (wpAny_storeSet_of here dt ?_ (fits_of_scanBound bd1))
  have at1 := store_at (es' := ms1) (t' := tb2) here dt
  have but1 := Heap.SameBut.update s.heap a (Obj.putSet ms1 tb2)
  split
  · have perm2 := relayAll_perm tb2 ms1 (SetTable.grown ms1.size)
    have ft3 := relayAll_fits tb2 ms1 (SetTable.grown ms1.size)
    have ri3 := relayAll_ris tb2 ms1 (SetTable.grown ms1.size)
    have ld3 := relayAll_led tb2 ms1 (SetTable.grown ms1.size)
    generalize relayAll tb2 ms1 (SetTable.grown ms1.size) = laid at perm2 ft3 ri3 ld3 ⊢
    obtain ⟨ms2, tb3, gave⟩ := laid
    dsimp only at perm2 ft3 ri3 ld3 ⊢
    have sz2 : ms2.size = ms1.size := by rw [← Array.length_toList, perm2.length_eq, Array.length_toList]
    have bd2 : ms2.size < scanBound := sz2 ▸ bd1
    refine wpAny_bind (hg _ _ _ ?_)
    refine wpAny_bind (wpAny_storeSet_of at1 rfl ?_ (fits_of_scanBound bd2))
    have at2 := store_at (es' := ms2) (t' := tb3) at1 rfl
    refine wpAny_pure (hR _ (but1.trans (Heap.SameBut.update _ a _)) ⟨_, ms2, _, tb3, at2, ex, rfl, fun m hm => g1 m (perm2.mem_iff.mp hm), (perm2.map txE).nodup_iff.mpr nd1, fun z => (m1 z).trans (perm2.map txE).mem_iff.symm, bd2, ?_, by rw [sz2]; exact le1, ri3, ?_⟩)
    · exact ft3
    · exact ld.imp id fun z => by rw [ld3]; exact z
  · exact wpAny_pure (hR _ but1 ⟨_, ms1, _, tb2, at1, ex, rfl, g1, nd1, m1, bd1, ft2, le1, ri, ld⟩)
theorem setX_add {z : Str} {tk : Tok} {Q : Bool → Shared → Prop} (R : SetX P w s.heap a L) (room : L.length + 1 < scanBound)
    (hQ : ∀ h' b, Heap.SameBut a s.heap h' → SetX P w h' a (L ++ [z]) → Q b { s with heap := h' }) :
    wpAny (model P w) A (setAddHashed a (.str z tk) ((PySem.strKind P w).hash z)) Q E s := by
  obtain ⟨ob, ms, ep, tb, here, ex, dt, gd, nd, mem, bd, ft, le, ri, ld⟩ := R
  have isz : (PySem.strKind P w).is z (.str z tk) = true := strKind_is P w z tk
  have scz : (Value.str z tk).scannable = true := rfl
  have els : ElemsOf (PySem.strKind P w) ms.toList := tx_elems gd
  unfold setAddHashed setAddHashedIn
  refine wpAny_holding (wpAny_bind (wpAny_setState_of here dt ft ?_))
  dsimp only
  rw [byScan_of scz bd els]
  simp only [↓reduceIte]
  unfold setAddByScan
  refine wpAny_bind ?_
  refine wpAny_bind (wpAny_rule ?_)
  refine wpAny_bind (wpAny_setScan_of isz here dt ft els ?_)
  cases hfi : List.findIdx? (fun m => (PySem.strKind P w).is z m.2) ms.toList with
  | some j =>
    dsimp only
    obtain ⟨hj, pj, _⟩ := List.findIdx?_eq_some_iff_getElem.mp hfi
    have inL : z ∈ L := (mem z).2 ((tx_mem (P := P) (w := w) gd z).2 ⟨ms.toList[j], List.getElem_mem hj, pj⟩)
    refine wpAny_pure (wpAny_pure ?_)
    refine hQ s.heap _ (Heap.SameBut.refl a s.heap) ⟨ob, ms, ep, tb, here, ex, dt, gd, nd, fun y => ?_, bd, ft, by rw [List.length_append]; omega, ri, ld⟩
    rw [← mem y, List.mem_append, List.mem_singleton]
    exact ⟨fun q => q.elim id fun e => e ▸ inL, .inl⟩
  | none =>
    dsimp only
    have notIn : z ∉ ms.toList.map txE := by
      intro q
      obtain ⟨m, hm, q⟩ := (tx_mem (P := P) (w := w) gd z).1 q
      have c := List.findIdx?_eq_none_iff.mp hfi m hm
      rw [q] at c
      cases c
    have way : ∀ (b : Bool) {s₁ : Shared} {Q' : Unit → Shared → Prop}, Q' () s₁ → wpAny (model P w) A (match b with | true => rule "set.scan.the-table-gave-way" | false => pure ()) Q' E s₁ := by
      intro b s₁ Q' q
      cases b
      · exact wpAny_pure q
      · exact wpAny_rule q
    have perm1 := layNew_perm tb ms ((PySem.strKind P w).hash z) (.str z tk)
    have ft1 := layNew_fits tb ms ((PySem.strKind P w).hash z) (.str z tk)
    have ri1 := layNew_ris tb ms ((PySem.strKind P w).hash z) (.str z tk) ri
    have ld1 := layNew_led tb ms ((PySem.strKind P w).hash z) (.str z tk)
    generalize layNew tb ms ((PySem.strKind P w).hash z) (.str z tk) = laid at perm1 ft1 ri1 ld1 ⊢
    obtain ⟨ms1, tb1, dummy, gave⟩ := laid
    dsimp only at perm1 ft1 ri1 ld1 ⊢
    rw [Array.toList_push] at perm1
    have permC : ms1.toList.Perm (((PySem.strKind P w).hash z, Value.str z tk) :: ms.toList) := perm1.trans (List.perm_append_singleton _ _)
    have permK : (ms1.toList.map txE).Perm (z :: ms.toList.map txE) := permC.map txE
    have g1 : ∀ m ∈ ms1.toList, TxE P w m := by
      intro m hm
      rcases List.mem_cons.mp (permC.mem_iff.mp hm) with q | q
      · rw [q]
        exact ⟨z, tk, rfl, rfl⟩
      · exact gd m q
    have nd1 : (ms1.toList.map txE).Nodup := permK.nodup_iff.mpr (List.nodup_cons.mpr ⟨notIn, nd⟩)
    have m1 : ∀ y, y ∈ L ++ [z] ↔ y ∈ ms1.toList.map txE := by
      intro y
      rw [List.mem_append, List.mem_singleton, mem y, permK.mem_iff, List.mem_cons]
      exact Or.comm
    have sz1 : ms1.size = ms.size + 1 := by rw [← Array.length_toList, permC.length_eq, List.length_cons, Array.length_toList]
    have bd1 : ms1.size < scanBound := by omega
    have le1 : ms1.size ≤ (L ++ [z]).length := by rw [List.length_append, List.length_singleton]; omega
    have led1 : w.params.followText "set-order" = true ∨ tb1.led = true := ld.imp id fun q => by rw [ld1]; exact q
    refine wpAny_bind (way _ ?_)
    split
    · refine wpAny_bind ?_
      rw [hashByValue_scannable 8 scz]
      refine wpAny_pure ?_
      refine setX_tail ?_ here ex dt g1 nd1 m1 bd1 ?_ le1 ?_ ?_ ?_
      · intro b s₁ Q' q
        cases b <;> first | exact wpAny_pure q | exact wpAny_rule q
      · first | (split <;> first | exact ft1 | exact SetTable.fits_plain_off ft1) | exact ft1
      · first | (split <;> exact ri1) | exact ri1
      · first | (split <;> exact led1) | exact led1
      · intro h' sb r
        dsimp only
        exact wpAny_pure (hQ h' _ sb r)
    · refine wpAny_bind (wpAny_pure ?_)
      simp only [↓reduceIte]
      refine setX_tail ?_ here ex dt g1 nd1 m1 bd1 ft1 le1 ri1 led1 ?_
      · intro b s₁ Q' q
        cases b <;> first | exact wpAny_pure q | exact wpAny_rule q
      · intro h' sb r
        dsimp only
        exact wpAny_pure (hQ h' _ sb r)
end
/-- the texts of a list of values, by place -/
theorem texts_at : ∀ {us : List Value} {xs : List Str}, StrsAre us xs → ∀ (i : Nat) (v : Value), us[i]? = some v → ∃ x t, xs[i]? = some x ∧ v = .str x t
  | _, _, .nil, i, v, h => by cases h
  | _, _, .cons n t r, 0, v, h => by
    cases h
    exact ⟨n, t, rfl, rfl⟩
  | _, _, .cons n t r, i + 1, v, h => texts_at r i v h
section
variable {prog : Program} {w : World} {A : Around} {R : Result → Shared → Prop} {I : Addr} {fp wr : List Addr} {G : Array GenState → Array GenState → Prop} {n : Nat} {P : Nat → Value → Prop} {St : Nat → Shared → Prop}
/-- all texts of an iterator put into the set at S -/
theorem setX_loop (W : WalksS prog w A.in1 I fp wr G n P St) (S : Addr) (off : S ∉ fp) (xs : List Str) (len : xs.length = n) (few : n + 1 < scanBound)
    (val : ∀ i v, P i v → ∃ x t, xs[i]? = some x ∧ v = .str x t) : ∀ (k i : Nat) (s : Shared), n - i = k → i ≤ n → St i s → SetX prog w s.heap S (xs.take i) →
      (∀ s', Moved (S :: wr) G s s' → SetX prog w s'.heap S xs → R (.ok (.ret .none)) s') →
      codeAny (model prog w) A (.builtin "set.update.loop" ⟨[.ref S, .ref I], []⟩) R s := by
  have offW : S ∉ wr := fun z => off (W.sub _ z)
  have sub : ∀ b ∈ wr, b ∈ S :: wr := fun b hb => List.mem_cons_of_mem _ hb
  intro k
  induction k with
  | zero =>
    intro i s hk hi st hS hR
    obtain rfl : i = n := by omega
    rw [← len, List.take_length] at hS
    refine codeAny_builtin PyProof.Rows.F.entry_set_update_loop ?_
    rw [Around.under_plainId PyProof.Rows.F.plain_set_update_loop _]
    show wpAny _ A.in1 (pyNext (.ref I) >>= _) _ _ s
    refine wpAny_bind (W.done s _ _ st fun s' mv => ?_)
    show wpAny _ A.in1 (ret Value.none) _ _ s'
    exact wpAny_pure (hR s' (mv.mono sub) (hS.at fun o e => mv.heap S _ offW e))
  | succ k ih =>
    intro i s hk hi st hS hR
    have lt : i < n := by omega
    refine codeAny_builtin PyProof.Rows.F.entry_set_update_loop ?_
    rw [Around.under_plainId PyProof.Rows.F.plain_set_update_loop _]
    show wpAny _ A.in1 (pyNext (.ref I) >>= _) _ _ s
    refine wpAny_bind (W.item i s _ _ lt st fun v s' hP st' mv => ?_)
    obtain ⟨x, t, hx, rfl⟩ := val i v hP
    have hS' : SetX prog w s'.heap S (xs.take i) := hS.at fun o e => mv.heap S _ offW e
    show wpAny _ A.in1 (holding [Value.str x t] (setAdd S (.str x t)) >>= _) _ _ s'
    refine wpAny_bind (wpAny_holding ?_)
    unfold setAdd
    refine wpAny_holding ?_
    refine wpAny_bind ((PySem.strKind prog w).pyHash (k := x) (strKind_is _ _ _ _) ?_)
    refine setX_add (s := { s' with toks := s'.toks + 1 }) hS' (by rw [List.length_take]; omega) fun h' b sb hS2 => ?_
    have hS3 : SetX prog w h' S (xs.take (i + 1)) := by
      have e : xs.take (i + 1) = xs.take i ++ [x] := by rw [List.take_add_one, hx]; rfl
      rw [e]
      exact hS2
    refine wpAny_pure ⟨plainId_quiet PyProof.Rows.F.plain_set_update_loop _, ih (i + 1) _ (by omega) lt (W.frame _ s' _ _ st' (Nat.le_succ _) fun b hb o e => ?_) hS3 fun s'' mv2 hS4 => ?_⟩
    · rw [sb.2 b (fun z : b = S => off (z ▸ hb))]
      exact e
    · refine hR s'' (Moved.trans W.gtrans ((mv.mono sub).then_heap (Nat.le_succ _) fun b o hb e => ?_) mv2) hS4
      rw [sb.2 b (fun z : b = S => hb (by rw [z]; exact List.mem_cons_self))]
      exact e
end
section
variable {P : Program} {w : World} {A : Around} {E : Value → Shared → Prop} {s : Shared}
theorem code_setX {x : Value} {Q₁ : Value → Shared → Prop}
    (h : Q₁ (.ref s.heap.objs.size) { s with heap := s.heap.push { cls := .type "set", dict := none, data := .set #[] 0 (.fresh 0 0 (!w.params.followText "set-order")) } }) :
    codeAny (model P w) A (.call (.builtin "set.__new__") ⟨[.type "set", x], []⟩) (wants Q₁ E) s := by
  refine codeAny_of_tree ?_
  show wpAny _ A.in1 (do checkBuiltinCall "set.__new__" ⟨[.type "set", x], []⟩; again (.builtin "set.__new__" ⟨[.type "set", x], []⟩)) _ _ s
  refine wpAny_bind (wpAny_of_eq (PySem.F.newCall_set_1 x) (wpAny_pure ⟨plainId_quiet F.plain_set_new _, codeAny_builtin F.entry_set_new ?_⟩))
  rw [Around.under_plainId F.plain_set_new _]
  unfold Builtin.«set.__new__» Builtin.Frozenset.newClass
  have hsub := sub_set_self
  obtain ⟨hp, g, d, tk, os⟩ := s
  dsimp only
  wp_walk
  refine wpAny_askSetting (wpAny_pure ?_)
  dsimp only
  simp only [newObj]
  exact wpAny_bind (wpAny_alloc (wpAny_pure (wpAny_pure h)))
theorem setX_fresh {h : Heap} : SetX P w (h.push { cls := .type "set", dict := none, data := .set #[] 0 (.fresh 0 0 (!w.params.followText "set-order")) }) h.objs.size [] := by
  refine ⟨_, #[], 0, _, Heap.get?_push_size _ rfl, ⟨rfl, rfl, rfl⟩, rfl, (fun m hm => by simp at hm), (by simp), (fun z => by simp), (by decide), (by rfl), (Nat.zero_le _), List.Pairwise.nil, ?_⟩
  show _ ∨ (!w.params.followText "set-order") = true
  cases w.params.followText "set-order"
  · exact .inr rfl
  · exact .inl rfl
set_option maxHeartbeats 6400000 in
/-- set(list of texts) -/
theorem call_setX {l : Addr} {items : Array Value} {xs : List Str} {Q : Value → Shared → Prop} (hh : A.handled = none) (hl : s.heap.IsList l items) (hi : StrsAre items.toList xs) (few : xs.length + 1 < scanBound)
    (h : ∀ (h' : Heap) (tk : Nat), SetX P w h' s.heap.objs.size xs → (∀ b o, b < s.heap.objs.size → s.heap.get? b = some o → h'.get? b = some o) → Q (.ref s.heap.objs.size) { s with heap := h', toks := tk }) :
    wpAny (model P w) A (call (.type "set") [.ref l]) Q E s := by
  obtain ⟨c, tl, hmro⟩ := PySem.F.called_set.mro
  have hmade := PySem.F.called_set.made
  have hsub := PySem.F.called_set.sub
  refine wpAny_call (codeAny_of_tree ?_)
  show wpAny _ _ (callAny (.type "set") _) _ _ _
  refine wpAny_pure ⟨Code.quiet_builtin _ (by decide +kernel), codeAny_builtin PySem.F.entry_type_call ?_⟩
  rw [Around.under_plain (weight_type_call_type "set" [.ref l] []) rfl]
  have h1 := PySem.F.called_set.notType
  have h2 := PySem.F.called_set.canCreate
  have hct := PySem.F.typeCall_set_1 (.ref l)
  repeat (any_goals (first | assumption | wp_step))
  have R0 : SetX P w (s.heap.push { cls := .type "set", dict := none, data := .set #[] 0 (.fresh 0 0 (!w.params.followText "set-order")) }) s.heap.objs.size [] := setX_fresh
  refine codeAny_mono (code_setX (x := .ref l) (E := E) (Q₁ := fun obj s₁ => obj = .ref s.heap.objs.size ∧ s₁ = { s with heap := s.heap.push { cls := .type "set", dict := none, data := .set #[] 0 (.fresh 0 0 (!w.params.followText "set-order")) } }) ⟨rfl, rfl⟩) fun r s₁ hr => ?_
  have hS : (s.heap.push { cls := .type "set", dict := none, data := .set #[] 0 (.fresh 0 0 (!w.params.followText "set-order")) }).get? s.heap.objs.size = some { cls := .type "set", dict := none, data := .set #[] 0 (.fresh 0 0 (!w.params.followText "set-order")) } := Heap.get?_push_size _ rfl
  cases r with
  | error e => exact hr
  | ok fl =>
    cases fl with
    | ret obj =>
      obtain ⟨rfl, rfl⟩ := hr
      have hT : Shared.TypeIs { s with heap := s.heap.push ({ cls := .type "set", dict := none, data := .set #[] 0 (.fresh 0 0 (!w.params.followText "set-order")) } : Obj) } (.ref s.heap.objs.size) "set" := ⟨_, hS, rfl⟩
      have hli := PySem.F.called_set.init.lookup
      have hbi := PySem.F.called_set.init.bind (.ref s.heap.objs.size)
      repeat (any_goals (first | assumption | wp_step))
      refine codeAny_mono (codeAny_call_builtin (R := wants (fun r s₂ => r = .none ∧ ∃ h' tk, s₂ = { s with heap := h', toks := tk } ∧ SetX P w h' s.heap.objs.size xs ∧
          (∀ b o, b < s.heap.objs.size → s.heap.get? b = some o → h'.get? b = some o)) E) PySem.F.called_set.init.plain PySem.F.entry_set_init (check_set_init_1 hT ?_)) fun r₂ s₂ hr₂ => ?_
      · obtain ⟨ol, hol, hcl, nl, hdl⟩ := hl
        obtain ⟨ocls, odict, odata, oslots⟩ := ol
        simp only at hcl hdl
        subst hcl; subst hdl
        have hol' : (s.heap.push ({ cls := .type "set", dict := none, data := .set #[] 0 (.fresh 0 0 (!w.params.followText "set-order")) } : Obj)).get? l = some { cls := .type "list", dict := odict, data := .seq items nl, slots := oslots } := Heap.get?_push_of_some _ hol
        have hsls := PySem.F.sub_list_set
        have hslf := PySem.F.sub_list_frozenset
        have hne : (Value.type "list" == Value.type "dict") = false := by decide
        have hl1 : (s.heap.push ({ cls := .type "set", dict := none, data := .set #[] 0 (.fresh 0 0 (!w.params.followText "set-order")) } : Obj)).IsList l items := ⟨_, hol', rfl, nl, rfl⟩
        unfold Builtin.«set.__init__» noKeywords Builtin.Frozenset.updateFrom
        generalize hPI : pyIter = PI
        wp_walk
        subst hPI
        refine wpAny_pyIter_list hl1 ?_
        refine wpAny_bind (wpAny_runValue ?_)
        have hlS : l < s.heap.objs.size := Heap.lt_size hol
        have hh3 : A.in1.in1.in1.handled = none := by simp [hh]
        have szp : (s.heap.push ({ cls := .type "set", dict := none, data := .set #[] 0 (.fresh 0 0 (!w.params.followText "set-order")) } : Obj)).objs.size = s.heap.objs.size + 1 := Heap.size_push _ _
        have hneI : l ≠ (s.heap.push ({ cls := .type "set", dict := none, data := .set #[] 0 (.fresh 0 0 (!w.params.followText "set-order")) } : Obj)).objs.size := by rw [szp]; exact Nat.ne_of_lt (Nat.lt_succ_of_lt hlS)
        have hSf : s.heap.objs.size ∉ [(s.heap.push ({ cls := .type "set", dict := none, data := .set #[] 0 (.fresh 0 0 (!w.params.followText "set-order")) } : Obj)).objs.size, l] := by
          rw [szp]
          simp only [List.mem_cons, List.not_mem_nil, or_false, not_or]
          exact ⟨Nat.ne_of_lt (Nat.lt_succ_self _), Nat.ne_of_gt hlS⟩
        have hsz : xs.length = items.size := by rw [← StrsAre.len_eq hi, Array.length_toList]
        refine setX_loop ((Walks.list hh3 _ l hneI items).toS) s.heap.objs.size hSf xs hsz (by rw [← hsz]; exact few) (fun i v hv => texts_at hi i v (by rw [Array.getElem?_toList]; exact hv))
          (items.size - 0) 0 _ (by omega) (Nat.zero_le _) ⟨⟨_, Heap.get?_push_size _ rfl, rfl, rfl⟩, (hl1.push _)⟩ ?hS0 ?hR
        case hS0 => exact R0.at fun o e => Heap.get?_push_of_some _ e
        case hR =>
          intro s' hm hS'
          obtain ⟨h', g', d', tk', os'⟩ := s'
          obtain rfl : g' = s.gens := hm.gens
          obtain rfl : d' = s.drawn := hm.drawn
          obtain rfl : os' = s.os := hm.os
          show wpAny _ _ _ _ _ _
          refine wpAny_pure ?_
          show wpAny _ _ (ret Value.none) _ _ _
          refine wpAny_pure ⟨rfl, h', tk', rfl, hS', fun b o hb e => hm.heap b o ?_ (Heap.get?_push_of_some _ (Heap.get?_push_of_some _ e))⟩
          rw [szp]
          simp only [List.mem_cons, List.not_mem_nil, or_false, not_or]
          exact ⟨Nat.ne_of_lt hb, Nat.ne_of_lt (Nat.lt_succ_of_lt hb)⟩
      · cases r₂ with
        | error e => exact hr₂
        | ok fl₂ =>
          cases fl₂ with
          | ret r =>
            obtain ⟨rfl, h', tk, rfl, hS', hk'⟩ := hr₂
            repeat (any_goals (first | assumption | wp_step))
            exact h _ _ hS' hk'
          | _ => exact hr₂.elim
    | _ => exact hr.elim
theorem strs_of : ∀ (l : List Value), (∀ v ∈ l, ∃ z tk, v = Value.str z tk) → ∃ xs, StrsAre l xs ∧ xs = l.map fun v => txE (0, v)
  | [], _ => ⟨[], .nil, rfl⟩
  | v :: l, h => by
    obtain ⟨z, tk, rfl⟩ := h v List.mem_cons_self
    obtain ⟨xs, h1, rfl⟩ := strs_of l fun u hu => h u (List.mem_cons_of_mem _ hu)
    exact ⟨_, .cons z tk h1, rfl⟩
/-- sorted(set of texts) -/
theorem sorted_setX {a : Addr} {L : List Str} {Q : Value → Shared → Prop} (R : SetX P w s.heap a L) (hh : A.handled = none)
    (hQ : ∀ s' p (out : Array Value) (c : Nat) (ys : List Str), (∀ b o, s.heap.get? b = some o → s'.heap.get? b = some o) → s'.gens = s.gens → s'.os = s.os → s.heap.objs.size ≤ p →
      s'.heap.get? p = some (seqObj "list" out c) → StrsAre out.toList ys → sortedS ys = true → ys.Nodup → (∀ z, z ∈ ys ↔ z ∈ L) → Q (.ref p) s') :
    wpAny (model P w) A (call (.builtin "sorted") [.ref a]) Q E s := by
  obtain ⟨ob, ms, ep, tb, here, ex, dt, gd, nd, mem, bd, ft, le, ri, ld⟩ := R
  refine Calls.call_function_entry kind_sorted plain_sorted entry_sorted (args_sorted1 _) ?_
  unfold Builtin.«sorted»
  refine wpAny_bind (m := checkCount "sorted" 1 1 _) (wpAny_pure ?_)
  refine wpAny_bind (collect_set (A := A.in1) hh ⟨ob, here, ex.1, dt⟩ ft bd ri ld fun s1 vs k1 hz g1 o1 pm => ?_)
  have lenV : vs.length = ms.size := by rw [pm.length_eq, List.length_map, Array.length_toList]
  obtain ⟨xs, hS, exs⟩ := strs_of vs fun v hv => by
    obtain ⟨m, hm, q⟩ := List.mem_map.mp (pm.mem_iff.mp hv)
    obtain ⟨z, tk, e1, _⟩ := gd m hm
    exact ⟨z, tk, by rw [← q]; exact e1⟩
  have permX : xs.Perm (ms.toList.map txE) := by
    have q := pm.map fun v => txE (0, v)
    rw [List.map_map] at q
    rw [exs]
    exact q
  have lineV : vs.length ≤ sizeLine := by rw [lenV]; exact fits_of_scanBound bd
  refine wpAny_bind (wpAny_newList ?_ lineV)
  have hoL : (s1.heap.push (seqObj "list" vs.toArray 0)).get? s1.heap.objs.size = some (seqObj "list" vs.toArray 0) := Heap.get?_push_size _ rfl
  refine wpAny_bind (wpAny_holding (wpAny_call_entry slot_list_sort ⟨_, hoL, rfl⟩ entry_list_sort
    (list_sort_treeKAny strKind_oneLt (s := { s1 with heap := s1.heap.push (seqObj "list" vs.toArray 0) }) hoL hS.keysOf (fun v₁ v₂ rest e => keyKind_strs (by rw [← e]; exact hS)) lineV fun st' hp hs => ⟨_, rfl, ?_⟩) (args_list_sort _)))
  obtain ⟨ys, y1, y2, y3⟩ := sorted_out_str hS hp hs
  obtain ⟨c, hc⟩ := sortedHeap_at (vs := vs) (out := (arrOf st').map (·.2)) hoL
  have permY : ys.Perm (ms.toList.map txE) := y2.trans permX
  refine wpAny_pure ⟨_, rfl, hQ _ s1.heap.objs.size ((arrOf st').map (·.2)) c ys (fun b u e => ?_) g1 o1 hz hc y1 y3 (permY.nodup_iff.mpr nd) fun z => by rw [permY.mem_iff, ← mem z]⟩
  have q := k1 b u e
  have lt := Heap.lt_size q
  show (sortedHeap (s1.heap.push (seqObj "list" vs.toArray 0)) s1.heap.objs.size vs ((arrOf st').map (·.2))).get? b = some u
  rw [sortedHeap_old (Nat.ne_of_lt lt) (by rw [size_push']; exact Nat.lt_succ_of_lt lt)]
  exact Heap.get?_push_of_some _ q
end
/-! ### over the hand layer -/
/-- the set of the texts of L at a -/
def SetO' (P : Program) (w : World) (a : Addr) (L : List Str) : HO := .ext fun h => SetX P w h a L
section
variable {X : Cx}
def rSetX (K : PySem.W.Frag) (P : Program) (w : World) : List V → Hp → VK → Prop := fun vs H Q => ∃ (l : Addr) (xs : List Str), vs = [V.ref l] ∧ SqL K H l (xs.map V.str) ∧ xs.length ≤ 1000 ∧ ∀ p, H p = none → Q (.ref p) (upd H p (SetO' P w p xs))
theorem cr_setX (hc : X.calm = true) : CallR X (.type "set") (rSetX X.K X.prog X.w) := by
  intro pins s σ H vs us Q I r h
  obtain ⟨l, xs, rfl, hq, few, q⟩ := h
  rw [Vals.ref1 r]
  obtain ⟨its, rv, pl, hz⟩ := I.list hq
  refine call_setX (I.ok.hd hc) pl.isList (by simpa using rv.strs) (Nat.lt_of_le_of_lt (Nat.succ_le_succ few) (by decide)) fun h' tk hS hk => ?_
  have kp : ∀ b o, s.heap.get? b = some o → h'.get? b = some o := fun b o e => hk b o (Heap.lt_size e) e
  obtain ⟨ob, ms, ep, tb, here, more⟩ := id hS
  exact ⟨.ref s.heap.objs.size, _, I.laid (t' := tk) kp (Nat.le_refl _) (show ObjOk X.prog X.w _ h' _ (SetO' X.prog X.w s.heap.objs.size xs) from ⟨hS, ⟨ob, here⟩, fun h1 h2 p k => SetX.at p k⟩), rfl, q _ (I.hok.fresh (Nat.le_refl _))⟩
def rSortedX (P : Program) (w : World) : List V → Hp → VK → Prop := fun vs H Q => ∃ (a : Addr) (L : List Str), vs = [V.ref a] ∧ H a = some (SetO' P w a L) ∧ L.length ≤ 1000 ∧
  ∀ (ys : List Str) (p : Addr), sortedS ys = true → ys.Nodup → (∀ z, z ∈ ys ↔ z ∈ L) → H p = none → Q (.ref p) (upd H p (.lst (ys.map V.str)))
theorem vals_texts : ∀ {us : List Value} {xs : List Str}, StrsAre us xs → Vals (xs.map V.str) us
  | _, _, .nil => .nil
  | _, _, .cons n t r => .cons ⟨t, rfl⟩ (vals_texts r)
theorem cr_sortedX (hc : X.calm = true) : CallR X (.builtin "sorted") (rSortedX X.prog X.w) := by
  intro pins s σ H vs us Q I r h
  obtain ⟨a, L, rfl, ha, few, q⟩ := h
  rw [Vals.ref1 r]
  have hX : SetX X.prog X.w s.heap a L := (I.hok a _ ha).1
  refine sorted_setX hX (I.ok.hd hc) fun s' p out c ys k g o hp hg hi hs nd hm => ?_
  have lt : ys.length ≤ L.length := List.Nodup.length_le_of_subset nd fun z hz => (hm z).1 hz
  have hlen : (ys.map V.str).length ≤ sizeLine := by rw [List.length_map]; exact Nat.le_trans (Nat.le_trans lt few) (by decide)
  have hn : H p = none := I.hok.fresh hp
  have J : Inv X pins σ (upd H p (.lst (ys.map V.str))) { s with heap := s'.heap, gens := s'.gens, drawn := s'.drawn, toks := s'.toks } :=
    I.call (ch := []) (Un.laid k hp hn) (I.hok.laid k hp ⟨hlen, out.toList, c, vals_texts hi, hg⟩) (by rw [g]; exact I.bare) (fun _ z => nomatch z)
  obtain ⟨h', g', d', t', o'⟩ := s'
  obtain rfl : o' = s.os := o
  exact ⟨.ref p, _, J, rfl, q ys p hs nd hm hn⟩
end
end Gx

set_option maxRecDepth 100000
set_option maxHeartbeats 4000000
namespace Gx
open PySem PySem.Spec PyProof.Rows L2
/-! ### rules of my own, over any program -/
section
variable {X : Cx}
/-- repr of a truth -/
theorem call_repr_bl : CallR X (.builtin "repr") (fun xs H Q => ∃ b : Bool, xs = [.bl b] ∧ Q (.str (if b then "True" else "False")) H) := by
  intro pins s σ H xs us Q I r h
  obtain ⟨b, rfl, q⟩ := h
  obtain ⟨u, rfl, rx⟩ := vals1 r
  cases (show u = Value.bool b from rx)
  exact PySem.P.repr_of_bool ⟨.str _, H, I.tok _, ⟨_, rfl⟩, q⟩
/-- the signs of a text, a text each -/
def signV (x : Str) : List V := x.cps.toList.map fun c => V.str ⟨#[c]⟩
theorem vals_signs {x : Str} {acc : Array Value} (h : ItemsOf (SignAt x) acc x.cps.size) : Vals (signV x) acc.toList := by
  have key : ∀ (l : List Nat) (vs : List Value), vs.length = l.length → (∀ (j : Nat) (v : Value), vs[j]? = some v → ∃ (c : Nat) (u : Tok), l[j]? = some c ∧ v = Value.str ⟨#[c]⟩ u) → Vals (l.map fun c => V.str ⟨#[c]⟩) vs := by
    intro l
    induction l with
    | nil =>
      intro vs hl _
      cases vs with
      | nil => exact .nil
      | cons a r => cases hl
    | cons c l ih =>
      intro vs hl hv
      cases vs with
      | nil => cases hl
      | cons v vs =>
        obtain ⟨c', u, e1, e2⟩ := hv 0 v rfl
        have e1' : c = c' := Option.some.inj e1
        subst e1'
        exact .cons ⟨u, e2⟩ (ih vs (Nat.succ.inj hl) fun j w hw => hv (j + 1) w hw)
  refine key x.cps.toList acc.toList (by rw [Array.length_toList, Array.length_toList]; exact h.1) fun j v hv => ?_
  obtain ⟨c, u, hc, e⟩ := h.2 j v (by simpa using hv)
  exact ⟨c, u, by simpa using hc, e⟩
/-- list(text) -/
theorem call_list_text (hc : X.calm = true) : CallR X (.type "list") (fun xs H Q => ∃ x : Str, xs = [.str x] ∧ x.length ≤ sizeLine ∧ ∀ l, H l = none → Q (.ref l) (upd H l (.lst (signV x)))) := by
  intro pins s σ H xs us Q I r h
  obtain ⟨x, rfl, hz, q⟩ := h
  obtain ⟨u, rfl, t, rfl⟩ := vals1 r
  refine PySem.call_list_str (I.ok.hd hc) x t (fun h' tk acc' c' kp e ha => ?_) hz
  have hv := vals_signs ha
  refine ⟨.ref s.heap.objs.size, _, I.laid (t' := tk) kp (Nat.le_refl _) (show ObjOk X.prog X.w _ h' _ (.lst (signV x)) from ⟨?_, acc'.toList, c', hv, by simpa using e⟩), rfl, q _ (I.hok.fresh (Nat.le_refl _))⟩
  rw [hv.length, Array.length_toList]
  have := ha.1
  rw [this]
  exact hz
/-- tuple(text) -/
theorem call_tuple_text (hc : X.calm = true) : CallR X (.type "tuple") (fun xs H Q => ∃ x : Str, xs = [.str x] ∧ x.length ≤ sizeLine ∧ ∀ l, H l = none → Q (.ref l) (upd H l (.tup (signV x)))) := by
  intro pins s σ H xs us Q I r h
  obtain ⟨x, rfl, hz, q⟩ := h
  obtain ⟨u, rfl, t, rfl⟩ := vals1 r
  refine PySem.call_tuple_str (I.ok.hd hc) x t (fun h' tk acc kp ha => ?_) hz
  have hv := vals_signs ha
  have I1 : Inv X pins σ H { s with heap := h', toks := tk } := I.kept (t' := tk) kp
  have hlen : (signV x).length ≤ sizeLine := by
    rw [hv.length, Array.length_toList]
    have := ha.1
    rw [this]
    exact hz
  have I2 : Inv X pins σ (upd H h'.objs.size (.tup (signV x))) { s with heap := h'.push { cls := .type "tuple", data := .seq acc }, toks := tk } :=
    I1.laid (t' := tk) (fun b o e => Heap.get?_push_of_some _ e) (Nat.le_refl _) (show ObjOk X.prog X.w _ _ _ (.tup (signV x)) from ⟨hlen, acc.toList, hv, by simpa using IsTup.new _ _⟩)
  exact ⟨.ref h'.objs.size, _, I2, rfl, q _ (I1.hok.fresh (Nat.le_refl _))⟩
/-- text * k -/
theorem op_mul_text : OpR X (binaryOp .Mult) (fun x y H Q => ∃ (a : Str) (n : Int), x = .str a ∧ y = .int n ∧ MulOk a n ∧ Q (.str (Txt.mul a n)) H) := by
  intro pins s σ H x y v u Q I rx ry h
  obtain ⟨a, n, rfl, rfl, hz, q⟩ := h
  obtain ⟨t, rfl⟩ := rx
  obtain ⟨t', rfl⟩ := ry
  exact SB.mul hz fun t' k => ⟨.str _, H, I.tok _, ⟨_, rfl⟩, q⟩
end
theorem mulOk_small {a : Str} {n : Int} (h1 : 2 ≤ n) (h2 : n ≤ 1000) (ha : a.length ≤ 1000) : MulOk a n := by
  refine ⟨?_, fun _ _ => ?_, fun _ _ => ?_⟩
  · rw [Bool.or_eq_false_iff]
    exact ⟨decide_eq_false (by omega), decide_eq_false (by omega)⟩
  · have : (1000 : Int) ≤ (2 ^ 63 - 1) / n := by
      refine (Int.le_ediv_iff_mul_le (by omega)).mpr ?_
      have : (1000 : Int) * n ≤ 1000 * 1000 := Int.mul_le_mul_of_nonneg_left h2 (by decide)
      omega
    omega
  · unfold Builtin.Str.tooLong
    refine decide_eq_false ?_
    have h3 : a.length * n.toNat ≤ 1000 * 1000 := Nat.mul_le_mul ha (by omega)
    rw [sizeLine_eq]
    omega

/-! ### defs of the top, and what they promise -/
/-- the def st stands at the top under its name -/
def Def (K : PySem.W.Frag) (mg : Str → Option Value) (x qual : Str) (st : Stmt) (ps : List Str) : Prop :=
  ∃ (f : Addr) (fd : FuncData), Fun K x qual st f fd ∧ Binds K fd ps [] ∧ mg x = some (.ref f)
/-- the name x is a def that keeps the promise sp, by at most level k -/
def Cal (P : Program) (w : World) (K : PySem.W.Frag) (mg : Str → Option Value) (base : Heap) (k : Nat) (x : Str) (ps : List Str) (sp : Sp) : Prop :=
  ∃ (f : Addr) (fd : FuncData), FnOk P w K mg base CX0 k f fd ps sp ∧ PySem.W.keepIn K (.ref f) = true ∧ Binds K fd ps [] ∧ mg x = some (.ref f)
section
variable {P : Program} {w : World} {K : PySem.W.Frag} {mg : Str → Option Value} {base : Heap}
theorem Cal.mono {j k : Nat} {x : Str} {ps : List Str} {sp : Sp} (c : Cal P w K mg base j x ps sp) (h : j ≤ k) : Cal P w K mg base k x ps sp := by
  obtain ⟨f, fd, F, kp, b, g⟩ := c
  exact ⟨f, fd, F.mono h, kp, b, g⟩
theorem Cal.imp {k : Nat} {x : Str} {ps : List Str} {sp sp' : Sp} (c : Cal P w K mg base k x ps sp) (h : ∀ vs H Q E, sp' vs H Q E → sp vs H Q E) : Cal P w K mg base k x ps sp' := by
  obtain ⟨f, fd, F, kp, b, g⟩ := c
  exact ⟨f, fd, F.imp h, kp, b, g⟩
theorem Def.cal {x qual : Str} {st : Stmt} {ps : List Str} (d : Def K mg x qual st ps) {k : Nat} {sp : Sp} (h : ∀ f fd, Fun K x qual st f fd → FnOk P w K mg base CX0 k f fd ps sp) : Cal P w K mg base k x ps sp := by
  obtain ⟨f, fd, F, b, g⟩ := d
  exact ⟨f, fd, h f fd F, F.kp, b, g⟩
end
section
variable {X : Cx}
/-- f(..), without the empty list of defaults -/
def tCl (sp : Sp) (t : TA) : TE := fun σ H Q => t σ H fun vs H1 => sp vs H1 Q E0
theorem tCl_eq (sp : Sp) (t : TA) : tCall sp [] E0 t = tCl sp t := by
  funext σ H Q
  show t σ H _ = t σ H _
  congr 1
  funext vs H1
  rw [List.append_nil]
theorem pe_cal {x : Str} {ps : List Str} {sp : Sp} {k : Nat} {e : Expr} {es : List Expr} {t : TA} {p pos : Pos} (c : Cal X.prog X.w X.K X.mg X.base k x ps sp) (hr : Room k X.A) (hg : Gl X x) (h : PA X (e :: es) t)
    (hdb : (x == ("__debug__" : Str)) = false := by decide) (he : starEach (e :: es) X.env = (false, eval e X.env) :: starEach es X.env := by rfl) (hpl : (backTo pos (starEach es X.env)).any (·.1) = false := by rfl) :
    PE X (.Call (.Name x p) (e :: es) [] pos) (tCl sp t) := by
  obtain ⟨f, fd, F, kp, b, g⟩ := c
  rw [← tCl_eq]
  exact pe_call F hr hg g kp b .nil pass0 h hdb he hpl
theorem pe_cal0 {x : Str} {ps : List Str} {sp : Sp} {k : Nat} {p pos : Pos} (c : Cal X.prog X.w X.K X.mg X.base k x ps sp) (hr : Room k X.A) (hg : Gl X x)
    (hdb : (x == ("__debug__" : Str)) = false := by decide) : PE X (.Call (.Name x p) [] [] pos) (tCl sp tNil) := by
  obtain ⟨f, fd, F, kp, b, g⟩ := c
  rw [← tCl_eq]
  exact pe_call0 F hr hg g kp b .nil pass0 hdb
end
/-- a statement, then the rest, with a word between them: what follows is shown once -/
def tCut (t u : TS) : TS := fun D σ H => ∃ Mid : L2.St → Hp → Prop, t { D with nx := Mid } σ H ∧ ∀ σ' H', Mid σ' H' → u D σ' H'
section
variable {X : Cx}
theorem pss_cut {st : Stmt} {rest : List Stmt} {t u : TS} (h1 : PS X st t) (h2 : PSs X rest u) : PSs X (st :: rest) (tCut t u) := by
  refine ⟨fun pins s σ H D I h => ?_⟩
  obtain ⟨Mid, hm, hu⟩ := h
  refine wpAny_execs_cons (thn (h1.run pins s σ H { D with nx := Mid } I hm) fun f s1 q => ?_)
  cases f with
  | next =>
    obtain ⟨σ', H', I', q⟩ := q
    exact h2.run pins s1 σ' H' D I' (hu σ' H' q)
  | ret v => exact q
  | brk => exact q
  | cont => exact q
end
theorem sqL_ne {K : PySem.W.Frag} {H : Hp} {a d : Addr} {o : HO} {xs : List V} (n : a ≠ d) (h : SqL K H a xs) : SqL K (upd H d o) a xs := by
  rcases h with (h | ⟨u, h⟩) | h
  · exact .inl (.inl (by rw [upd_ne n]; exact h))
  · exact .inl (.inr ⟨u, by rw [upd_ne n]; exact h⟩)
  · exact .inr h
theorem sqT_ne {K : PySem.W.Frag} {H : Hp} {a d : Addr} {o : HO} {xs : List V} (n : a ≠ d) (h : SqT K H a xs) : SqT K (upd H d o) a xs := by
  rcases h with (h | ⟨u, h⟩) | h
  · exact .inl (.inl (by rw [upd_ne n]; exact h))
  · exact .inl (.inr ⟨u, by rw [upd_ne n]; exact h⟩)
  · exact .inr h
theorem atI_int {α : Type} {xs : List α} {r : Int} (h0 : 0 ≤ r) (h1 : r < xs.length) : ∃ v, v ∈ xs ∧ atI xs r = some v := by
  obtain ⟨k, rfl⟩ := Int.eq_ofNat_of_zero_le h0
  have hk : k < xs.length := by omega
  exact ⟨xs[k], List.getElem_mem hk, atI_nat (List.getElem?_eq_getElem hk)⟩
theorem signV_len (z : Str) : (signV z).length = z.length := by
  unfold signV
  rw [List.length_map, Array.length_toList]
  rfl
/-- for c in text -/
theorem for_str {x : Str} {g : TG} {tb : TS} {D : Ends} {σ : L2.St} {H : Hp} (Pv : Nat → L2.St → Hp → Prop) (h0 : Pv 0 σ H)
    (hs : ∀ (i c : Nat) (σ : L2.St) (H : Hp), x.cps.toList[i]? = some c → Pv i σ H → g (.str ⟨#[c]⟩) σ H fun σ2 H2 => tb { D with nx := Pv (i + 1), ct := Pv (i + 1), bk := D.nx } σ2 H2) (hd : ∀ σ H, Pv x.cps.size σ H → D.nx σ H) :
    ∃ W : Nat → Nat → L2.St → Hp → Prop, (∃ m, W 0 m σ H) ∧ ∀ i m σ H, W i m σ H →
      ((Its x).stop i H ∧ D.nx σ H) ∨ ((Its x).go i H ∧ ∃ N : L2.St → Hp → Prop, (∀ σ' H', N σ' H' → ∃ m', m' < m ∧ W (i + 1) m' σ' H') ∧ ∀ v H', (Its x).yld i H v H' → g v σ H' fun σ2 H2 => tb { D with nx := N, ct := N, bk := D.nx } σ2 H2) := by
  refine ⟨fun i m σ H => m = x.cps.size - i ∧ i ≤ x.cps.size ∧ Pv i σ H, ⟨x.cps.size, by simp, Nat.zero_le _, h0⟩, ?_⟩
  rintro i m σ H ⟨rfl, hi, p⟩
  by_cases hlt : i < x.cps.size
  · refine .inr ⟨hlt, Pv (i + 1), fun σ' H' p' => ⟨x.cps.size - (i + 1), by omega, rfl, hlt, p'⟩, fun v H' y => ?_⟩
    obtain ⟨e, c, hc, ev⟩ := y
    subst e ev
    exact hs i c σ _ (by simpa using hc) p
  · have e : i = x.cps.size := by omega
    subst e
    exact .inl ⟨Nat.le_refl _, hd σ H p⟩
theorem decI (a b : Int) : decide (V.int a = V.int b) = decide (a = b) := decide_eq_decide.mpr ⟨V.int.inj, fun e => e ▸ rfl⟩
theorem decS (a b : Str) : decide (V.str a = V.str b) = decide (a = b) := decide_eq_decide.mpr ⟨V.str.inj, fun e => e ▸ rfl⟩
theorem app_len (a b : Str) : (a ++ b).length = a.length + b.length := by
  show (a.cps ++ b.cps).size = _
  rw [Array.size_append]
  rfl
/-- texts of one sign each, joined by nothing -/
theorem join_one {e : Str} (he : e.length = 0) : ∀ zs : List Str, (∀ z ∈ zs, z.length = 1) → (Txt.join e zs).length = zs.length := by
  have key : ∀ zs : List Str, (∀ z ∈ zs, z.length = 1) → (Str.join e zs).length = zs.length := by
    intro zs
    induction zs with
    | nil => intro _; rfl
    | cons x r ih =>
      intro h
      cases r with
      | nil => exact h x (List.mem_cons_self ..)
      | cons y r =>
        show (x ++ e ++ Str.join e (y :: r)).length = _
        rw [app_len, app_len, he, ih fun z hz => h z (List.mem_cons_of_mem _ hz), h x (List.mem_cons_self ..), List.length_cons (a := x)]
        omega
  intro zs h
  rw [TL.join_eq]
  exact key zs h
theorem sum_ones : ∀ zs : List Str, (∀ z ∈ zs, z.length = 1) → (zs.map (·.length)).sum = zs.length
  | [], _ => rfl
  | x :: r, h => by
    rw [List.map_cons, List.sum_cons, sum_ones r fun z hz => h z (List.mem_cons_of_mem _ hz), h x (List.mem_cons_self ..), List.length_cons]
    omega
theorem mul_len {a : Str} {n : Int} (h1 : 2 ≤ n) (ha : 1 ≤ a.length) : (Txt.mul a n).length = a.length * n.toNat := by
  unfold Txt.mul
  rw [if_neg (by omega)]
  have e1 : (n == 1) = false := by rw [beq_eq_false_iff_ne]; omega
  have e2 : (a.length == 0) = false := by rw [beq_eq_false_iff_ne]; omega
  rw [e1, e2, if_neg (by decide)]
  have key : ∀ (k : Nat) (acc : Array Nat), ((List.replicate k a.cps).foldl (· ++ ·) acc).size = acc.size + k * a.cps.size := by
    intro k
    induction k with
    | zero => intro acc; show acc.size = _; omega
    | succ k ih =>
      intro acc
      rw [List.replicate_succ, List.foldl_cons, ih, Array.size_append, Nat.succ_mul]
      omega
  show ((List.replicate n.toNat a.cps).foldl (· ++ ·) #[]).size = a.cps.size * n.toNat
  rw [key, Nat.mul_comm]
  show 0 + _ = _
  omega
theorem same_at {H H' : Hp} {p : Addr} {o : HO} (n : H p = none) (s : Same H H') : Same H (upd H' p o) := fun b u e => by
  rw [upd_ne (ne_of_none e n)]
  exact s b u e
/-- the three numbers of some dice -/
def DiceAt (H : Hp) (d : Addr) : Prop := ∃ x b c : Int, H d = some (.lst [.int x, .int b, .int c])
end Gx

set_option maxRecDepth 100000
set_option maxHeartbeats 4000000
namespace Gx
open PySem PySem.Spec PyProof.Rows L2
/-! ### promises that hold where no repr is under way -/
/-- no repr is under way -/
abbrev Gd (A : Around) : Prop := A.guards = some []
structure FnG (P : Program) (w : World) (K : PySem.W.Frag) (mg : Str → Option Value) (base : Heap) (CX : CXT) (k : Nat) (f : Addr) (fd : FuncData) (ps : List Str) (sp : Sp) : Prop where
  len : ∀ vs H Q E, sp vs H Q E → vs.length = ps.length
  run : ∀ (A : Around) (outer : List Env) (s : Shared) (H : Hp) (args : Args) (us : List Value) (vs : List V) (Q : VK) (E : XK),
    Gd A → Room k A → Env0 P w K mg base A outer s H → BindsTo s fd args (ps.zip us) → Vals vs us → sp vs H Q E →
      codeAny (model P w) A (.call (.ref f) args) (CR CX outer P w H s Q E) s
section
variable {P : Program} {w : World} {K : PySem.W.Frag} {mg : Str → Option Value} {base : Heap} {CX : CXT} {k : Nat} {f : Addr} {fd : FuncData} {ps : List Str} {sp : Sp}
theorem fnG_of (F : FnOk P w K mg base CX k f fd ps sp) : FnG P w K mg base CX k f fd ps sp := ⟨F.len, fun A outer s H args us vs Q E _ => F.run A outer s H args us vs Q E⟩
theorem FnG.up {j : Nat} (F : FnG P w K mg base CX j f fd ps sp) (h : j ≤ k) : FnG P w K mg base CX k f fd ps sp :=
  ⟨F.len, fun A outer s H args us vs Q E g hr => F.run A outer s H args us vs Q E g (hr.mono h)⟩
theorem FnG.less {sp' : Sp} (F : FnG P w K mg base CX k f fd ps sp) (h : ∀ vs H Q E, sp' vs H Q E → sp vs H Q E) : FnG P w K mg base CX k f fd ps sp' :=
  ⟨fun vs H Q E q => F.len vs H Q E (h vs H Q E q), fun A outer s H args us vs Q E g hr he hb hv hs => F.run A outer s H args us vs Q E g hr he hb hv (h vs H Q E hs)⟩
end
/-- a def by its body, where no repr is under way -/
theorem fnG_body {CX : CXT} {P : Program} {w : World} {K : PySem.W.Frag} {mg : Str → Option Value} {base : Heap} {k : Nat} {f : Addr} {nm ql : Str} {prm : Arguments} {bd : List Stmt} {sc : Scope}
    {dv kv dc pm cd ct oc : Value} {an od : Option Addr} {sl : Array (Option Value)} {N ps : List Str} {sp : Sp}
    (look : K.lookup f = some ⟨oc, od, .func (PySem.W.fnOf nm ql prm bd sc dv kv dc pm an cd ct), sl⟩) (hcode : PySem.W.codeIn K cd ql = true) (S : FnScope N ps sc)
    (hlen : ∀ vs H Q E, sp vs H Q E → vs.length = ps.length)
    (hb : ∀ (A : Around) (outer : List Env) (s : Shared) (H : Hp) (vs : List V) (Q : VK) (E : XK), Gd A → Room k (A.deeper (envOfC ql sc s.heap.objs.size f cd)) → sp vs H Q E →
      ∃ t, PSs (cxOf CX P w K mg base N ql sc f cd A outer s H E) bd t ∧ t { nx := fun _ H' => Q .non H', rt := Q } (start N vs) H) :
    FnG P w K mg base CX (k + 1) f (PySem.W.fnOf nm ql prm bd sc dv kv dc pm an cd ct) ps sp := by
  constructor
  · exact hlen
  · intro A outer s H args us vs Q E g room env bind rel want
    have inS : K.In s.heap := env.mod.kin.keeps fun b o e => (env.bs b o e).1
    have noLim : s.heap.NoLimit := env.mod.nolimit.keeps fun b o e => (env.bs b o e).1
    have kinds : ∀ y ∈ ps.zip us, sc.names.lookup y.1 = some .local ∨ (sc.names.lookup y.1 = some .cell ∧ ((cellsFrom (s.heap.objs.size + 1) sc.names []).lookup y.1).isSome = true) := by
      rintro ⟨n, v⟩ hy
      rcases S.par n (List.of_mem_zip hy).1 with q | q
      · exact Or.inl q
      · exact Or.inr ⟨q, PySem.W.cellsFrom_some _ _ _ (Or.inl q)⟩
    refine codeAny_call_function room.depth (inS _ _ look) rfl S.co S.gen rfl (PySem.W.codeRec_of inS hcode)
      (bind _ _ _ _ (wpAny_newFunctionEnv_cells S.kind kinds fun env' he s1 made => ?_))
    subst he
    refine ⟨noLim.keeps made.toInCall.keep, codeAny_func ?_⟩
    obtain ⟨t, ht, hq⟩ := hb A outer s H vs Q E g (room.deeper _) want
    have I0 := inv_start (CX := CX) (E := E) (N := N) S room.hd env (hlen _ _ _ _ want) rel made
    refine wpAny_mono (ht.run [] s1 (start N vs) H _ I0 hq) ?_ (fun e s' hs => hs)
    intro fl s' hs
    cases fl with
    | brk =>
      obtain ⟨_, _, _, no⟩ := hs
      exact no.elim
    | cont =>
      obtain ⟨_, _, _, no⟩ := hs
      exact no.elim
    | next =>
      obtain ⟨σ', H', J, q⟩ := hs
      exact ⟨V.non, H', J.os, J.bare, J.base, J.hok, rfl, q⟩
    | ret u =>
      obtain ⟨v, σ', H', J, rv, q⟩ := hs
      exact ⟨v, H', J.os, J.bare, J.base, J.hok, rv, q⟩
section
variable {P : Program} {w : World} {K : PySem.W.Frag} {mg : Str → Option Value} {base : Heap}
/-- .. of the text -/
theorem okG {x qual : Str} {st : Stmt} {f : Addr} {fd : FuncData} {N ps : List Str} {k : Nat} {sp : Sp} (F : Fun K x qual st f fd) (S : FnScope N ps (defScope st)) (hlen : ∀ vs H Q E, sp vs H Q E → vs.length = ps.length)
    (hb : ∀ (cdv : Value) (A : Around) (outer : List Env) (s : Shared) (H : Hp) (vs : List V) (Q : VK) (E : XK), Gd (A.deeper (envOfC qual (defScope st) s.heap.objs.size f cdv)) → Room k (A.deeper (envOfC qual (defScope st) s.heap.objs.size f cdv)) → sp vs H Q E →
      ∃ t, PSs (cxOf CX0 P w K mg base N qual (defScope st) f cdv A outer s H E).nox (defBody st) t ∧ t { nx := fun _ H' => Q .non H', rt := Q } (start N vs) H) : FnG P w K mg base CX0 (k + 1) f fd ps sp := by
  obtain ⟨oc, od, kV, doc, pm, an, cdv, ct, osl, rfl, lk, hcd⟩ := F.ex
  refine fnG_body lk hcd S hlen fun A outer s H vs Q E g hr want => ?_
  obtain ⟨t, h, q⟩ := hb cdv A outer s H vs Q E g hr want
  exact ⟨t, h.nox, q⟩
/-- .. which may raise -/
theorem okGX {x qual : Str} {st : Stmt} {f : Addr} {fd : FuncData} {N ps : List Str} {k : Nat} {sp : Sp} (F : Fun K x qual st f fd) (S : FnScope N ps (defScope st)) (hlen : ∀ vs H Q E, sp vs H Q E → vs.length = ps.length) {CX : CXT}
    (hb : ∀ (cdv : Value) (A : Around) (outer : List Env) (s : Shared) (H : Hp) (vs : List V) (Q : VK) (E : XK), Gd (A.deeper (envOfC qual (defScope st) s.heap.objs.size f cdv)) → Room k (A.deeper (envOfC qual (defScope st) s.heap.objs.size f cdv)) → sp vs H Q E →
      ∃ t, PSs (cxOf CX P w K mg base N qual (defScope st) f cdv A outer s H E) (defBody st) t ∧ t { nx := fun _ H' => Q .non H', rt := Q } (start N vs) H) : FnG P w K mg base CX (k + 1) f fd ps sp := by
  obtain ⟨oc, od, kV, doc, pm, an, cdv, ct, osl, rfl, lk, hcd⟩ := F.ex
  exact fnG_body lk hcd S hlen fun A outer s H vs Q E g hr want => hb cdv A outer s H vs Q E g hr want
/-- the name x is a def that keeps the promise sp where no repr is under way -/
def CalG (P : Program) (w : World) (K : PySem.W.Frag) (mg : Str → Option Value) (base : Heap) (k : Nat) (x : Str) (ps : List Str) (sp : Sp) : Prop :=
  ∃ (f : Addr) (fd : FuncData), FnG P w K mg base CX0 k f fd ps sp ∧ PySem.W.keepIn K (.ref f) = true ∧ Binds K fd ps [] ∧ mg x = some (.ref f)
theorem Cal.g {k : Nat} {x : Str} {ps : List Str} {sp : Sp} (c : Cal P w K mg base k x ps sp) : CalG P w K mg base k x ps sp := by
  obtain ⟨f, fd, F, r⟩ := c
  exact ⟨f, fd, fnG_of F, r⟩
theorem CalG.up {j k : Nat} {x : Str} {ps : List Str} {sp : Sp} (c : CalG P w K mg base j x ps sp) (h : j ≤ k) : CalG P w K mg base k x ps sp := by
  obtain ⟨f, fd, F, r⟩ := c
  exact ⟨f, fd, F.up h, r⟩
theorem Def.calG {x qual : Str} {st : Stmt} {ps : List Str} (d : Def K mg x qual st ps) {k : Nat} {sp : Sp} (h : ∀ f fd, Fun K x qual st f fd → FnG P w K mg base CX0 k f fd ps sp) : CalG P w K mg base k x ps sp := by
  obtain ⟨f, fd, F, b, g⟩ := d
  exact ⟨f, fd, h f fd F, F.kp, b, g⟩
end
section
variable {X : Cx}
/-- the callee runs -/
theorem runG {CX : CXT} {k : Nat} {f : Addr} {fd : FuncData} {ps : List Str} {sp : Sp} {E : XK} {ds : List Value} {dvs : List V} {pins : List (Addr × Obj)} {σ : L2.St} {H : Hp} {s : Shared} {Q : VK} {us : List Value} {vs : List V}
    (F : FnG X.prog X.w X.K X.mg X.base CX k f fd ps sp) (g : Gd X.A) (room : Room k X.A) (hb : Binds X.K fd ps ds) (hd : Vals dvs ds) (hx : Passes CX X E)
    (I : Inv X pins σ H s) (r : Vals vs us) (want : sp (vs ++ dvs) H Q E) : wpAny (model X.prog X.w) X.A (call (.ref f) us) (EP X pins σ Q) X.xe s := by
  have rel := r.append hd
  have hl : (us ++ ds).length = ps.length := rel.length.symm.trans (F.len _ _ _ _ want)
  have hc := F.run X.A X.stack s H ⟨us, []⟩ (us ++ ds) (vs ++ dvs) Q E g room I.env0 (hb s us I.kIn hl) rel want
  refine wpAny_call (codeAny_mono hc ?_)
  intro res s' hres
  match res, hres with
  | .error e, hres => exact hx pins σ H s e s' I hres
  | .ok (.ret u), hres => exact I.after hres
theorem pe_calG {x : Str} {ps : List Str} {sp : Sp} {k : Nat} {e : Expr} {es : List Expr} {t : TA} {p pos : Pos} (c : CalG X.prog X.w X.K X.mg X.base k x ps sp) (g : Gd X.A) (room : Room k X.A) (hg : Gl X x) (h : PA X (e :: es) t)
    (hdb : (x == ("__debug__" : Str)) = false := by decide) (hst : starEach (e :: es) X.env = (false, eval e X.env) :: starEach es X.env := by rfl) (hpl : (backTo pos (starEach es X.env)).any (·.1) = false := by rfl) :
    PE X (.Call (.Name x p) (e :: es) [] pos) (tCl sp t) := by
  obtain ⟨f, fd, F, kp, b, hm⟩ := c
  rw [← tCl_eq]
  refine ⟨fun pins s σ H Q I want => wpAny_Call_Name_kw (ld_glob I hg hm ?_ hdb)⟩
  exact PySem.W.callWith_K (h₀ := X.base) I.ok.mod.kin kp (thn (h.run pos pins s σ H _ I want) fun us s1 ⟨vs, H1, I1, r, q⟩ => ⟨I1.kIn, runG F g room b .nil pass0 I1 r q⟩) hst hpl
theorem pe_calG0 {x : Str} {ps : List Str} {sp : Sp} {k : Nat} {p pos : Pos} (c : CalG X.prog X.w X.K X.mg X.base k x ps sp) (g : Gd X.A) (room : Room k X.A) (hg : Gl X x)
    (hdb : (x == ("__debug__" : Str)) = false := by decide) : PE X (.Call (.Name x p) [] [] pos) (tCl sp tNil) := by
  obtain ⟨f, fd, F, kp, b, hm⟩ := c
  rw [← tCl_eq]
  exact ⟨fun pins s σ H Q I want => wpAny_Call_Name_kw (ld_glob I hg hm (PySem.W.callWith_K0 I.kIn kp (runG (us := []) F g room b .nil pass0 I .nil want)) hdb)⟩
end
/-! ### repr of data -/
theorem repr_ref {prog : Program} {w : World} {A : Around} {E : Value → Shared → Prop} {s : Shared} {Q : Value → Shared → Prop} {a : Addr} {d : PyData} {as : List Addr}
    (r : Reads s.heap (.ref a) d as) (hs : d.showable = true) (hsm : d.hasDict = true → sysModules ∉ as) (hsz : d.shown.length ≤ sizeLine) (g : Gd A) (hu : A.units + 1 + d.depth < cLine)
    (h : ∀ h' u tk, (∀ b o, s.heap.get? b = some o → h'.get? b = some o) → Q (.str d.shown u) { s with heap := h', toks := tk }) : wpAny (model prog w) A (call (.builtin "repr") [.ref a]) Q E s := by
  obtain ⟨T, idr, B⟩ := showsBy_of_reads (prog := prog) (w := w) r hs hsm hsz
  have hT := B.typeIs s fun _ _ e => e
  refine Calls.call_function_entry F.kind_repr F.plain_repr F.entry_repr (F.args_repr1 _) ?_
  unfold Builtin.«repr»
  refine wpAny_bind (m := oneArg "repr" _) (wpAny_pure ?_)
  refine wpAny_bind (wpAny_cRoomFor (by show A.units + 1 < cLine; omega) ?_)
  refine wpAny_bind (wpAny_specialOf (name := Str.ofString "__repr__") hT B.slotRepr.lookup ?_)
  refine wpAny_bind (m := callSpecialIfBound? (.ref a) (Str.ofString "__repr__")) (wpAny_callSpecialIfBound?_slotG (name := Str.ofString "__repr__") hT B.slotRepr (B.call _ _ s _ g (by show A.units + 1 + _ < cLine; omega) (fun _ _ e => e) fun h' u tk hk => ?_))
  refine wpAny_bind (wpAny_isInstance (T := "str") (b := true) rfl isSubtype_str_str ?_)
  exact wpAny_pure ⟨_, rfl, h h' u tk hk⟩
section
variable {X : Cx}
/-- repr(x), x data without dicts -/
def rRepr (K : PySem.W.Frag) : List V → Hp → VK → Prop := fun xs H Q => ∃ (x : V) (d : PyData), xs = [x] ∧ Dp K H x d ∧ d.showable = true ∧ d.hasDict = false ∧ d.depth ≤ 60 ∧ d.shown.length ≤ sizeLine ∧ Q (.str d.shown) H
theorem call_reprD (g : Gd X.A) (hu : X.A.units + 64 < cLine) : CallR X (.builtin "repr") (rRepr X.K) := by
  intro pins s σ H xs us Q I r h
  obtain ⟨x, d, rfl, hd, h1, h2, h3, h4, q⟩ := h
  obtain ⟨u, rfl, rx⟩ := vals1 r
  obtain ⟨as, hr⟩ := Dp.reads I d x u hd rx
  cases hr with
  | none => simp only [PyData.shown] at q; exact PySem.P.repr_of_none ⟨.str _, H, I.tok _, ⟨_, rfl⟩, q⟩
  | bool b => simp only [PyData.shown] at q; exact PySem.P.repr_of_bool ⟨.str _, H, I.tok _, ⟨_, rfl⟩, q⟩
  | int i t => simp only [PyData.shown] at q; exact PySem.P.repr_of_int (by simpa [PyData.showable] using h1) ⟨.str _, H, I.tok _, ⟨_, rfl⟩, q⟩
  | str y t => simp only [PyData.shown] at q h4; exact PySem.P.repr_of_str ⟨.str _, H, I.tok _, ⟨_, rfl⟩, q⟩ h4
  | list e1 e2 e3 e4 =>
    exact repr_ref (.list e1 e2 e3 e4) h1 (fun e => by rw [h2] at e; cases e) h4 g (by omega) fun h' u tk hk => ⟨.str _, H, I.kept (t' := tk) hk, ⟨_, rfl⟩, q⟩
  | tuple e1 e2 e3 e4 =>
    exact repr_ref (.tuple e1 e2 e3 e4) h1 (fun e => by rw [h2] at e; cases e) h4 g (by omega) fun h' u tk hk => ⟨.str _, H, I.kept (t' := tk) hk, ⟨_, rfl⟩, q⟩
  | dict e1 e2 e3 e4 e5 =>
    exact repr_ref (.dict e1 e2 e3 e4 e5) h1 (fun e => by rw [h2] at e; cases e) h4 g (by omega) fun h' u tk hk => ⟨.str _, H, I.kept (t' := tk) hk, ⟨_, rfl⟩, q⟩
end
/-! ### sorted of a tuple of texts -/
section
variable {X : Cx}
def rSortedTS (K : PySem.W.Frag) : List V → Hp → VK → Prop := fun vs H Q => ∃ (a : Addr) (xs : List Str), vs = [V.ref a] ∧ SqT K H a (xs.map V.str) ∧ xs.length ≤ 100000 ∧
  ∀ (ys : List Str) (p : Addr), ys.Perm xs → sortedS ys = true → H p = none → Q (.ref p) (upd H p (.lst (ys.map V.str)))
theorem cr_sortedTS : CallR X (.builtin "sorted") (rSortedTS X.K) := by
  intro pins s σ H vs us Q I r h
  obtain ⟨a, xs, rfl, ht, hz, q⟩ := h
  obtain ⟨its, rv, ⟨o, ho, hc, n, hd⟩, _⟩ := I.tuple ht
  rw [Vals.ref1 r]
  have hln : xs.length = its.length := by
    have e := rv.length
    rw [List.length_map] at e
    exact e
  have hS : StrsAre its xs := rv.strs
  have hL : its.length ≤ sizeLine := Nat.le_trans (by omega) (show 100000 ≤ sizeLine by decide)
  refine Calls.call_function_entry kind_sorted plain_sorted entry_sorted (args_sorted1 _) ?_
  unfold Builtin.«sorted»
  refine wpAny_bind (m := checkCount "sorted" 1 1 _) (wpAny_pure ?_)
  refine wpAny_bind (wpAny_collect_seq a (.inr rfl) ho hc hd (fun h' hk => ?_) (by rw [List.size_toArray]; exact hL))
  have I1 : Inv _ pins σ H { s with heap := h' } := I.kept (t' := s.toks) hk
  rw [List.toList_toArray]
  refine wpAny_bind (wpAny_newList ?_ hL)
  have hoL : (h'.push (seqObj "list" its.toArray 0)).get? h'.objs.size = some (seqObj "list" its.toArray 0) := Heap.get?_push_size _ rfl
  show wpAny _ _ _ _ _ { s with heap := h'.push (seqObj "list" its.toArray 0) }
  refine wpAny_bind (wpAny_holding (wpAny_call_entry slot_list_sort ⟨_, hoL, rfl⟩ entry_list_sort
    (list_sort_treeKAny strKind_oneLt (s := { s with heap := h'.push (seqObj "list" its.toArray 0) }) hoL hS.keysOf (fun v₁ v₂ rest e => keyKind_strs (by rw [← e]; exact hS)) hL fun st' hp hs => ⟨_, rfl, ?_⟩) (args_list_sort _)))
  obtain ⟨ys, g1, g2, g3⟩ := sorted_out_str hS hp hs
  obtain ⟨e', he'⟩ := sortedHeap_at (vs := its) (out := (arrOf st').map (·.2)) hoL
  have hlen : (ys.map V.str).length ≤ sizeLine := by
    rw [List.length_map, g2.length_eq, hln]
    exact hL
  refine wpAny_pure ⟨_, rfl, .ref h'.objs.size, upd H h'.objs.size (.lst (ys.map V.str)), I1.laid (t' := s.toks) (fun b u e => ?_) (Nat.le_refl _)
    (show ObjOk X.prog X.w _ _ _ (.lst (ys.map V.str)) from ⟨hlen, ((arrOf st').map (·.2)).toList, e', vals_of_strs g1, by rw [Array.toArray_toList]; exact he'⟩), rfl, q ys _ g2 g3 (I1.hok.fresh (Nat.le_refl _))⟩
  have hb : b < h'.objs.size := Heap.lt_size e
  rw [sortedHeap_old (Nat.ne_of_lt hb) (by rw [size_push']; exact Nat.lt_succ_of_lt hb)]
  exact Heap.get?_push_of_some _ e
end
/-! ### the end of a law whose promise holds where no repr is under way -/
/-- the abstract heap at the law's call: the script alone, if the module does not own it -/
def H00 (a : Addr) (o : Obj) (ns : List Int) (own : Bool) : Hp := fun b => if own = false ∧ b = a then some (.frz o (.lst (ns.map V.int))) else none
theorem h00_none {a b : Addr} {o : Obj} {ns : List Int} {own : Bool} (h : own = true ∨ b ≠ a) : H00 a o ns own b = none := by
  unfold H00
  rw [if_neg]
  rintro ⟨h1, h2⟩
  rcases h with h | h
  · rw [h1] at h; cases h
  · exact h h2
theorem h00_some {a b : Addr} {o : Obj} {ns : List Int} {own : Bool} {u : HO} (h : H00 a o ns own b = some u) : own = false ∧ b = a ∧ u = .frz o (.lst (ns.map V.int)) := by
  unfold H00 at h
  by_cases c : own = false ∧ b = a
  · rw [if_pos c] at h
    exact ⟨c.1, c.2, (Option.some.inj h).symm⟩
  · rw [if_neg c] at h
    cases h
theorem lawG {P : Program} {w : World} {K : PySem.W.Frag} {mg mb : Str → Option Value} {CX : CXT} {k : Nat} {fa a : Addr} {fd : FuncData} {x : Str} {sp : Sp} {t : Shared} {vs : List Value} {ns : List Int}
    (inK : K.In t.heap) (glob : t.heap.Ns mainGlobals mg) (blt : t.heap.Ns builtinsNs mb) (boot : ∀ y : Str, y ≠ "__name__" → mb y = bootBuiltins y) (noLim : t.heap.NoLimit) (gens : t.gens = #[])
    (scr : t.heap.get? a = some { cls := .type "list", data := .seq vs.toArray }) (hints : IntsAre vs ns) (short : ns.length ≤ sizeLine) (room : Room k callerA)
    (F : ∀ base : Heap, K.In base → base.Ns mainGlobals mg → FnG P w K mg base CX k fa fd [x] sp) (bind : ∀ (s : Shared) (u : Value), BindsTo s fd ⟨[u], []⟩ [(x, u)])
    (want : ∀ H : Hp, Only H → SqL K H a (ns.map V.int) → sp [.ref a] H (fun v _ => v = .bl true) fun _ _ _ => False)
    (noErr : ∀ H e s', CX [] H t (fun _ _ _ => False) e s' → False) :
    codeAny (model P w) callerA (.call (.ref fa) ⟨[.ref a], []⟩) (fun r s' => r = .ok (.ret (.bool true)) ∧ OldK t.heap s'.heap ∧ s'.os = t.os ∧ AllBare s'.gens) t := by
  have hv : Vals (ns.map V.int) vs := vals_ints hints
  have hlv : vs.length = ns.length := hints.length
  -- does the module own the script?
  obtain ⟨own, hown⟩ : ∃ own : Bool, own = (K.lookup a).isSome := ⟨_, rfl⟩
  let o : Obj := { cls := .type "list", data := .seq vs.toArray }
  have hOk : HOk P w (H00 a o ns own) t.heap := by
    intro b u e
    obtain ⟨_, rfl, rfl⟩ := h00_some e
    exact ⟨scr, by rw [List.length_map]; exact short, vs, _, hv, scr⟩
  have keepT : ∀ {b : Addr} {ob : Obj}, t.heap.get? b = some ob → own = true ∨ b ≠ a → (hidT t.heap (H00 a o ns own)).get? b = some ob := fun e n => hidT_get e (h00_none n)
  have notScr : ∀ {b : Addr} {m : Str → Option Value}, t.heap.Ns b m → b ≠ a := by
    rintro b m ⟨ob, es, ep, e, dd, _⟩ rfl
    rw [scr] at e
    cases e
    cases dd
  have nsKeep : ∀ {b : Addr} {m : Str → Option Value}, t.heap.Ns b m → (hidT t.heap (H00 a o ns own)).Ns b m := by
    intro b m n
    have ne := notScr n
    obtain ⟨ob, es, ep, e, r⟩ := n
    exact ⟨ob, es, ep, keepT e (.inr ne), r⟩
  have inK' : K.In (hidT t.heap (H00 a o ns own)) := by
    intro b ob e
    refine keepT (inK b ob e) ?_
    by_cases hb : b = a
    · subst hb
      left
      rw [hown, e]
      rfl
    · exact .inr hb
  have noLim' : (hidT t.heap (H00 a o ns own)).NoLimit := by
    obtain ⟨mc, h1, h2⟩ := noLim
    exact ⟨mc, nsKeep h1, h2⟩
  have env : Env0 P w K mg (hidT t.heap (H00 a o ns own)) callerA [] t (H00 a o ns own) := by
    refine ⟨rfl, ⟨inK', nsKeep glob, ⟨mb, nsKeep blt, boot⟩, noLim'⟩, fun b ob e => of_hidT e, Nat.le_of_eq (hidT_size _ _), trivial, ?_, hOk, .of_eq gens⟩
    intro b hb
    exact absurd (show b ∈ ([] : List Addr) from hb) List.not_mem_nil
  have only : Only (H00 a o ns own) := by
    intro b
    cases e : H00 a o ns own b with
    | none => exact .inl rfl
    | some u =>
      obtain ⟨_, _, rfl⟩ := h00_some e
      exact .inr ⟨_, _, rfl⟩
  have hS : SqL K (H00 a o ns own) a (ns.map V.int) := by
    cases own with
    | false => exact .inl (.inr ⟨o, by unfold H00; rw [if_pos ⟨rfl, rfl⟩]⟩)
    | true =>
      obtain ⟨ob, e⟩ := Option.isSome_iff_exists.mp hown.symm
      have e2 := inK a ob e
      rw [scr] at e2
      cases e2
      exact .inr ⟨_, vs.toArray, _, e, rfl, rfl, rfl, by rw [List.size_toArray, hlv]; exact short, by simpa using hv⟩
  have runs := (F _ inK' (nsKeep glob)).run callerA [] t (H00 a o ns own) ⟨[.ref a], []⟩ [.ref a] [.ref a] _ _ rfl room env (bind t (.ref a)) (.cons rfl .nil) (want _ only hS)
  refine codeAny_mono runs ?_
  intro res s' hres
  match res, hres with
  | .error e, hres => exact (noErr _ e s' hres).elim
  | .ok (.ret u), hres =>
    obtain ⟨v, H', hos, bare, un, ok', rel, rfl⟩ := hres
    obtain rfl : u = Value.bool true := rel
    refine ⟨rfl, OldK.of_keep fun b ob e => ?_, hos, bare⟩
    cases q : H00 a o ns own b with
    | none => exact un.keep b ob e q (fun z => absurd (show b ∈ ([] : List Addr) from z) List.not_mem_nil) List.not_mem_nil
    | some u =>
      obtain ⟨_, _, rfl⟩ := h00_some q
      have q' := un.frzs b _ _ q
      have e1 := (hOk b _ q).1
      rw [e] at e1
      cases e1
      exact (ok' b _ q').1
/-- what k_head leaves -/
theorem walkG {l : PySem.W.OpenLaw} {n k : Nat} {q : Program} {loose : List Str} {XP : (Str → Option Value) → Heap → Prop} {YP : World → Heap → Prop} {d : DefRec} {K : Params → PySem.W.Frag} {CX : World → CXT} {sp : World → Sp} {x : Str}
    (most : l.most = some n) (small : n ≤ sizeLine) (plain : d.params.defaults = []) (room : Room k callerA) (hY : ∀ (w : World) (h : Heap), YP w h → (K w.params).In h)
    (F : ∀ (w : World) (mg : Str → Option Value) (fa : Addr) (h : Heap), (K w.params).In h → h.Ns mainGlobals mg → mg d.name = some (.ref fa) →
      ∃ fd : FuncData, (∀ (s : Shared) (u : Value), BindsTo s fd ⟨[u], []⟩ [(x, u)]) ∧ ∀ base : Heap, (K w.params).In base → base.Ns mainGlobals mg → FnG l.prog w (K w.params) mg base (CX w) k fa fd [x] (sp w))
    (want : ∀ (w : World) (H : Hp) (a : Addr) (ns : List Int), ns.length ≤ n → Only H → SqL (K w.params) H a (ns.map V.int) → sp w [.ref a] H (fun v _ => v = .bl true) fun _ _ _ => False)
    (noErr : ∀ (w : World) (H : Hp) (s : Shared) (e : Value) (s' : Shared), CX w [] H s (fun _ _ _ => False) e s' → False) :
    PySem.W.WalkO q loose XP YP l.row.toRowW d [] (fun f vs => PySem.call f vs) := by
  refine Att.attach_call most plain fun w s₀ t mg mb fa o pm cd doc a vs ns G Y ho hd hcd hmg scr hints hlen gens => ?_
  obtain ⟨fd, bind, body⟩ := F w mg fa _ (hY w _ Y) G.T.g hmg
  exact lawG (hY w _ Y) G.T.g G.T.b G.T.builtins G.T.nolimit gens scr hints (Nat.le_trans hlen small) room body bind (fun H hO hS => want w H a ns hlen hO hS) fun H e s' => noErr w H t e s'
end Gx

set_option maxRecDepth 100000
set_option maxHeartbeats 4000000
namespace Gx
open PySem PySem.Spec PySem.W PySem.Calls Builtin Builtin.ObjectAttr
section
variable {prog : Program} {w : World} {A : Around} {R : Result → Shared → Prop} {hp : Heap} {g : Array GenState} {d : Drawn} {t : Nat} {os : OsState} {K : Frag}
/-- the first field of an own exception, over any built-in base -/
theorem exc_storeX {B : String} {bmB : List Value} {name : Str} {tk : Tok} {v : Value} {x C t0 : Addr} (SF : StoreFacts B bmB "object.__setattr__" "object")
    (inK : K.In hp) (hx : hp.get? x = some (excObj C t0 none .none)) (over : excOver K C bmB = true) (noTake : takerIn K C name = some none) (hasD : hasDictIn K C = true)
    (hq : ∀ (h' : Heap) (tk' : Nat) (dx : Addr), (∀ b o, b ≠ x → hp.get? b = some o → h'.get? b = some o) → hp.objs.size ≤ dx → dx ≠ x → h'.get? x = some (excObj C t0 (some dx) .none) →
      h'.Ns1 dx (fun y => if y = name then some v else none) → R (.ok (.ret .none)) ⟨h', g, d, tk', os⟩) :
    codeAny (model prog w) A (.call (.builtin "object.__setattr__") ⟨[.ref x, .str name tk, v], []⟩) R ⟨hp, g, d, t, os⟩ := by
  have xs : x ≠ hp.objs.size := Nat.ne_of_lt (Heap.lt_size hx)
  refine osa_openX (s := ⟨hp, g, d, t, os⟩) (od := none) SF inK ⟨hx, rfl, rfl, trivial⟩ over noTake fun b => ?_
  obtain ⟨cd, hc, hd⟩ := any_some hasD
  refine wpAny_bind (wpAny_pure (wpAny_bind (instanceDict_exc (s := ⟨hp, g, d, t, os⟩) hx (looks_clsIn inK hc) hd ?_)))
  show wpAny _ _ (storeInDict hp.objs.size (.str name tk) name v) _ _ _
  have hx1 : (hp.push (dictOf [] 0)).get? x = some (excObj C t0 none .none) := Heap.get?_push_of_some _ hx
  refine PySem.HandSPX.store_in_new ⟨_, #[], _, (Heap.get?_update_ne _ _ _ _ xs.symm).trans (Heap.get?_push_at rfl rfl), rfl, fun e he => absurd he (by simp), fun _ => rfl⟩ fun h' tk' hn hs => ?_
  refine hq h' tk' hp.objs.size (fun b o hb ho => ?_) (Nat.le_refl _) xs.symm ((hs.2 x xs).trans (Heap.get?_update_self _ hx1 rfl)) hn
  have bl : b ≠ hp.objs.size := Nat.ne_of_lt (Heap.lt_size ho)
  exact (hs.2 b bl).trans ((Heap.get?_update_ne _ _ _ _ hb).trans (Heap.get?_push_of_some _ ho))
end
end Gx
namespace Gx
open PySem PySem.Spec PySem.W PySem.Calls PyProof.Rows L2
/-! ### own exceptions with one field: class cn(B): def __init__(self, fld): self.fld = fld -/
/-- what the written part says of the class -/
structure XTxt (K : Frag) (mg : Str → Option Value) (cn fld : Str) (newId : String) (bmB : List Value) (C fI : Addr) : Prop where
  gC : mg cn = some (.ref C)
  cls : ∃ nm q N bs bm sn sub ab col dd k0 k1 k2 k3 k5, K.lookup C = some (excClassObj nm q C N bs bm true sn sub ab col dd k0 k1 k2 k3 k5 newId) ∧ excTail bmB bm = true
  over : excOver K C bmB = true
  tak : takerIn K C fld = some none
  hdC : hasDictIn K C = true
  sa : findIn K (.ref C) "__setattr__" = some (some (.builtin "object.__setattr__"))
  ga : findIn K (.ref C) "__getattribute__" = some (some (.builtin "BaseException.__getattribute__"))
  gg : findIn K (.ref C) "__getattr__" = some none
  noN : findIn K (.ref C) fld = some none
  iC : findIn K (.ref C) "__init__" = some (some (.ref fI))
  tC : typeIn K (.ref fI) = some (.type "function")
  kC : keepIn K (.ref C) = true
  exC : subIn K (.ref C) (.type "BaseException") = some true
  tyC : typeIn K (.ref C) = some (.type "type")
  te : exmOne K (.ref C) (.ref C) = some true
/-- what __init__ leaves of a new exception at x -/
structure XInit (h h' : Heap) (x C dx t0 : Addr) (fld : Str) (v : Value) : Prop where
  keep : ∀ b o, b ≠ x → h.get? b = some o → h'.get? b = some o
  obj : h'.get? x = some (excObj C t0 (some dx) .none)
  big : h.objs.size ≤ dx
  ne : dx ≠ x
  ns : h'.Ns1 dx (fun y => if y = fld then some v else none)
/-- __init__ stores the field -/
def InitDoes (K : Frag) (C fI : Addr) (fld : Str) : Prop := ∀ (prog : Program) (w : World) (A : Around) (R : Result → Shared → Prop) (s : Shared) (x t0 : Addr) (v : Value),
  K.In s.heap → s.heap.NoLimit → s.heap.get? x = some (excObj C t0 none .none) → K.lookup x = none → A.depth < recursionLimit →
  (∀ h' tk dx, XInit s.heap h' x C dx t0 fld v → R (.ok (.ret .none)) { s with heap := h', toks := tk }) → codeAny (model prog w) A (.call (.ref fI) ⟨[.ref x, v], []⟩) R s
/-- such an exception, made -/
structure XMade (h h' : Heap) (e C d : Addr) (fld : Str) (v : Value) : Prop where
  keep : ∀ b o, h.get? b = some o → h'.get? b = some o
  new : h.objs.size ≤ e
  obj : ∃ oe vs, h'.get? e = some oe ∧ oe.cls = .ref C ∧ oe.dict = some d ∧ oe.data = .fields vs ∧ vs[1]? = some .none
  big : h.objs.size ≤ d
  ne : d ≠ e
  ns : h'.Ns1 d (fun y => if y = fld then some v else none)
theorem one_line (v : Value) : [v].length ≤ sizeLine := by
  show 1 ≤ sizeLine
  decide
section
variable {prog : Program} {w : World} {A : Around} {R : Result → Shared → Prop} {s : Shared} {K : Frag} {mg : Str → Option Value} {C fI : Addr} {cn fld : Str} {B newId initId : String} {bmB : List Value}
theorem x_made (FB : ExcBaseFacts B newId initId bmB) (T : XTxt K mg cn fld newId bmB C fI) (D : InitDoes K C fI fld) {v : Value} (inK : K.In s.heap) (lim : s.heap.NoLimit) (room : A.depth + 1 < recursionLimit)
    (hq : ∀ h' tk e d, XMade s.heap h' e C d fld v → R (.ok (.ret (.ref e))) { s with heap := h', toks := tk }) : codeAny (model prog w) A (.call (.ref C) ⟨[v], []⟩) R s := by
  obtain ⟨nm, q, N, bs, bm, sn, sub, ab, col, dd, k0, k1, k2, k3, k5, hC, tail⟩ := T.cls
  obtain ⟨hp, g, dr, tk, os⟩ := s
  have stay : ∀ b o, hp.get? b = some o → ((hp.push (kdv_tup [v])).push (excObj C hp.objs.size none .none)).get? b = some o := fun b o e => Heap.get?_push_of_some _ (Heap.get?_push_of_some _ e)
  have there : ((hp.push (kdv_tup [v])).push (excObj C hp.objs.size none .none)).get? (hp.objs.size + 1) = some (excObj C hp.objs.size none .none) := by heap_get
  have fresh : K.lookup (hp.objs.size + 1) = none := by
    cases e : K.lookup (hp.objs.size + 1) with
    | none => rfl
    | some o => exact absurd (Nat.lt_of_succ_lt (Heap.lt_size (inK _ _ e))) (Nat.lt_irrefl _)
  refine PySem.HandSPX.call_own FB (fun Y => excTail_contains Y bm tail) (inK _ _ hC) (looks_findIn inK T.iC) (fun self => bind_fn inK self T.tC) (one_line v) ?_
  refine D prog w _ _ ⟨(hp.push (kdv_tup [v])).push (excObj C hp.objs.size none .none), g, dr, tk, os⟩ _ _ v (inK.keeps stay) (lim.keeps stay) there fresh room fun h' tk' dx M => ?_
  have old : ∀ b o, hp.get? b = some o → h'.get? b = some o := fun b o e => M.keep b o (Nat.ne_of_lt (Nat.lt_succ_of_lt (Heap.lt_size e))) (stay b o e)
  have z : hp.objs.size + 1 + 1 ≤ dx := by
    have q := M.big
    first
      | exact q
      | simpa only [Heap.size_push] using q
  exact ⟨rfl, hq h' tk' (hp.objs.size + 1) dx ⟨old, Nat.le_succ _, ⟨_, _, M.obj, rfl, rfl, rfl, rfl⟩, Nat.le_trans (Nat.le_trans (Nat.le_succ _) (Nat.le_succ _)) z, M.ne, M.ns⟩⟩
end
theorem relO_one {fld : Str} {v : V} {u : Value} (r : RelV v u) (f : Str) : RelO (List.lookup f [(fld, v)]) (if f = fld then some u else none) := by
  by_cases e : f = fld
  · subst e
    rw [if_pos rfl, show List.lookup f [(f, v)] = some v by simp [List.lookup]]
    exact r
  · have q : (f == fld) = false := by simpa using e
    rw [if_neg e, show List.lookup f [(fld, v)] = none by simp [List.lookup, q]]
    trivial
section
variable {X : Cx} {C fI : Addr} {cn fld : Str} {B newId initId : String} {bmB : List Value}
/-- cn(e) -/
def tMkX (C : Addr) (fld : Str) (ta : TA) : L2.St → Hp → XK → Prop := fun σ H Q => ta σ H fun vs H1 => ∃ v, vs = [v] ∧ ∀ d, H1 d = none → Q (.ref C) (some d) (upd H1 d (.xd [(fld, v)]))
theorem pmk_x {a : Expr} {ta : TA} {p pos : Pos} {k : Nat} (FB : ExcBaseFacts B newId initId bmB) (T : XTxt X.K X.mg cn fld newId bmB C fI) (D : InitDoes X.K C fI fld) (room : Room k X.A) (ha : PA X [a] ta) (hg : Gl X cn)
    (hdb : (cn == ("__debug__" : Str)) = false := by decide) (hst : starEach (a :: []) X.env = (false, eval a X.env) :: starEach [] X.env := by rfl) (hpl : (backTo pos (starEach [] X.env)).any (·.1) = false := by rfl) :
    PMk X (.Call (.Name cn p) [a] [] pos) (tMkX C fld ta) := by
  intro pins s σ H Q I h
  refine wpAny_Call_Name_kw (ld_glob I hg T.gC ?_ hdb)
  refine PySem.W.callWith_K (h₀ := X.base) I.ok.mod.kin T.kC (thn (ha.run pos pins s σ H _ I h) ?_) hst hpl
  rintro us s1 ⟨vs, H1, I1, r1, v, rfl, q1⟩
  refine ⟨I1.kIn, ?_⟩
  obtain ⟨u, rfl, rv⟩ := vals1 r1
  show wpAny _ _ (call (.ref C) [u]) _ _ _
  have lim := I1.nolimit
  obtain ⟨hp, g, dr, tk, os⟩ := s1
  refine wpAny_call (x_made FB T D I1.kIn lim (by have := room.dp; omega) fun h' tk' e d M => ?_)
  show MkP X pins σ Q (.ref e) ⟨h', g, dr, tk', os⟩
  obtain ⟨oe, fv, hoe, hc, hd, hdat, h1⟩ := M.obj
  obtain ⟨G', g1, g2⟩ := restrict h' fun b => decide (b ≠ e)
  have off : ∀ b, b ≠ e → G'.get? b = h'.get? b := fun b hb => g1 b (decide_eq_true hb)
  have gone : G'.get? e = none := g2 e (by simp)
  have old : ∀ b o, hp.get? b = some o → G'.get? b = some o := fun b o q => (off b (Nat.ne_of_lt (Nat.lt_of_lt_of_le (Heap.lt_size q) M.new))).trans (M.keep b o q)
  have ob : ObjOk X.prog X.w (upd H1 d (.xd [(fld, v)])) G' d (.xd [(fld, v)]) := ⟨_, M.ns.at (fun o q => (off d M.ne).trans q), fun f => relO_one rv f⟩
  have J : Inv X pins σ (upd H1 d (.xd [(fld, v)])) ⟨G', g, dr, tk', os⟩ := I1.laid (t' := tk') old M.big ob
  refine ⟨e, oe, fv, ⟨G', g, dr, tk', os⟩, _, .ref C, some d, rfl, J, ?_, gone, hoe, ⟨hc, hd⟩, hdat, h1, ?_, rfl, I1.bare, raises_own T.exC T.tyC, q1 d (I1.hok.fresh M.big)⟩
  · intro b o q
    have q' : G'.get? b = some o := q
    by_cases hb : b = e
    · rw [hb, gone] at q'
      cases q'
    · exact (off b hb).symm.trans q
  · rw [upd_ne (Ne.symm M.ne)]
    exact I1.hok.fresh M.new
/-- raise cn(e) -/
def tRaiseX (C : Addr) (fld : Str) (W : WX) (ta : TA) : TS := fun _ σ H => tMkX C fld ta σ H fun cls d H' => W cls d σ H'
theorem ps_raiseX {a : Expr} {ta : TA} {W : WX} {p pos pos2 : Pos} {k : Nat} (hc : X.calm = true) (FB : ExcBaseFacts B newId initId bmB) (T : XTxt X.K X.mg cn fld newId bmB C fI) (D : InitDoes X.K C fI fld) (room : Room k X.A) (tk : Takes X W) (ha : PA X [a] ta) (hg : Gl X cn)
    (hdb : (cn == ("__debug__" : Str)) = false := by decide) (hst : starEach (a :: []) X.env = (false, eval a X.env) :: starEach [] X.env := by rfl) (hpl : (backTo pos (starEach [] X.env)).any (·.1) = false := by rfl) :
    PS X (.Raise (some (.Call (.Name cn p) [a] [] pos)) none pos2) (tRaiseX C fld W ta) := ps_raise hc tk (pmk_x FB T D room ha hg hdb hst hpl)
/-- e.fld, e the exception that the suite holds (at a; its class cls, its dict d) -/
def tByX (C : Addr) (fld : Str) (a : Addr) (cls : Value) (d : Option Addr) (te : TE) : TE := fun σ H Q => te σ H fun x H1 => x = .ref a ∧ cls = .ref C ∧ ∃ (dd : Addr) (v : V), d = some dd ∧ H1 dd = some (.xd [(fld, v)]) ∧ Q v H1
theorem pe_byX {a : Addr} {oe : Obj} {cls : Value} {d : Option Addr} {pn : List (Addr × Obj)} {e : Expr} {te : TE} {pos : Pos} (T : XTxt X.K X.mg cn fld newId bmB C fI) (hz : Zc cls d oe) (hf : ∃ vs, oe.data = .fields vs) (he : PE (X.suite a ((a, oe) :: pn)) e te)
    (hb : attributeBase e fld X.env (eval e X.env) = eval e X.env := by rfl) : PE (X.suite a ((a, oe) :: pn)) (.Attribute e fld pos) (tByX C fld a cls d te) := by
  constructor
  intro pins s σ H Q I h
  refine attr_of hb (thn (he.run pins s σ H _ I h) ?_)
  rintro u s1 ⟨x, H1, I1, rx, rfl, rfl, dd, v, rfl, ea, q⟩
  obtain rfl : u = Value.ref a := rx
  obtain ⟨here, _⟩ := I1.pin (a, oe) (List.mem_append_left _ List.mem_cons_self)
  obtain ⟨vs, hd⟩ := hf
  obtain ⟨mA, hns, hr⟩ := (show ObjOk X.prog X.w H1 s1.heap dd (.xd [(fld, v)]) from I1.hok dd _ ea)
  obtain ⟨od, ho, hl⟩ := lookIn_ns hns
  have l : List.lookup fld [(fld, v)] = some v := by simp [List.lookup]
  have hrf := hr fld
  rw [l] at hrf
  obtain ⟨u, hu, ru⟩ := RelO.some_of (v := v) (o := mA fld) hrf
  have J : PySem.W.InstAt s1.heap a oe C (some od) := ⟨here, hz.1, by unfold PySem.W.notCls; rw [hd] <;> rfl, by rw [hz.2]; exact ho⟩
  exact HandSPX.exc_get I1.kIn J T.ga T.gg T.exC (PySem.W.findObj_own T.hdC T.noN rfl (by rw [hl, hu])) (handed_of ru) ⟨v, H1, I1.tok _, ru, q⟩
end
end Gx
namespace Gx
open PySem PySem.Spec PySem.Calls PyProof.Rows L2
/-! ### calls of defs that may raise, also with keywords, where no repr is under way -/
section
variable {P : Program} {w : World} {K : PySem.W.Frag} {mg : Str → Option Value} {base : Heap}
theorem FnG.toX {k : Nat} {f : Addr} {fd : FuncData} {ps : List Str} {sp : Sp} (F : FnG P w K mg base CX0 k f fd ps sp) : FnG P w K mg base (L2.CX P w) k f fd ps sp := by
  refine ⟨F.len, fun A outer s H args us vs Q E g hr he hb hv hs => codeAny_mono (F.run A outer s H args us vs Q E g hr he hb hv hs) ?_⟩
  intro r s' h
  match r, h with
  | .error e, h => exact h.elim
  | .ok (.ret u), h => exact h
/-- the name x is a def that keeps sp, and may raise -/
def CalX (P : Program) (w : World) (K : PySem.W.Frag) (mg : Str → Option Value) (base : Heap) (k : Nat) (x : Str) (ps : List Str) (sp : Sp) : Prop :=
  ∃ (f : Addr) (fd : FuncData), FnG P w K mg base (L2.CX P w) k f fd ps sp ∧ PySem.W.keepIn K (.ref f) = true ∧ Binds K fd ps [] ∧ mg x = some (.ref f)
theorem CalX.up {j k : Nat} {x : Str} {ps : List Str} {sp : Sp} (c : CalX P w K mg base j x ps sp) (h : j ≤ k) : CalX P w K mg base k x ps sp := by
  obtain ⟨f, fd, F, r⟩ := c
  exact ⟨f, fd, F.up h, r⟩
theorem CalG.toX {k : Nat} {x : Str} {ps : List Str} {sp : Sp} (c : CalG P w K mg base k x ps sp) : CalX P w K mg base k x ps sp := by
  obtain ⟨f, fd, F, r⟩ := c
  exact ⟨f, fd, F.toX, r⟩
theorem Def.calX {x qual : Str} {st : Stmt} {ps : List Str} (d : Def K mg x qual st ps) {k : Nat} {sp : Sp} (h : ∀ f fd, Fun K x qual st f fd → FnG P w K mg base (L2.CX P w) k f fd ps sp) : CalX P w K mg base k x ps sp := by
  obtain ⟨f, fd, F, b, g⟩ := d
  exact ⟨f, fd, h f fd F, F.kp, b, g⟩
/-- .. called with n values by position and keywords ks; gV puts them in the parameters' order -/
def CalK (P : Program) (w : World) (K : PySem.W.Frag) (mg : Str → Option Value) (base : Heap) (k : Nat) (x : Str) (ps : List Str) (n : Nat) (ks : List Str) (gV : List V → List V → List V) (sp : Sp) : Prop :=
  ∃ (f : Addr) (fd : FuncData) (g : List Value → List Value → List Value), FnG P w K mg base (L2.CX P w) k f fd ps sp ∧ PySem.W.keepIn K (.ref f) = true ∧ KBn K fd ps n ks g gV ∧ mg x = some (.ref f)
theorem CalK.up {j k n : Nat} {x : Str} {ps ks : List Str} {gV : List V → List V → List V} {sp : Sp} (c : CalK P w K mg base j x ps n ks gV sp) (h : j ≤ k) : CalK P w K mg base k x ps n ks gV sp := by
  obtain ⟨f, fd, g, F, r⟩ := c
  exact ⟨f, fd, g, F.up h, r⟩
/-- the top's def with keyword-only parameters and no defaults -/
def DefK (K : PySem.W.Frag) (mg : Str → Option Value) (x qual : Str) (st : Stmt) (ps : List Str) (n : Nat) (ks : List Str) : Prop :=
  ∃ (f : Addr) (fd : FuncData), Fun K x qual st f fd ∧ KBn K fd ps n ks (fun us ws => us ++ ws) (fun vs zs => vs ++ zs) ∧ mg x = some (.ref f)
theorem DefK.calK {x qual : Str} {st : Stmt} {ps ks : List Str} {n : Nat} (d : DefK K mg x qual st ps n ks) {k : Nat} {sp : Sp} (h : ∀ f fd, Fun K x qual st f fd → FnG P w K mg base (L2.CX P w) k f fd ps sp) : CalK P w K mg base k x ps n ks (fun vs zs => vs ++ zs) sp := by
  obtain ⟨f, fd, F, b, g⟩ := d
  exact ⟨f, fd, _, h f fd F, F.kp, b, g⟩
theorem kbn_of {fd : FuncData} {ps ks : List Str} {n : Nat} (h : ∀ us ws : List Value, us.length = n → ws.length = ks.length → bindArgs fd ⟨us, ks.zip ws⟩ = pure (ps.zip (us ++ ws))) : KBn K fd ps n ks (fun us ws => us ++ ws) (fun vs zs => vs ++ zs) :=
  ⟨fun s us ws _ h1 h2 => .of_eq (h us ws h1 h2), fun r1 r2 => r1.append r2⟩
end
section
variable {X : Cx}
/-- nothing is raised -/
theorem neverAt (σ : L2.St) : PassesAt (L2.CX X.prog X.w) X σ ((fun _ => E0) σ) := by
  rintro pins H s e s' I ⟨a, B, H', cls, d, _, _, _, _, _, _, _, no⟩
  exact no.elim
theorem runX {k : Nat} {f : Addr} {fd : FuncData} {ps : List Str} {sp : Sp} {E : L2.St → XK} {args : Args} {pins : List (Addr × Obj)} {σ : L2.St} {H : Hp} {s : Shared} {Q : VK} {us : List Value} {vs : List V}
    (F : FnG X.prog X.w X.K X.mg X.base (L2.CX X.prog X.w) k f fd ps sp) (g : Gd X.A) (room : Room k X.A) (hb : BindsTo s fd args (ps.zip us)) (hx : PassesAt (L2.CX X.prog X.w) X σ (E σ))
    (I : Inv X pins σ H s) (r : Vals vs us) (want : sp vs H Q (E σ)) : wpAny (model X.prog X.w) X.A (call (.ref f) args.pos args.kw) (EP X pins σ Q) X.xe s := by
  have hc := F.run X.A X.stack s H args us vs Q (E σ) g room I.env0 hb r want
  refine wpAny_call (codeAny_mono hc ?_)
  intro res s' hres
  match res, hres with
  | .error e, hres => exact hx pins H s e s' I hres
  | .ok (.ret u), hres => exact I.after hres
def tClX (sp : Sp) (E : L2.St → XK) (t : TA) : TE := fun σ H Q => t σ H fun vs H1 => sp vs H1 Q (E σ)
theorem pe_calX {x : Str} {ps : List Str} {sp : Sp} {k : Nat} {e : Expr} {es : List Expr} {t : TA} {E : L2.St → XK} {p pos : Pos} (c : CalX X.prog X.w X.K X.mg X.base k x ps sp) (g : Gd X.A) (room : Room k X.A) (hg : Gl X x) (hx : ∀ σ, PassesAt (L2.CX X.prog X.w) X σ (E σ)) (h : PA X (e :: es) t)
    (hdb : (x == ("__debug__" : Str)) = false := by decide) (hst : starEach (e :: es) X.env = (false, eval e X.env) :: starEach es X.env := by rfl) (hpl : (backTo pos (starEach es X.env)).any (·.1) = false := by rfl) :
    PE X (.Call (.Name x p) (e :: es) [] pos) (tClX sp E t) := by
  obtain ⟨f, fd, F, kp, b, hm⟩ := c
  refine ⟨fun pins s σ H Q I want => wpAny_Call_Name_kw (ld_glob I hg hm ?_ hdb)⟩
  refine PySem.W.callWith_K (h₀ := X.base) I.ok.mod.kin kp (thn (h.run pos pins s σ H _ I want) fun us s1 ⟨vs, H1, I1, r, q⟩ => ⟨I1.kIn, ?_⟩) hst hpl
  have hl : us.length = ps.length := r.length.symm.trans (F.len _ _ _ _ q)
  have b1 := b s1 us I1.kIn (by rw [List.append_nil]; exact hl)
  rw [List.append_nil] at b1
  exact runX (args := ⟨us, []⟩) F g room b1 (hx σ) I1 r q
def tClK (n m : Nat) (sp : Sp) (gV : List V → List V → List V) (E : L2.St → XK) (t tk : TA) : TE := fun σ H Q => t σ H fun vs H1 => tk σ H1 fun zs H2 => vs.length = n ∧ zs.length = m ∧ sp (gV vs zs) H2 Q (E σ)
theorem pe_calK {x : Str} {ps ks : List Str} {n : Nat} {gV : List V → List V → List V} {sp : Sp} {k : Nat} {e : Expr} {es : List Expr} {kws : List Keyword} {t tk : TA} {E : L2.St → XK} {p pos : Pos} (c : CalK X.prog X.w X.K X.mg X.base k x ps n ks gV sp) (g : Gd X.A) (room : Room k X.A) (hg : Gl X x)
    (hx : ∀ σ, PassesAt (L2.CX X.prog X.w) X σ (E σ)) (h : PA X (e :: es) t) (hk : PK X kws tk) (hall : (backToKw pos (keywordEach kws X.env)).all (·.1.isSome) = true := by rfl) (hks : (backToKw pos (keywordEach kws X.env)).filterMap (·.1) = ks := by rfl)
    (hdb : (x == ("__debug__" : Str)) = false := by decide) (hst : starEach (e :: es) X.env = (false, eval e X.env) :: starEach es X.env := by rfl)
    (hpl : ((backTo pos (starEach (e :: es) X.env)).any (·.1) || (backToKw pos (keywordEach kws X.env)).any (·.1.isNone)) = false := by rfl) :
    PE X (.Call (.Name x p) (e :: es) kws pos) (tClK n ks.length sp gV E t tk) := by
  obtain ⟨f, fd, gg, F, kp, b, hm⟩ := c
  refine ⟨fun pins s σ H Q I want => wpAny_Call_Name_kw (ld_glob I hg hm ?_ hdb)⟩
  refine PySem.W.callWith_KW (h₀ := X.base) I.ok.mod.kin kp hall (thn (h.run pos pins s σ H _ I want) ?_) hpl hst
  rintro us s1 ⟨vs, H1, I1, r, q⟩
  refine thn (hk.run pos pins s1 σ H1 _ I1 q) ?_
  rintro ws s2 ⟨zs, H2, I2, rz, l1, l2, q2⟩
  refine ⟨I2.kIn, ?_⟩
  rw [hks]
  exact runX (args := ⟨us, ks.zip ws⟩) F g room (b.to s2 us ws I2.kIn (r.length.symm.trans l1) (rz.length.symm.trans l2)) (hx σ) I2 (b.rel r rz) q2
end
end Gx

set_option maxRecDepth 100000
set_option maxHeartbeats 4000000
namespace Mx
open PySem PySem.Spec PyProof.Rows L2 Gx
/-! ### names: the mathematics -/
def isLow (c : Nat) : Bool := decide (97 ≤ c ∧ c ≤ 122)
/-- whether a text is a name -/
def nameB (z : Str) : Bool := (decide (1 ≤ z.cps.size) && decide (z.cps.size ≤ 8)) && z.cps.toList.all isLow
theorem low_facts : ∀ c, c < 128 → (isLow c = true → Unicode.isAlpha c = true ∧ Unicode.isLower c = true ∧ Unicode.isUpper c = false ∧ Unicode.isTitle c = false) ∧ (Unicode.isAlpha c = true → Unicode.isUpper c = false → isLow c = true) := by decide +kernel
theorem isLow_lt {c : Nat} (h : isLow c = true) : c < 128 := by
  have := of_decide_eq_true h
  omega
/-- what is_name reckons of a text -/
theorem name_by (z : Str) (h1 : 1 ≤ z.cps.size) : (Txt.isascii z && (Txt.isalpha z && Txt.islower z)) = z.cps.toList.all isLow := by
  have hl : z.length = z.cps.size := rfl
  unfold Txt.isascii Txt.isalpha Txt.islower
  rw [Bool.eq_iff_iff]
  simp only [Bool.and_eq_true, Array.all_eq_true', Array.any_eq_true', List.all_eq_true, decide_eq_true_eq, Bool.not_eq_true', Array.any_eq_false', Bool.or_eq_true, not_or, Bool.not_eq_true, Array.mem_toList_iff, hl]
  constructor
  · rintro ⟨ha, ⟨_, hb⟩, _, hd⟩ c hc
    exact (low_facts c (ha c hc)).2 (hb c hc) (hd c hc).1
  · intro h
    have f := fun c hc => (low_facts c (isLow_lt (h c hc))).1 (h c hc)
    refine ⟨fun c hc => isLow_lt (h c hc), ⟨h1, fun c hc => (f c hc).1⟩, ⟨z.cps[0], Array.getElem_mem (by omega), (f _ (Array.getElem_mem (by omega))).2.1⟩, fun c hc => ⟨(f c hc).2.2.1, (f c hc).2.2.2⟩⟩
/-! ### counts -/
def abcL : List Nat := [97,98,99,100,101,102,103,104,105,106,107,108,109,110,111,112,113,114,115,116,117,118,119,120,121,122]
theorem count_cnt (x : Str) (c : Nat) : Txt.count x ⟨#[c]⟩ = cnt c x.cps.toList := count_is x c
theorem one_sum (n : Nat) : ∀ L : List Nat, L.Nodup → (L.map fun c => if n = c then (1 : Int) else 0).sum = if n ∈ L then 1 else 0
  | [], _ => rfl
  | a :: L, h => by
    obtain ⟨h1, h2⟩ := List.nodup_cons.mp h
    rw [List.map_cons, List.sum_cons, one_sum n L h2]
    by_cases e : n = a
    · subst e
      rw [if_pos rfl, if_neg h1, if_pos (List.mem_cons_self ..)]
      rfl
    · rw [if_neg e]
      by_cases m : n ∈ L
      · rw [if_pos m, if_pos (List.mem_cons_of_mem _ m)]; rfl
      · rw [if_neg m, if_neg (by
          rw [List.mem_cons]
          rintro (z | z)
          · exact e z
          · exact m z)]; rfl
theorem cnt_sum (L : List Nat) (hL : L.Nodup) : ∀ l : List Nat, (L.map fun c => cnt c l).sum = (l.countP (fun n => decide (n ∈ L)) : Nat)
  | [] => by
    have : ∀ L : List Nat, (L.map fun c => cnt c []).sum = 0 := fun L => by
      induction L with
      | nil => rfl
      | cons a L ih => rw [List.map_cons, List.sum_cons, ih]; rfl
    rw [this]
    rfl
  | n :: r => by
    have h : ∀ L : List Nat, (L.map fun c => cnt c (n :: r)).sum = (L.map fun c => if n = c then (1 : Int) else 0).sum + (L.map fun c => cnt c r).sum := fun L => by
      induction L with
      | nil => rfl
      | cons a L ih => rw [List.map_cons, List.sum_cons, ih, cnt_cons, List.map_cons, List.sum_cons, List.map_cons, List.sum_cons]; omega
    rw [h, one_sum n L hL, cnt_sum L hL r, List.countP_cons]
    by_cases m : n ∈ L
    · rw [if_pos m, if_pos (decide_eq_true m)]; omega
    · rw [if_neg m, if_neg (by rw [decide_eq_false m]; decide)]; omega
theorem mem_abc (n : Nat) : n ∈ abcL ↔ isLow n = true := by
  unfold isLow
  rw [decide_eq_true_eq]
  constructor
  · intro h
    have : ∀ n ∈ abcL, 97 ≤ n ∧ n ≤ 122 := by decide
    exact this n h
  · intro h
    have : ∀ n, n < 123 → 97 ≤ n → n ∈ abcL := by decide
    exact this n (by omega) h.1
/-- all letters' counts together -/
def known (z : Str) (L : List Nat) : Int := (L.map fun c => Txt.count z ⟨#[c]⟩).sum
theorem known_eq (z : Str) : known z abcL = (z.cps.toList.countP isLow : Nat) := by
  unfold known
  have e : (abcL.map fun c => Txt.count z ⟨#[c]⟩) = abcL.map fun c => cnt c z.cps.toList := List.map_congr_left fun c _ => count_cnt z c
  rw [e, cnt_sum abcL (by decide)]
  congr 2
  funext n
  rw [Bool.eq_iff_iff, decide_eq_true_eq, mem_abc]
theorem due_eq (z : Str) : (decide (known z abcL = (z.cps.size : Int)) && (decide ((0 : Int) < known z abcL) && decide (known z abcL < 9))) = nameB z := by
  rw [known_eq]
  unfold nameB
  have hz : z.cps.size = z.cps.toList.length := by simp
  have hle := List.countP_le_length (p := isLow) (l := z.cps.toList)
  by_cases h : z.cps.toList.countP isLow = z.cps.toList.length
  · have ha : z.cps.toList.all isLow = true := by
      rw [List.all_eq_true]
      exact List.countP_eq_length.mp h
    rw [ha, h, hz]
    generalize z.cps.toList.length = n
    rw [Bool.and_true, decide_eq_true (show (n : Int) = (n : Int) from rfl), Bool.true_and]
    have e1 : decide ((0 : Int) < (n : Int)) = decide (1 ≤ n) := decide_eq_decide.mpr (by omega)
    have e2 : decide ((n : Int) < 9) = decide (n ≤ 8) := decide_eq_decide.mpr (by omega)
    rw [e1, e2]
  · have ha : z.cps.toList.all isLow = false := by
      rw [Bool.eq_false_iff]
      intro q
      rw [List.all_eq_true] at q
      exact h (List.countP_eq_length.mpr q)
    rw [ha, Bool.and_false, decide_eq_false (by omega), Bool.false_and]
theorem known_step (z : Str) {L : List Nat} {i c : Nat} (h : L[i]? = some c) : known z (L.take (i + 1)) = known z (L.take i) + Txt.count z ⟨#[c]⟩ := by
  unfold known
  have e : (L.map fun c => Txt.count z ⟨#[c]⟩)[i]? = some (Txt.count z ⟨#[c]⟩) := by rw [List.getElem?_map, h]; rfl
  rw [List.map_take, List.map_take, sum_take e]
end Mx

set_option maxRecDepth 100000
set_option maxHeartbeats 4000000
namespace Mx
open PySem PySem.Spec PyProof.Rows L2 Gx
/-! ### the order of texts -/
/-- a is not behind b -/
def leS (a b : Str) : Prop := ¬ b.cps.toList < a.cps.toList
theorem leS_iff (a b : Str) : leS a b ↔ ltCps b.cps.toList a.cps.toList = false := by
  rw [ltCps_eq, decide_eq_false_iff_not]
  exact Iff.rfl
theorem leS_anti {a b : Str} (h1 : leS a b) (h2 : leS b a) : a = b := by
  have e : a.cps.toList = b.cps.toList := List.le_antisymm (as := a.cps.toList) (bs := b.cps.toList) h1 h2
  cases a
  cases b
  simp only [Str.mk.injEq]
  exact Array.toList_inj.mp e
theorem leS_refl (a : Str) : leS a a := List.lt_irrefl _
theorem leS_trans {a b c : Str} (h1 : leS a b) (h2 : leS b c) : leS a c :=
  List.le_trans (l₁ := a.cps.toList) (l₂ := b.cps.toList) (l₃ := c.cps.toList) h1 h2
theorem leS_total (a b : Str) : leS a b ∨ leS b a := List.le_total a.cps.toList b.cps.toList
theorem risingS_iff : ∀ (l : List Str) (p : Str), risingS p l = true ↔ (p :: l).Pairwise leS
  | [], p => by simp [risingS]
  | x :: r, p => by
    rw [risingS, Bool.and_eq_true, risingS_iff r x, Bool.not_eq_true', ← leS_iff]
    constructor
    · rintro ⟨h1, h2⟩
      refine List.pairwise_cons.mpr ⟨fun y hy => ?_, h2⟩
      rcases List.mem_cons.mp hy with rfl | hy
      · exact h1
      · exact leS_trans h1 ((List.pairwise_cons.mp h2).1 y hy)
    · intro h
      obtain ⟨h1, h2⟩ := List.pairwise_cons.mp h
      exact ⟨h1 x (List.mem_cons_self ..), h2⟩
theorem sortedS_iff (l : List Str) : sortedS l = true ↔ l.Pairwise leS := by
  cases l with
  | nil => simp [sortedS]
  | cons x r => exact risingS_iff r x
theorem sortedS_unique {l m : List Str} (h : l.Perm m) (hl : sortedS l = true) (hm : sortedS m = true) : l = m :=
  List.Perm.eq_of_pairwise (fun _ _ _ _ => leS_anti) ((sortedS_iff l).mp hl) ((sortedS_iff m).mp hm) h
/-- a list of texts is what sorting makes of it just if it is sorted -/
theorem eq_sorted_iff {l m : List Str} (h : m.Perm l) (hm : sortedS m = true) : decide (l = m) = sortedS l := by
  cases e : sortedS l with
  | true => exact decide_eq_true (sortedS_unique h.symm e hm)
  | false => exact decide_eq_false fun q => by rw [q, hm] at e; cases e
/-! ### data of texts -/
def tD (xs : List Str) : List PyData := xs.map PyData.str
theorem eqv_texts : ∀ xs ys : List Str, PyData.eqvAll (tD xs) (tD ys) = decide (xs = ys)
  | [], [] => by simp [tD, PyData.eqvAll]
  | [], y :: ys => by simp [tD, PyData.eqvAll]
  | x :: xs, [] => by simp [tD, PyData.eqvAll]
  | x :: xs, y :: ys => by
    have ih := eqv_texts xs ys
    unfold tD at ih ⊢
    rw [List.map_cons, List.map_cons, PyData.eqvAll, ih, PyData.eqv]
    by_cases h : x = y
    · subst h
      by_cases h2 : xs = ys
      · subst h2
        simp
      · rw [decide_eq_false h2, Bool.and_false, decide_eq_false fun q => h2 (List.cons.inj q).2]
    · rw [decide_eq_false fun q => h (List.cons.inj q).1, beq_eq_false_iff_ne.mpr h, Bool.false_and]
theorem dp_texts {K : PySem.W.Frag} {H : Hp} : ∀ xs : List Str, DpAll K H (xs.map V.str) (tD xs)
  | [] => .nil
  | x :: xs => .cons (.str x) (dp_texts xs)
theorem canLay_texts : ∀ xs : List Str, (∀ x ∈ xs, PyData.strOk x = true) → PyData.canLayAll0 (tD xs) = true
  | [], _ => by simp [tD, PyData.canLayAll0]
  | x :: xs, h => by
    have ih := canLay_texts xs fun y hy => h y (List.mem_cons_of_mem _ hy)
    unfold tD at ih ⊢
    rw [List.map_cons, PyData.canLayAll0, ih, PyData.canLay0, h x (List.mem_cons_self ..)]
    rfl
theorem depth_texts : ∀ xs : List Str, PyData.depthAll (tD xs) ≤ 1
  | [] => by simp [tD, PyData.depthAll]
  | x :: xs => by
    have ih := depth_texts xs
    unfold tD at ih ⊢
    rw [List.map_cons, PyData.depthAll]
    simp only [PyData.depth]
    omega
theorem shaped_texts {xs : List Str} (h : ∀ x ∈ xs, PyData.strOk x = true) : SeqAt.shaped (.list (tD xs)) = true := by
  unfold SeqAt.shaped
  rw [Bool.and_eq_true]
  refine ⟨by simp only [PyData.canLay0]; exact canLay_texts xs h, decide_eq_true ?_⟩
  have := depth_texts xs
  simp only [PyData.depth]
  omega
theorem shaped_textsT {xs : List Str} (h : ∀ x ∈ xs, PyData.strOk x = true) : SeqAt.shaped (.tuple (tD xs)) = true := by
  unfold SeqAt.shaped
  rw [Bool.and_eq_true]
  refine ⟨by simp only [PyData.canLay0]; exact canLay_texts xs h, decide_eq_true ?_⟩
  have := depth_texts xs
  simp only [PyData.depth]
  omega
end Mx

set_option maxRecDepth 100000
set_option maxHeartbeats 4000000
namespace Gx
open PySem PySem.Spec PyProof.Rows L2 SeqAt
open AutoSeq1 (wpAny_loadPart')
/-! ### a dict is no tuple -/
theorem tup_eq_dict (l b : Addr) (items : Array Value) (n : Nat) (dd dd2 : Option Addr) (sl sl2 : Array (Option Value)) (d2 : Data) :
    Meets (Builtin.«tuple.__eq__» ⟨[.ref l, .ref b], []⟩) (fun _ R s => s.heap.get? l = some { cls := .type "tuple", dict := dd, data := .seq items n, slots := sl } ∧ s.heap.get? b = some { cls := .type "dict", dict := dd2, data := d2, slots := sl2 } ∧ R (.ok (.ret .notImplemented)) s) :=
  .of_wp fun prog w A R s h => by obtain ⟨hp, g, d, tk, os⟩ := s; obtain ⟨hl, hb, h⟩ := h; have f1 := F.sub_dict_tuple; wp_walk using wpAny_loadPart' hl, wpAny_loadPart' hb; exact ⟨_, rfl, h⟩
theorem dict_eq_tup {prog : Program} {w : World} {A : Around} {E : Value → Shared → Prop} {s : Shared} {Q : Value → Shared → Prop} {a b : Addr} (da : s.TypeIs (.ref a) "dict") (hb : s.TypeIs (.ref b) "tuple") (h : Q .notImplemented s) :
    wpAny (model prog w) A (call (.builtin "dict.__eq__") [.ref a, .ref b]) Q E s := by
  refine wpAny_call_entry PySem.F.slot_dict_eq da PySem.F.entry_dict_eq ?_ (PySem.F.args_dict_eq_2 _ _)
  show wpAny _ _ (Builtin.Dict.dictSlotArgs "__eq__" ⟨[.ref a, .ref b], []⟩ >>= _) _ _ s
  refine wpAny_bind ?_
  unfold Builtin.Dict.dictSlotArgs
  refine wpAny_bind (wpAny_notOrdered_dict da ?_)
  show wpAny _ _ (pure (Value.ref a, Value.ref b)) _ _ s
  refine wpAny_pure ?_
  refine wpAny_bind (wpAny_isInstance (T := "tuple") hb PySem.F.sub_tuple_dict ?_)
  simp only [Bool.not_false, if_true]
  exact wpAny_bind (wpAny_rule (wpAny_bind (wpAny_pure (wpAny_pure ⟨_, rfl, h⟩))))
section
variable {A : Around} {s : Shared}
theorem eqAt_tup_dict {l b : Addr} {items : Array Value} {ob : Obj} (hl : s.heap.IsTuple l items) (hb : s.heap.get? b = some ob) (hcb : ob.cls = .type "dict") (hu : A.units < cLine) : EqAt A s (.ref l) (.ref b) false := by
  obtain ⟨⟨cls, dd, data, sl⟩, ho, hc, n, hd⟩ := id hl
  simp only at hc hd
  subst hc hd
  obtain ⟨cls2, dd2, data2, sl2⟩ := ob
  simp only at hcb
  subst hcb
  have hne : l ≠ b := fun e => by
    subst e
    rw [ho] at hb
    exact absurd (congrArg Obj.cls (Option.some.inj hb)) (by simp)
  refine .of_refs hne fun prog w E Q h => ?_
  exact rc_eq_decline_or (k := false) ⟨_, ho, rfl⟩ ⟨_, hb, rfl⟩ (by decide) F.sub_dict_tuple F.slot_tuple_eq F.slot_dict_eq_refl
    (fun _ hq => call_meets F.slot_tuple_eq ⟨_, ho, rfl⟩ F.entry_tuple_eq (F.args_tuple_eq_2 _ _) (tup_eq_dict l b items n dd dd2 sl sl2 data2) ⟨ho, hb, hq⟩)
    (fun _ hq => dict_eq_tup ⟨_, hb, rfl⟩ ⟨_, ho, rfl⟩ hq)
    (fun _ hq => wpAny_isSame_ref_other' hne ho hb (by simp) hq) (.inr hu) h
end
section
variable {X : Cx}
/-- x in a list, data that are not deep -/
def rInF (K : PySem.W.Frag) : R2 := fun x y H Q => ∃ d ds, Dp K H x d ∧ Dp K H y (.list ds) ∧ d.canLay0 = true ∧ PyData.canLayAll0 ds = true ∧ d.depth ≤ 10 ∧ Q (.bl (ds.any fun z => PyData.eqv z d)) H
theorem op_inF (hu : X.A.units + 64 < cLine) : OpR X (compareOp .In) (rInF X.K) := by
  intro pins s σ H x y v u Q I rx ry h
  obtain ⟨d, ds, hd, he, sd, se, dp, q⟩ := h
  obtain ⟨as, r1⟩ := Dp.reads I d x v hd rx
  obtain ⟨bs, r2⟩ := Dp.reads I (.list ds) y u he ry
  exact SeqAt.in_list_reads r2 r1 se sd (by omega) ⟨.bl _, H, I, rfl, q⟩
/-- a dict in a list of tuples: it is not in it -/
def rInDict (K : PySem.W.Frag) : R2 := fun x y H Q => ∃ (a l : Addr) (kvs : List (Key × V)) (ps : List Addr), x = .ref a ∧ H a = some (.dK kvs) ∧ y = .ref l ∧ SqL K H l (ps.map V.ref) ∧ (∀ p ∈ ps, ∃ xs, SqT K H p xs) ∧ Q (.bl false) H
theorem op_inDict (hu : X.A.units + 64 < cLine) : OpR X (compareOp .In) (rInDict X.K) := by
  intro pins s σ H x y v u Q I rx ry h
  obtain ⟨a, l, kvs, ps, rfl, ea, rfl, hl, hp, q⟩ := h
  cases rx
  cases ry
  obtain ⟨its, rv, pl, hz⟩ := I.list hl
  have ei := refs_at rv
  subst ei
  obtain ⟨_, _, vs, _, hd⟩ := dk_of I.hok ea
  obtain ⟨ob, hb, hD⟩ := Heap.dictOf_iff.mp hd
  have hcb : ob.cls = .type "dict" := by
    obtain ⟨es, ep, ex, _⟩ := hD
    exact ex.1
  refine SeqAt.in_listAt (fun _ => false) pl.isList (fun y hy => ?_) ⟨.bl false, H, I, ?_, q⟩
  · rw [List.mem_toArray] at hy
    obtain ⟨p, hpm, rfl⟩ := List.mem_map.mp hy
    obtain ⟨xs, hx⟩ := hp p hpm
    obtain ⟨its2, _, ht, _⟩ := I.tuple hx
    exact eqAt_tup_dict ht hb hcb (by show X.A.units + 1 < cLine; omega)
  · show Value.bool _ = Value.bool false
    rw [Array.any_eq_false' |>.mpr (fun _ _ => by simp)]
end
end Gx

set_option maxRecDepth 100000
set_option maxHeartbeats 4000000
/-! own errors over a built-in error that takes another's maker (KeyError takes LookupError's) -/
namespace Gx
open PySem PySem.Spec PySem.Calls Builtin
/-- what making asks of the chain -/
structure Chn (B : String) (bm : List Value) : Prop where
  own : bm.contains (.type B) = true
  att : bm.contains (.type "AttributeError") = false
  nam : bm.contains (.type "NameError") = false
section
variable {M : Model} {prog : Program} {w : World} {A : Around} {E : Value → Shared → Prop} {R : Result → Shared → Prop} {hp : Heap} {gn : Array GenState} {dr : Drawn} {tk : Nat} {os : OsState}
variable {nm q : Str} {C N : Addr} {bs bm bmB : List Value} {hdct : Bool} {sn : List Str} {sub : List Value} {ab : Bool} {col : Option Bool} {dd : Option Addr} {k0 k1 k2 k3 k5 : Option Value} {B mk ini : String}
theorem kx_check (F : ExcBaseFacts B mk ini bmB) (ch : Chn B bm) {us : List Value} {Q : Unit → Shared → Prop} (cc : hp.get? C = some (excClassObj nm q C N bs bm hdct sn sub ab col dd k0 k1 k2 k3 k5 mk)) (hq : Q () ⟨hp, gn, dr, tk, os⟩) :
    wpAny M A (checkBuiltinCall mk ⟨.ref C :: us, []⟩) Q E ⟨hp, gn, dr, tk, os⟩ := by
  have c1 : (Value.ref C :: bm).contains (.type B) = true := by rw [List.contains_cons, ch.own, Bool.or_true]
  have st := F.noStar
  simp only [F.newRow, F.newSplit, F.newKind, checkBuiltinCall]
  repeat (first | refine wpAny_loadPart_at cc ?_ | (refine wpAny_isSubtype_exc cc ?_; rw [c1]) | refine wpAny_staticBase_exc cc ?_ | refine wpAny_madeBy_exc cc ?_ | simp only [bne_self_eq_false, Bool.false_eq_true, if_false] | wp_step)
  exact hq
theorem kx_new (F : ExcBaseFacts B mk ini bmB) (ch : Chn B bm) {us : List Value} (cc : hp.get? C = some (excClassObj nm q C N bs bm hdct sn sub ab col dd k0 k1 k2 k3 k5 mk))
    (hq : R (.ok (.ret (.ref (hp.objs.size + 1)))) ⟨(hp.push (W.kdv_tup us)).push (W.excObj C hp.objs.size none .none), gn, dr, tk, os⟩) (hz : us.length ≤ sizeLine) :
    codeAny (model prog w) A (.builtin mk ⟨.ref C :: us, []⟩) R ⟨hp, gn, dr, tk, os⟩ := by
  have fe := F.ends
  have c1 : (Value.ref C :: bm).contains (.type B) = true := by rw [List.contains_cons, ch.own, Bool.or_true]
  have c2 : (Value.ref C :: bm).contains (.type "AttributeError") = false := by rw [List.contains_cons, ch.att]; rfl
  have c3 : (Value.ref C :: bm).contains (.type "NameError") = false := by rw [List.contains_cons, ch.nam]; rfl
  refine codeAny_builtinAt F.entry ?_
  unfold Builtin.«BaseException.__new__»
  refine wpAt_bind ?_
  show wpAt _ _ _ (stack >>= _) _ _ _
  refine wpAt_bind (wpAt_stack fun p0 low => wpAt_of_wpAny ?_)
  wp_walk
  refine wpAt_of_wpAny ?_
  rw [F.owner]
  repeat (first | with_reducible refine wpAny_madeHere_exc F.canon cc ?_ | with_reducible refine wpAny_loadPart_at cc ?_ | (with_reducible refine wpAny_isSubtype_exc cc ?_; first | rw [c1] | rw [c2] | rw [c3]) | wp_step)
  show R _ _
  rw [Heap.size_push]
  exact hq
theorem kx_type (F : ExcBaseFacts B mk ini bmB) (ch : Chn B bm) {us : List Value} {fI : Addr} {Q : Fin → Shared → Prop} (cc : hp.get? C = some (excClassObj nm q C N bs bm hdct sn sub ab col dd k0 k1 k2 k3 k5 mk))
    (li : W.Looks (model prog w) hp (typeLookup (.ref C) "__init__") (some (.ref fI))) (lb : ∀ o, W.Looks (model prog w) hp (bindSpecial (.ref fI) o) (.ref fI, [o])) (hz : us.length ≤ sizeLine)
    (hq : codeAny (model prog w) A (.call (.ref fI) ⟨.ref (hp.objs.size + 1) :: us, []⟩)
      (fun r s' => match r with | .ok (.ret v) => v = .none ∧ Q (.done (.ret (.ref (hp.objs.size + 1)))) s' | .ok _ => False | .error e => E e s')
      ⟨(hp.push (W.kdv_tup us)).push (W.excObj C hp.objs.size none .none), gn, dr, tk, os⟩) : wpAny (model prog w) A (Builtin.«type.__call__» ⟨.ref C :: us, []⟩) Q E ⟨hp, gn, dr, tk, os⟩ := by
  repeat (first | with_reducible refine wpAny_loadPart_at cc ?_ | with_reducible refine wpAny_madeBy_exc cc ?_ | wp_step)
  refine codeAny_call_builtin_code (Code.quiet_builtin _ F.quiet) (kx_check F ch cc ?_)
  refine kx_new F ch cc ?_ hz
  show wpAny _ _ _ _ _ _
  have old : ∀ b o, hp.get? b = some o → ((hp.push (W.kdv_tup us)).push (W.excObj C hp.objs.size none .none)).get? b = some o := fun b o e => Heap.get?_push_of_some _ (Heap.get?_push_of_some _ e)
  have cc1 := old _ _ cc
  have ne : ((hp.push (W.kdv_tup us)).push (W.excObj C hp.objs.size none .none)).get? (hp.objs.size + 1) = some (W.excObj C hp.objs.size none .none) := by heap_get
  have cs : (Value.ref C :: bm).contains (.ref C) = true := by simp
  have li1 := li.keeps old
  have lb1 := (lb (.ref (hp.objs.size + 1))).keeps old
  unfold isInstance
  repeat (first | with_reducible refine wpAny_loadPart_at ne ?_ | (with_reducible refine wpAny_isSubtype_exc cc1 ?_; rw [cs]) | wp_step)
  show wpAny _ _ (typeLookup (.ref C) _) _ _ _
  refine li1.at ?_
  refine wpAny_holding (wpAny_bind (lb1.at ?_))
  refine wpAny_bind (wpAny_call (codeAny_mono hq fun r s1 z => ?_))
  rcases r with e | (v | _ | _ | _) <;> first | exact z | exact z.elim | skip
  obtain ⟨rfl, z⟩ := z
  first | exact wpAny_pure (wpAny_pure z) | (wp_walk; exact z)
theorem kx_call (F : ExcBaseFacts B mk ini bmB) (ch : Chn B bm) {us : List Value} {fI : Addr} (cc : hp.get? C = some (excClassObj nm q C N bs bm hdct sn sub ab col dd k0 k1 k2 k3 k5 mk))
    (li : W.Looks (model prog w) hp (typeLookup (.ref C) "__init__") (some (.ref fI))) (lb : ∀ o, W.Looks (model prog w) hp (bindSpecial (.ref fI) o) (.ref fI, [o])) (hz : us.length ≤ sizeLine)
    (hq : codeAny (model prog w) (A.under (.builtin "type.__call__" ⟨.ref C :: us, []⟩)) (.call (.ref fI) ⟨.ref (hp.objs.size + 1) :: us, []⟩) (W.InitBack (hp.objs.size + 1) R)
      ⟨(hp.push (W.kdv_tup us)).push (W.excObj C hp.objs.size none .none), gn, dr, tk, os⟩) : codeAny (model prog w) A (.call (.ref C) ⟨us, []⟩) R ⟨hp, gn, dr, tk, os⟩ := by
  have t1 := tc_lookup
  have t2 := tc_bind (.ref C)
  have t3 : (⟨hp, gn, dr, tk, os⟩ : Shared).TypeIs (.ref C) "type" := ⟨_, cc, rfl⟩
  refine codeAny_of_tree ?_
  show wpAny _ _ (callAny (.ref C) _) _ _ _
  repeat (any_goals (first | assumption | with_reducible refine wpAny_loadPart_at cc ?_ | wp_step))
  refine ⟨rfl, ?_⟩
  refine codeAny_call_builtin_at (Code.quiet_builtin _ (by decide +kernel)) entry_typeCall (wpAny_check_type_call_sub cc (kx_type F ch cc li lb hz ?_))
  refine codeAny_mono hq fun r s1 z => ?_
  rcases r with e | (v | _ | _ | _) <;> exact z
end
end Gx
namespace Gx
open PySem PySem.Spec PySem.W PySem.Calls PyProof.Rows L2
/-! ### own errors with one field, made, over any base -/
/-- a base: the maker's facts, and what each chain over it holds -/
structure XBase (B mk ini : String) (bmF bmB : List Value) : Prop where
  F : ExcBaseFacts B mk ini bmF
  ch : ∀ bm : List Value, excTail bmB bm = true → Chn B bm
theorem xbase_of {B mk ini : String} {bmB : List Value} (F : ExcBaseFacts B mk ini bmB) : XBase B mk ini bmB bmB :=
  ⟨F, fun bm t => ⟨by rw [excTail_contains _ bm t]; exact F.hasB, by rw [excTail_contains _ bm t]; exact F.noAttr, by rw [excTail_contains _ bm t]; exact F.noName⟩⟩
abbrev bmKey : List Value := [.type "KeyError", .type "LookupError", .type "Exception", .type "BaseException", .type "object"]
theorem xbase_KeyError : XBase "LookupError" "LookupError.__new__" "LookupError.__init__" [.type "LookupError", .type "Exception", .type "BaseException", .type "object"] bmKey :=
  ⟨PySem.F.excBase_LookupError, fun bm t => ⟨by rw [excTail_contains _ bm t]; decide +kernel, by rw [excTail_contains _ bm t]; decide +kernel, by rw [excTail_contains _ bm t]; decide +kernel⟩⟩
section
variable {prog : Program} {w : World} {A : Around} {R : Result → Shared → Prop} {s : Shared} {K : Frag} {mg : Str → Option Value} {C fI : Addr} {cn fld : Str} {B mk ini : String} {bmF bmB : List Value}
theorem x_madeC (FB : XBase B mk ini bmF bmB) (T : XTxt K mg cn fld mk bmB C fI) (D : InitDoes K C fI fld) {v : Value} (inK : K.In s.heap) (lim : s.heap.NoLimit) (room : A.depth + 1 < recursionLimit)
    (hq : ∀ h' tk e d, XMade s.heap h' e C d fld v → R (.ok (.ret (.ref e))) { s with heap := h', toks := tk }) : codeAny (model prog w) A (.call (.ref C) ⟨[v], []⟩) R s := by
  obtain ⟨nm, q, N, bs, bm, sn, sub, ab, col, dd, k0, k1, k2, k3, k5, hC, tail⟩ := T.cls
  obtain ⟨hp, g, dr, tk, os⟩ := s
  have stay : ∀ b o, hp.get? b = some o → ((hp.push (kdv_tup [v])).push (excObj C hp.objs.size none .none)).get? b = some o := fun b o e => Heap.get?_push_of_some _ (Heap.get?_push_of_some _ e)
  have there : ((hp.push (kdv_tup [v])).push (excObj C hp.objs.size none .none)).get? (hp.objs.size + 1) = some (excObj C hp.objs.size none .none) := by heap_get
  have fresh : K.lookup (hp.objs.size + 1) = none := by
    cases e : K.lookup (hp.objs.size + 1) with
    | none => rfl
    | some o => exact absurd (Nat.lt_of_succ_lt (Heap.lt_size (inK _ _ e))) (Nat.lt_irrefl _)
  refine kx_call FB.F (FB.ch bm tail) (inK _ _ hC) (looks_findIn inK T.iC) (fun self => bind_fn inK self T.tC) (one_line v) ?_
  refine D prog w _ _ ⟨(hp.push (kdv_tup [v])).push (excObj C hp.objs.size none .none), g, dr, tk, os⟩ _ _ v (inK.keeps stay) (lim.keeps stay) there fresh room fun h' tk' dx M => ?_
  have old : ∀ b o, hp.get? b = some o → h'.get? b = some o := fun b o e => M.keep b o (Nat.ne_of_lt (Nat.lt_succ_of_lt (Heap.lt_size e))) (stay b o e)
  have z : hp.objs.size + 1 + 1 ≤ dx := by
    have q := M.big
    first
      | exact q
      | simpa only [Heap.size_push] using q
  exact ⟨rfl, hq h' tk' (hp.objs.size + 1) dx ⟨old, Nat.le_succ _, ⟨_, _, M.obj, rfl, rfl, rfl, rfl⟩, Nat.le_trans (Nat.le_trans (Nat.le_succ _) (Nat.le_succ _)) z, M.ne, M.ns⟩⟩
end
/-! ### errors as values -/
/-- the error at e, of the class C, its dict at d -/
def ExV (C e : Addr) (d : Option Addr) : HO := .ext fun h => ∃ (oe : Obj) (vs : Array Value), h.get? e = some oe ∧ oe.cls = .ref C ∧ oe.dict = d ∧ oe.data = .fields vs
theorem exV_ok {P : Program} {w : World} {H : Hp} {h : Heap} {C e : Addr} {d : Option Addr} {oe : Obj} {vs : Array Value} (he : h.get? e = some oe) (hc : oe.cls = .ref C) (hd : oe.dict = d) (hf : oe.data = .fields vs) : ObjOk P w H h e (ExV C e d) :=
  ⟨⟨oe, vs, he, hc, hd, hf⟩, ⟨oe, he⟩, fun h1 h2 ⟨o, us, a, b, c, f⟩ k => ⟨o, us, k _ a, b, c, f⟩⟩
theorem exV_at {P : Program} {w : World} {H : Hp} {h : Heap} {C e : Addr} {d : Option Addr} (ok : HOk P w H h) (he : H e = some (ExV C e d)) : ∃ (oe : Obj) (vs : Array Value), h.get? e = some oe ∧ oe.cls = .ref C ∧ oe.dict = d ∧ oe.data = .fields vs :=
  (show ObjOk P w H h e (ExV C e d) from ok e _ he).1
section
variable {X : Cx} {C fI : Addr} {cn fld : Str} {B mk ini : String} {bmF bmB : List Value}
/-- cn(e), the error kept -/
def tMkV (C : Addr) (fld : Str) (ta : TA) : TE := fun σ H Q => ta σ H fun vs H1 => ∃ v, vs = [v] ∧ ∀ d e, H1 d = none → H1 e = none → e ≠ d → Q (.ref e) (upd (upd H1 d (.xd [(fld, v)])) e (ExV C e (some d)))
theorem pe_mkV {a : Expr} {ta : TA} {p pos : Pos} {k : Nat} (FB : XBase B mk ini bmF bmB) (T : XTxt X.K X.mg cn fld mk bmB C fI) (D : InitDoes X.K C fI fld) (room : Room k X.A) (ha : PA X [a] ta) (hg : Gl X cn)
    (hdb : (cn == ("__debug__" : Str)) = false := by decide) (hst : starEach (a :: []) X.env = (false, eval a X.env) :: starEach [] X.env := by rfl) (hpl : (backTo pos (starEach [] X.env)).any (·.1) = false := by rfl) :
    PE X (.Call (.Name cn p) [a] [] pos) (tMkV C fld ta) := by
  refine ⟨fun pins s σ H Q I h => ?_⟩
  refine wpAny_Call_Name_kw (ld_glob I hg T.gC ?_ hdb)
  refine PySem.W.callWith_K (h₀ := X.base) I.ok.mod.kin T.kC (thn (ha.run pos pins s σ H _ I h) ?_) hst hpl
  rintro us s1 ⟨vs, H1, I1, r1, v, rfl, q1⟩
  refine ⟨I1.kIn, ?_⟩
  obtain ⟨u, rfl, rv⟩ := vals1 r1
  show wpAny _ _ (call (.ref C) [u]) _ _ _
  have lim := I1.nolimit
  obtain ⟨hp, g, dr, tk, os⟩ := s1
  refine wpAny_call (x_madeC FB T D I1.kIn lim (by have := room.dp; omega) fun h' tk' e d M => ?_)
  obtain ⟨oe, fv, hoe, hc, hd, hdat, h1⟩ := M.obj
  obtain ⟨G', g1, g2⟩ := restrict h' fun b => decide (b ≠ e)
  have off : ∀ b, b ≠ e → G'.get? b = h'.get? b := fun b hb => g1 b (decide_eq_true hb)
  have gone : G'.get? e = none := g2 e (by simp)
  have old : ∀ b o, hp.get? b = some o → G'.get? b = some o := fun b o q => (off b (Nat.ne_of_lt (Nat.lt_of_lt_of_le (Heap.lt_size q) M.new))).trans (M.keep b o q)
  have ob : ObjOk X.prog X.w (upd H1 d (.xd [(fld, v)])) G' d (.xd [(fld, v)]) := ⟨_, M.ns.at (fun o q => (off d M.ne).trans q), fun f => relO_one rv f⟩
  have J : Inv X pins σ (upd H1 d (.xd [(fld, v)])) ⟨G', g, dr, tk', os⟩ := I1.laid (t' := tk') old M.big ob
  have ne0 : H1 e = none := I1.hok.fresh M.new
  have J2 := J.laidN (h' := h') (t' := tk') (o := ExV C e (some d)) (fun b o q => by
    by_cases hb : b = e
    · have q' : G'.get? b = some o := q
      rw [hb, gone] at q'
      cases q'
    · exact (off b hb).symm.trans q) gone (by rw [upd_ne (Ne.symm M.ne)]; exact ne0) (exV_ok hoe hc hd hdat)
  exact ⟨.ref e, _, J2, rfl, q1 d e (I1.hok.fresh M.big) ne0 (Ne.symm M.ne)⟩
end
end Gx

set_option maxRecDepth 100000
set_option maxHeartbeats 4000000
namespace Gx
open PySem PySem.Spec PySem.W PySem.Calls PyProof.Rows L2
/-! ### own errors without an __init__ of their own, as values -/
/-- what the written part says of such a class -/
structure XPln (K : Frag) (mg : Str → Option Value) (cn : Str) (mk ini : String) (bmB : List Value) (C : Addr) : Prop where
  gC : mg cn = some (.ref C)
  cls : ∃ nm q N bs bm hd sn sub ab col dd k0 k1 k2 k3 k5, K.lookup C = some (excClassObj nm q C N bs bm hd sn sub ab col dd k0 k1 k2 k3 k5 mk) ∧ excTail bmB bm = true
  iC : findIn K (.ref C) "__init__" = some (some (.builtin ini))
  kC : keepIn K (.ref C) = true
/-- .. of any own class of errors, for isinstance -/
structure XCls (K : Frag) (C : Addr) : Prop where
  isC : isClsIn K C = true
  ga : findIn K (.ref C) "__getattribute__" = some (some (.builtin "BaseException.__getattribute__"))
  gg : findIn K (.ref C) "__getattr__" = some none
  ex : subIn K (.ref C) (.type "BaseException") = some true
  cl : findIn K (.ref C) "__class__" = some (some (.builtin "object.__class__"))
  sp : specialIn K (.builtin "object.__class__") "__get__" = some (some (.builtin "getset_descriptor.__get__"))
  ta : takesIn K (.builtin "object.__class__") = some true
  ob : mroIn K C (.type "object") = some true
section
variable {X : Cx} {C : Addr} {cn : Str} {B mk ini : String} {bmB : List Value}
def tMkP (C : Addr) (ta : TA) : TE := fun σ H Q => ta σ H fun vs H1 => vs.length ≤ 1000 ∧ ∀ e, H1 e = none → Q (.ref e) (upd H1 e (ExV C e none))
theorem pe_mkP {a : Expr} {ta : TA} {p pos : Pos} (F : ExcBaseFacts B mk ini bmB) (T : XPln X.K X.mg cn mk ini bmB C) (ha : PA X [a] ta) (hg : Gl X cn)
    (hdb : (cn == ("__debug__" : Str)) = false := by decide) (hst : starEach (a :: []) X.env = (false, eval a X.env) :: starEach [] X.env := by rfl) (hpl : (backTo pos (starEach [] X.env)).any (·.1) = false := by rfl) :
    PE X (.Call (.Name cn p) [a] [] pos) (tMkP C ta) := by
  refine ⟨fun pins s σ H Q I h => ?_⟩
  refine wpAny_Call_Name_kw (ld_glob I hg T.gC ?_ hdb)
  refine PySem.W.callWith_K (h₀ := X.base) I.ok.mod.kin T.kC (thn (ha.run pos pins s σ H _ I h) ?_) hst hpl
  rintro us s1 ⟨vs, H1, I1, r1, hz, q1⟩
  refine ⟨I1.kIn, ?_⟩
  obtain ⟨nm, q, N, bs, bm, hd, sn, sub, ab, col, dd, k0, k1, k2, k3, k5, hC, tail⟩ := T.cls
  have hl : us.length ≤ sizeLine := by
    rw [← r1.length]
    exact Nat.le_trans hz (by decide)
  obtain ⟨hp, g, dr, tk, os⟩ := s1
  refine PySem.W.call_B F (fun Y => excTail_contains Y bm tail) (I1.kIn _ _ hC) (looks_findIn I1.kIn T.iC) hl fun h' k he ht => ?_
  have fr := I1.hok.fresh (Nat.le_succ hp.objs.size)
  exact ⟨.ref (hp.objs.size + 1), _, I1.laid (t' := tk) k (Nat.le_succ _) (exV_ok he rfl rfl rfl), rfl, q1 _ fr⟩
end
/-- the error at e stands, with its dict if it has one -/
def ExAt (H : Hp) (e C : Addr) (d : Option Addr) (fs : List (Str × V)) : Prop := H e = some (ExV C e d) ∧ ∀ dd, d = some dd → H dd = some (.xd fs)
section
variable {X : Cx} {pins : List (Addr × Obj)} {σ : L2.St} {H : Hp} {s : Shared}
theorem exAt_inst {e C : Addr} {d : Option Addr} {fs : List (Str × V)} (I : Inv X pins σ H s) (h : ExAt H e C d fs) : ∃ (oe : Obj) (od : Option Obj), PySem.W.InstAt s.heap e oe C od := by
  obtain ⟨h1, h2⟩ := h
  obtain ⟨oe, vs, he, hc, hd, hf⟩ := exV_at I.hok h1
  have nc : PySem.W.notCls oe = true := by unfold PySem.W.notCls; rw [hf] <;> rfl
  cases d with
  | none => exact ⟨oe, none, he, hc, nc, by rw [hd]; trivial⟩
  | some dd =>
    obtain ⟨mA, hns, _⟩ := (show ObjOk X.prog X.w H s.heap dd (.xd fs) from I.hok dd _ (h2 dd rfl))
    obtain ⟨od, ho, _⟩ := lookIn_ns hns
    exact ⟨oe, some od, he, hc, nc, by rw [hd]; exact ho⟩
end
/-- isinstance(e, c), e an own error -/
def rIsV (K : PySem.W.Frag) : List V → Hp → VK → Prop := fun xs H Q => ∃ (e C : Addr) (d : Option Addr) (fs : List (Str × V)) (c : V) (u : Value) (b : Bool), xs = [.ref e, c] ∧ ExAt H e C d fs ∧ XCls K C ∧ ClsV c u ∧ PySem.W.kitOne K (.ref C) u = some b ∧ Q (.bl b) H
section
variable {X : Cx}
theorem call_isV : CallR X (.builtin "isinstance") (rIsV X.K) := by
  intro pins s σ H xs us Q I r h
  obtain ⟨e, C, d, fs, c, u, b, rfl, hx, T, k, hb, q⟩ := h
  obtain ⟨u1, u2, rfl, r1, r2⟩ := vals2 r
  have e2 := k.eq r2
  subst e2
  cases (show u1 = Value.ref e from r1)
  obtain ⟨oe, od, J⟩ := exAt_inst I hx
  exact PySem.W.kia_one (PySem.W.kitx_exc (ox := oe) (od := od) T.isC T.ga T.gg T.ex T.cl T.sp T.ta T.ob) I.kIn J hb (fun z => nomatch z) fun tk => ⟨.bl b, H, I.tok tk, rfl, q⟩
/-- e.fld, e an own error with that field -/
def tGetV (C : Addr) (fld : Str) (te : TE) : TE := fun σ H Q => te σ H fun x H1 => ∃ (e dd : Addr) (v : V), x = .ref e ∧ ExAt H1 e C (some dd) [(fld, v)] ∧ Q v H1
theorem pe_getV {C fI : Addr} {cn fld : Str} {mk : String} {bmB : List Value} {e : Expr} {te : TE} {pos : Pos} (T : XTxt X.K X.mg cn fld mk bmB C fI) (he : PE X e te)
    (hb : attributeBase e fld X.env (eval e X.env) = eval e X.env := by rfl) : PE X (.Attribute e fld pos) (tGetV C fld te) := by
  constructor
  intro pins s σ H Q I h
  refine attr_of hb (thn (he.run pins s σ H _ I h) ?_)
  rintro u s1 ⟨x, H1, I1, rx, e1, dd, v, rfl, ⟨h1, h2⟩, q⟩
  obtain rfl : u = Value.ref e1 := rx
  obtain ⟨oe, vs, here, hc, hd, hf⟩ := exV_at I1.hok h1
  obtain ⟨mA, hns, hr⟩ := (show ObjOk X.prog X.w H1 s1.heap dd (.xd [(fld, v)]) from I1.hok dd _ (h2 dd rfl))
  obtain ⟨od, ho, hl⟩ := lookIn_ns hns
  have l : List.lookup fld [(fld, v)] = some v := by simp [List.lookup]
  have hrf := hr fld
  rw [l] at hrf
  obtain ⟨u, hu, ru⟩ := RelO.some_of (v := v) (o := mA fld) hrf
  have J : PySem.W.InstAt s1.heap e1 oe C (some od) := ⟨here, hc, by unfold PySem.W.notCls; rw [hf] <;> rfl, by rw [hd]; exact ho⟩
  exact HandSPX.exc_get I1.kIn J T.ga T.gg T.exC (PySem.W.findObj_own T.hdC T.noN rfl (by rw [hl, hu])) (handed_of ru) ⟨v, H1, I1.tok _, ru, q⟩
end
end Gx

set_option maxRecDepth 100000
set_option maxHeartbeats 4000000
namespace Gx
open PySem PySem.Spec PySem.W PySem.Calls PyProof.Rows L2
/-! ### stores over KeyError -/
theorem store_KeyErr : StoreFacts "KeyError" bmKey "object.__setattr__" "object" := by
  constructor
  case mro => kernel_rfl
  case slot => exact .of (owner := "object") (n := "__setattr__") (by rw [typeLookup_type, builtinLookup_eq_fast]; kernel_rfl) (by decide +kernel) (by decide +kernel) (by decide +kernel) (.inl (by decide +kernel)) (by rw [isSubtype_type]; kernel_rfl)
  case entry => exact PySem.F.store_LookupError.entry
  case kind => decide +kernel
  case split => decide +kernel
  case hasOwner => decide +kernel
  case args => exact fun a b c => PySem.F.store_LookupError.args a b c
  case passes => exact fun o => by kernel_rfl
/-! ### the table of all errors: who is derived from whom -/
def subC (i j : Nat) : Bool := i == j || (j == 0 && decide (i ≤ 11))
def BS : List String := ["ValueError", "KeyError", "IndexError", "LookupError", "RuntimeError", "OverflowError", "ArithmeticError"]
def subB (i : Nat) (b : String) : Bool :=
  if b = "ValueError" then decide (i ≤ 11) else if b = "KeyError" then i == 12 || i == 13 else if b = "IndexError" then i == 15
  else if b = "LookupError" then decide (12 ≤ i) && decide (i ≤ 15) else if b = "RuntimeError" then i == 16 else if b = "OverflowError" then i == 17 else decide (17 ≤ i)
def xclsB (K : Frag) (C : Addr) : Bool :=
  isClsIn K C && (decide (findIn K (.ref C) "__getattribute__" = some (some (.builtin "BaseException.__getattribute__"))) && (decide (findIn K (.ref C) "__getattr__" = some none) && (decide (subIn K (.ref C) (.type "BaseException") = some true) &&
    (decide (findIn K (.ref C) "__class__" = some (some (.builtin "object.__class__"))) && (decide (specialIn K (.builtin "object.__class__") "__get__" = some (some (.builtin "getset_descriptor.__get__"))) &&
    (decide (takesIn K (.builtin "object.__class__") = some true) && decide (mroIn K C (.type "object") = some true)))))))
theorem xclsB_ok {K : Frag} {C : Addr} (h : xclsB K C = true) : XCls K C := by
  unfold xclsB at h
  simp only [Bool.and_eq_true, decide_eq_true_eq] at h
  obtain ⟨a, b, c, d, e, f, g, i⟩ := h
  exact ⟨a, b, c, d, e, f, g, i⟩
def tabB (K : Frag) (cs : List Addr) : Bool := (List.range 20).all fun i => xclsB K (cs.getD i 0) && (((List.range 20).all fun j => decide (kitOne K (.ref (cs.getD i 0)) (.ref (cs.getD j 0)) = some (subC i j))) && (BS.all fun b => decide (kitOne K (.ref (cs.getD i 0)) (.type b) = some (subB i b))))
theorem getD_range (c : Nat → Addr) {i : Nat} (h : i < 20) : ((List.range 20).map c).getD i 0 = c i := by
  rw [List.getD_eq_getElem?_getD, List.getElem?_map, List.getElem?_range h]
  rfl
section
variable {K : Frag} {c : Nat → Addr} (t : tabB K ((List.range 20).map c) = true) {i : Nat} (hi : i < 20)
include t hi
theorem tab_at : xclsB K (c i) = true ∧ (∀ j, j < 20 → kitOne K (.ref (c i)) (.ref (c j)) = some (subC i j)) ∧ ∀ b ∈ BS, kitOne K (.ref (c i)) (.type b) = some (subB i b) := by
  unfold tabB at t
  have h := List.all_eq_true.mp t i (List.mem_range.mpr hi)
  simp only [Bool.and_eq_true, List.all_eq_true, decide_eq_true_eq, List.mem_range] at h
  rw [getD_range c hi] at h
  refine ⟨h.1, fun j hj => ?_, fun b hb => h.2.2 b hb⟩
  have := h.2.1 j hj
  rw [getD_range c hj] at this
  exact this
theorem tab_cls : XCls K (c i) := xclsB_ok (tab_at t hi).1
theorem tab_own {j : Nat} (hj : j < 20) : kitOne K (.ref (c i)) (.ref (c j)) = some (subC i j) := (tab_at t hi).2.1 j hj
theorem tab_blt {b : String} (hb : b ∈ BS) : kitOne K (.ref (c i)) (.type b) = some (subB i b) := (tab_at t hi).2.2 b hb
end
end Gx

set_option maxRecDepth 100000
set_option maxHeartbeats 4000000
namespace Gx
open PySem PySem.Spec PySem.W PySem.Calls PyProof.Rows L2
/-- an own class of errors is caught by its own name -/
theorem exm_own {K : PySem.W.Frag} {S : Addr} (b : PySem.W.subIn K (.ref S) (.type "BaseException") = some true) (i : PySem.W.isClsIn K S = true) (t : PySem.W.typeIn K (.ref S) = some (.type "type")) (s : PySem.W.subIn K (.ref S) (.ref S) = some true) : PySem.W.exmOne K (.ref S) (.ref S) = some true := by
  have i' : (PySem.W.clsIn K S).isSome = true := i
  unfold PySem.W.exmOne PySem.W.kitCls
  simp [b, i', t, s]
section
variable {X : Cx} {C : Addr} {cn : Str} {B mk ini : String} {bmB : List Value}
/-- raise cn(a), an own error without an __init__ of its own -/
def tMkR (C : Addr) (ta : TA) : L2.St → Hp → XK → Prop := fun σ H Q => ta σ H fun vs H1 => vs.length ≤ 1000 ∧ Q (.ref C) none H1
theorem pmk_P {a : Expr} {ta : TA} {p pos : Pos} (F : ExcBaseFacts B mk ini bmB) (T : XPln X.K X.mg cn mk ini bmB C) (XC : XCls X.K C) (ha : PA X [a] ta) (hg : Gl X cn)
    (hdb : (cn == ("__debug__" : Str)) = false := by decide) (hst : starEach (a :: []) X.env = (false, eval a X.env) :: starEach [] X.env := by rfl) (hpl : (backTo pos (starEach [] X.env)).any (·.1) = false := by rfl) :
    PMk X (.Call (.Name cn p) [a] [] pos) (tMkR C ta) := by
  intro pins s σ H Q I h
  refine wpAny_Call_Name_kw (ld_glob I hg T.gC ?_ hdb)
  refine PySem.W.callWith_K (h₀ := X.base) I.ok.mod.kin T.kC (thn (ha.run pos pins s σ H _ I h) ?_) hst hpl
  rintro us s1 ⟨vs, H1, I1, r1, hz, q1⟩
  refine ⟨I1.kIn, ?_⟩
  obtain ⟨nm, q, N, bs, bm, hd, sn, sub, ab, col, dd, k0, k1, k2, k3, k5, hC, tail⟩ := T.cls
  have hl : us.length ≤ sizeLine := by
    rw [← r1.length]
    exact Nat.le_trans hz (by decide)
  have tyC : typeIn X.K (.ref C) = some (.type "type") := by
    show (X.K.lookup C).map (·.cls) = _
    rw [hC]
    rfl
  obtain ⟨hp, g, dr, tk, os⟩ := s1
  refine PySem.W.call_B F (fun Y => excTail_contains Y bm tail) (I1.kIn _ _ hC) (looks_findIn I1.kIn T.iC) hl fun h' k he ht => ?_
  obtain ⟨G', g1, g2⟩ := restrict h' fun b => decide (b ≠ hp.objs.size + 1)
  have off : ∀ b, b ≠ hp.objs.size + 1 → G'.get? b = h'.get? b := fun b hb => g1 b (decide_eq_true hb)
  have gone : G'.get? (hp.objs.size + 1) = none := g2 _ (by simp)
  have old : ∀ b o, hp.get? b = some o → G'.get? b = some o := fun b o q => (off b (Nat.ne_of_lt (Nat.lt_succ_of_lt (Heap.lt_size q)))).trans (k b o q)
  have J : Inv X pins σ H1 ⟨G', g, dr, tk, os⟩ := I1.kept (t' := tk) old
  refine ⟨hp.objs.size + 1, _, _, ⟨G', g, dr, tk, os⟩, H1, .ref C, none, rfl, J, ?_, gone, he, ⟨rfl, rfl⟩, rfl, rfl, I1.hok.fresh (Nat.le_succ _), rfl, I1.bare, raises_own XC.ex tyC, q1⟩
  intro b o q
  have q' : G'.get? b = some o := q
  by_cases hb : b = hp.objs.size + 1
  · rw [hb, gone] at q'
    cases q'
  · exact (off b hb).symm.trans q
end
/-! ### methods that may raise -/
/-- the class at C has a method m that keeps sp, and may raise -/
def CalMX (P : Program) (w : World) (K : PySem.W.Frag) (mg : Str → Option Value) (base : Heap) (C : Addr) (m : Str) (k : Nat) (ps : List Str) (sp : Sp) : Prop :=
  ∃ (f : Addr) (fd : FuncData), FnG P w K mg base (L2.CX P w) k f fd ps sp ∧ Meth K C m f ∧ Binds K fd ps []
theorem DefM.calX {P : Program} {w : World} {K : PySem.W.Frag} {mg : Str → Option Value} {base : Heap} {C : Addr} {m qual : Str} {st : Stmt} {k : Nat} {ps : List Str} {sp : Sp} (d : DefM K C m qual st ps)
    (h : ∀ f fd, Fun K m qual st f fd → FnG P w K mg base (L2.CX P w) k f fd ps sp) : CalMX P w K mg base C m k ps sp := by
  obtain ⟨f, fd, F, me, b, fi⟩ := d
  exact ⟨f, fd, h f fd F, me, b⟩
theorem CalMX.up {P : Program} {w : World} {K : PySem.W.Frag} {mg : Str → Option Value} {base : Heap} {C : Addr} {m : Str} {j k : Nat} {ps : List Str} {sp : Sp} (c : CalMX P w K mg base C m j ps sp) (h : j ≤ k) : CalMX P w K mg base C m k ps sp := by
  obtain ⟨f, fd, F, r⟩ := c
  exact ⟨f, fd, F.up h, r⟩
section
variable {X : Cx} {C : Addr} {m : Str} {k : Nat} {ps : List Str} {sp : Sp} {ta : TE} {t : TA} {o e : Expr} {es : List Expr} {pos apos : Pos} {E : L2.St → XK}
/-- o.m(..), which may raise -/
def tMethX (C : Addr) (m : Str) (sp : Sp) (E : L2.St → XK) (ta : TE) (t : TA) : TE := fun σ H Q => ta σ H fun x H1 => ∃ a dx fs, x = .ref a ∧ H1 a = some (.ins C dx fs) ∧ fs.lookup m = none ∧ t σ H1 fun vs H2 => sp (x :: vs) H2 Q (E σ)
theorem pe_methX {pl : Sem Bool} (he : PE X o ta) (cl : Cls X.K C) (c : CalMX X.prog X.w X.K X.mg X.base C m k ps sp) (g : Gd X.A) (room : Room k X.A) (hx : ∀ σ, PassesAt (L2.CX X.prog X.w) X σ (E σ)) (ha : PA X (e :: es) t)
    (hst : starEach (e :: es) X.env = (false, eval e X.env) :: starEach es X.env := by rfl) (hpl : (backTo pos (starEach es X.env)).any (·.1) = false := by rfl)
    (ht : eval (.Call (.Attribute o m apos) (e :: es) [] pos) X.env = (do
      let ov ← eval o X.env
      standAt apos.atName
      let (f, first) ← holding [ov] (getMethod ov m pl)
      callWith pos f first (backTo pos (starEach (e :: es) X.env)) (backToKw pos (keywordEach [] X.env))) := by rfl) :
    PE X (.Call (.Attribute o m apos) (e :: es) [] pos) (tMethX C m sp E ta t) := by
  obtain ⟨f, fd, F, hm, b⟩ := c
  refine ⟨fun pins s σ H Q I h => ?_⟩
  refine PySem.W.methodCall_KW (pl := pl) (thn (he.run pins s σ H _ I h) fun u s1 ⟨x, H1, I1, rx, a, dx, fs, ex, ea, l, q⟩ => ?_) ht
  subst ex
  obtain rfl : u = Value.ref a := rx
  refine getmeth_ok I1 ea cl hm l ?_
  refine PySem.W.callWith_K (first := [.ref a]) (h₀ := X.base) I.ok.mod.kin hm.kp (thn (ha.run pos pins s1 σ H1 _ I1 q) fun us s2 ⟨vs, H2, I2, r, q2⟩ => ⟨I2.kIn, ?_⟩) hst hpl
  have hl : (Value.ref a :: us).length = ps.length := by
    rw [← F.len _ _ _ _ q2, List.length_cons, List.length_cons, r.length]
  have b1 := b s2 (.ref a :: us) I2.kIn (by rw [List.append_nil]; exact hl)
  rw [List.append_nil] at b1
  exact runX (us := .ref a :: us) (vs := .ref a :: vs) (args := ⟨.ref a :: us, []⟩) F g room b1 (hx σ) I2 (.cons rfl r) q2
end
end Gx

set_option maxRecDepth 100000
set_option maxHeartbeats 4000000
/-! ### own rules: a def that may raise, whatever is under way -/
namespace Gx
open PySem PySem.Spec PyProof.Rows L2
section
variable {X : Cx} {C : Addr} {k : Nat} {ps : List Str} {sp : Sp} {E : L2.St → XK}
theorem runX_below {f : Addr} {fd : FuncData} {A : Around} {pins : List (Addr × Obj)} {σ : L2.St} {H : Hp} {s : Shared} {us : List Value} {vs : List V} {Q : VK} (F : FnOk X.prog X.w X.K X.mg X.base (L2.CX X.prog X.w) k f fd ps sp) (room : Room k A) (fr : A.frames = X.A.frames) (b : Binds X.K fd ps [])
    (hx : PassesAt (L2.CX X.prog X.w) X σ (E σ)) (I : Inv X pins σ H s) (r : Vals vs us) (want : sp vs H Q (E σ)) : wpAny (model X.prog X.w) A (call (.ref f) us) (EP X pins σ Q) X.xe s := by
  have e0 : Env0 X.prog X.w X.K X.mg X.base A X.stack s H := by
    have e := I.env0
    exact ⟨by rw [fr]; exact e.frames, e.mod, e.bs, e.bsz, e.funs, e.frf, e.hok, e.bare⟩
  have hl : us.length = ps.length := r.length.symm.trans (F.len _ _ _ _ want)
  have bt : BindsTo s fd ⟨us, []⟩ (ps.zip us) := by
    have q := b s us I.kIn (by rw [List.append_nil]; exact hl)
    rw [List.append_nil] at q
    exact q
  refine wpAny_call (codeAny_mono (F.run A X.stack s H ⟨us, []⟩ us vs Q (E σ) room e0 bt r want) fun res s' hres => ?_)
  match res, hres with
  | .error e, hres => exact hx pins H s e s' I hres
  | .ok (.ret u), hres => exact I.after hres
end
/-- the name x is a def that keeps sp and may raise, whatever is under way -/
def CalY (P : Program) (w : World) (K : PySem.W.Frag) (mg : Str → Option Value) (base : Heap) (k : Nat) (x : Str) (ps : List Str) (sp : Sp) : Prop :=
  ∃ (f : Addr) (fd : FuncData), FnOk P w K mg base (L2.CX P w) k f fd ps sp ∧ PySem.W.keepIn K (.ref f) = true ∧ Binds K fd ps [] ∧ mg x = some (.ref f)
section
variable {P : Program} {w : World} {K : PySem.W.Frag} {mg : Str → Option Value} {base : Heap}
theorem CalY.up {j k : Nat} {x : Str} {ps : List Str} {sp : Sp} (c : CalY P w K mg base j x ps sp) (h : j ≤ k) : CalY P w K mg base k x ps sp := by
  obtain ⟨f, fd, F, r⟩ := c
  exact ⟨f, fd, F.mono h, r⟩
theorem Def.calY {x qual : Str} {st : Stmt} {ps : List Str} (d : Def K mg x qual st ps) {k : Nat} {sp : Sp} (h : ∀ f fd, Fun K x qual st f fd → FnOk P w K mg base (L2.CX P w) k f fd ps sp) : CalY P w K mg base k x ps sp := by
  obtain ⟨f, fd, F, b, g⟩ := d
  exact ⟨f, fd, h f fd F, F.kp, b, g⟩
end
section
variable {X : Cx} {k : Nat} {ps : List Str} {sp : Sp} {E : L2.St → XK}
def tClY (sp : Sp) (E : L2.St → XK) (t : TA) : TE := fun σ H Q => t σ H fun vs H1 => sp vs H1 Q (E σ)
theorem pe_calY {x : Str} {e : Expr} {es : List Expr} {t : TA} {p pos : Pos} (c : CalY X.prog X.w X.K X.mg X.base k x ps sp) (room : Room k X.A) (hg : Gl X x) (hx : ∀ σ, PassesAt (L2.CX X.prog X.w) X σ (E σ)) (h : PA X (e :: es) t)
    (hdb : (x == ("__debug__" : Str)) = false := by decide) (hst : starEach (e :: es) X.env = (false, eval e X.env) :: starEach es X.env := by rfl) (hpl : (backTo pos (starEach es X.env)).any (·.1) = false := by rfl) :
    PE X (.Call (.Name x p) (e :: es) [] pos) (tClY sp E t) := by
  obtain ⟨f, fd, F, kp, b, hm⟩ := c
  refine ⟨fun pins s σ H Q I want => wpAny_Call_Name_kw (ld_glob I hg hm ?_ hdb)⟩
  refine PySem.W.callWith_K (h₀ := X.base) I.ok.mod.kin kp (thn (h.run pos pins s σ H _ I want) fun us s1 ⟨vs, H1, I1, r, q⟩ => ⟨I1.kIn, ?_⟩) hst hpl
  exact runX_below F room rfl b (hx σ) I1 r q
end
end Gx

set_option maxRecDepth 100000
set_option maxHeartbeats 4000000
/-! ### own rules: classmethods that may raise; a class held by a local name -/
namespace Gx
open PySem PySem.Spec PyProof.Rows L2 ClX
/-- C.m is a classmethod -/
def ClsMd (K : PySem.W.Frag) (C : Addr) (m qual : Str) (st : Stmt) (ps : List Str) : Prop :=
  ∃ (p g : Addr) (fd : FuncData), CRead K C (.type "type") ∧ CMet K C (.type "type") m p g ∧ Fun K m qual st g fd ∧ Binds K fd ps []
/-- the classmethod m of C keeps sp and may raise -/
def CalQ (P : Program) (w : World) (K : PySem.W.Frag) (mg : Str → Option Value) (base : Heap) (C : Addr) (m : Str) (k : Nat) (ps : List Str) (sp : Sp) : Prop :=
  ∃ (p g : Addr) (fd : FuncData), FnOk P w K mg base (L2.CX P w) k g fd ps sp ∧ CRead K C (.type "type") ∧ CMet K C (.type "type") m p g ∧ Binds K fd ps []
theorem ClsMd.cal {P : Program} {w : World} {K : PySem.W.Frag} {mg : Str → Option Value} {base : Heap} {C : Addr} {m qual : Str} {st : Stmt} {k : Nat} {ps : List Str} {sp : Sp} (d : ClsMd K C m qual st ps)
    (h : ∀ f fd, Fun K m qual st f fd → FnOk P w K mg base (L2.CX P w) k f fd ps sp) : CalQ P w K mg base C m k ps sp := by
  obtain ⟨p, g, fd, r, c, F, b⟩ := d
  exact ⟨p, g, fd, h g fd F, r, c, b⟩
theorem CalQ.up {P : Program} {w : World} {K : PySem.W.Frag} {mg : Str → Option Value} {base : Heap} {C : Addr} {m : Str} {j k : Nat} {ps : List Str} {sp : Sp} (c : CalQ P w K mg base C m j ps sp) (h : j ≤ k) : CalQ P w K mg base C m k ps sp := by
  obtain ⟨p, g, fd, F, r⟩ := c
  exact ⟨p, g, fd, F.mono h, r⟩
section
variable {X : Cx} {C : Addr} {k : Nat} {ps : List Str} {sp : Sp} {E : L2.St → XK} {pins : List (Addr × Obj)} {σ : L2.St} {H : Hp} {s : Shared}
def tCMethX (C : Addr) (sp : Sp) (E : L2.St → XK) (ta : TE) (t : TA) : TE := fun σ H Q => ta σ H fun x H1 => x = .ref C ∧ t σ H1 fun vs H2 => sp (.ref C :: vs) H2 Q (E σ)
theorem run_fnX {f : Addr} {fd : FuncData} {us : List Value} {vs : List V} {Q : VK} (F : FnOk X.prog X.w X.K X.mg X.base (L2.CX X.prog X.w) k f fd ps sp) (room : Room k X.A) (b : Binds X.K fd ps [])
    (hx : PassesAt (L2.CX X.prog X.w) X σ (E σ)) (I : Inv X pins σ H s) (r : Vals vs us) (want : sp vs H Q (E σ)) :
    codeAny (model X.prog X.w) X.A (.call (.ref f) ⟨us, []⟩) (fun r s' => match r with | .ok (.ret v) => EP X pins σ Q v s' | .ok _ => False | .error e => X.xe e s') s := by
  have hl : us.length = ps.length := r.length.symm.trans (F.len _ _ _ _ want)
  have bt : BindsTo s fd ⟨us, []⟩ (ps.zip us) := by
    have q := b s us I.kIn (by rw [List.append_nil]; exact hl)
    rw [List.append_nil] at q
    exact q
  refine codeAny_mono (F.run X.A X.stack s H ⟨us, []⟩ us vs Q (E σ) room I.env0 bt r want) fun res s' hres => ?_
  match res, hres with
  | .error e, hres => exact hx pins H s e s' I hres
  | .ok (.ret u), hres => exact I.after hres
theorem run_cmX {g : Addr} {fd : FuncData} {q : Addr} {Q : VK} {us : List Value} {vs : List V} (F : FnOk X.prog X.w X.K X.mg X.base (L2.CX X.prog X.w) k g fd ps sp) (hr : Room k X.A) (b : Binds X.K fd ps []) (hx : PassesAt (L2.CX X.prog X.w) X σ (E σ))
    (I : Inv X ((q, PySem.W.methodObj (.ref g) (.ref C)) :: pins) σ H s) (r : Vals vs us) (h : sp (.ref C :: vs) H Q (E σ)) : wpAny (model X.prog X.w) X.A (call (.ref q) us) (EP X pins σ Q) X.xe s := by
  have z : wpAny (model X.prog X.w) X.A (call (.ref q) us) (EP X ((q, PySem.W.methodObj (.ref g) (.ref C)) :: pins) σ Q) X.xe s :=
    wpAny_call (PySem.W.method_call (pin_at I) (run_fnX (us := .ref C :: us) (vs := .ref C :: vs) F hr b hx I (.cons rfl r) h))
  exact thn z fun _ _ y => unpinE y
/-- C.m(..), m a classmethod that may raise -/
theorem pe_cmX {m : Str} {o e : Expr} {es : List Expr} {ta : TE} {t : TA} {pos apos : Pos} {pl : Sem Bool} (he : PE X o ta) (c : CalQ X.prog X.w X.K X.mg X.base C m k ps sp) (hr : Room k X.A) (hx : ∀ σ, PassesAt (L2.CX X.prog X.w) X σ (E σ)) (ha : PA X (e :: es) t)
    (hst : starEach (e :: es) X.env = (false, eval e X.env) :: starEach es X.env := by rfl) (hpl : (backTo pos (starEach es X.env)).any (·.1) = false := by rfl)
    (ht : eval (.Call (.Attribute o m apos) (e :: es) [] pos) X.env = (do
      let ov ← eval o X.env
      standAt apos.atName
      let (f, first) ← holding [ov] (getMethod ov m pl)
      callWith pos f first (backTo pos (starEach (e :: es) X.env)) (backToKw pos (keywordEach [] X.env))) := by rfl) :
    PE X (.Call (.Attribute o m apos) (e :: es) [] pos) (tCMethX C sp E ta t) := by
  obtain ⟨p, g, fd, F, r, c, b⟩ := c
  refine ⟨fun pins s σ H Q I h => ?_⟩
  refine PySem.W.methodCall_KW (pl := pl) (thn (he.run pins s σ H _ I h) fun u s1 ⟨x, H1, I1, rx, ex, q⟩ => ?_) ht
  subst ex
  obtain rfl : u = Value.ref C := rx
  refine getmethcm_ok I1 r c fun s2 I2 => ?_
  refine callwith_cm I2 (base_none I1 (Nat.le_refl _)) c.fi (thn (ha.run pos _ s2 σ H1 _ I2 q) fun us s3 ⟨vs, H2, I3, rv, q2⟩ => ⟨⟨pin_at I3, I3.kIn⟩, ?_⟩) hst hpl
  exact run_cmX F hr b (hx σ) I3 rv q2
/-- x(..), x a local name that holds the class at C -/
def tMakeL (i : Nat) (C : Addr) (sp : Sp) (t : TA) : TE := fun σ H Q => σ[i]? = some (some (.ref C)) ∧ tMakeC C sp t σ H Q
theorem pe_makeL {i : Nat} {x : Str} {p pos : Pos} {e : Expr} {es : List Expr} {t : TA} (c : CalI X.prog X.w X.K X.mg X.base C k ps sp) (hr : Room (k + 1) X.A) (hN : X.N[i]? = some x) (hv : Vis X.env.scope x) (ha : PA X (e :: es) t)
    (hd : (x == ("__debug__" : Str)) = false := by decide) (hcd : (x == ("__classdict__" : Str)) = false := by decide) (he : starEach (e :: es) X.env = (false, eval e X.env) :: starEach es X.env := by rfl) (hpl : (backTo pos (starEach es X.env)).any (·.1) = false := by rfl) :
    PE X (.Call (.Name x p) (e :: es) [] pos) (tMakeL i C sp t) := by
  obtain ⟨f, fd, M, F, b⟩ := c
  refine ⟨fun pins s σ H Q I h => ?_⟩
  obtain ⟨h0, h⟩ := h
  rw [← tMakeC_eq] at h
  refine wpAny_Call_Name_kw (thn ((pe_var (pos := p) (i := i) hN hv hd hcd).run pins s σ H (fun v H1 => v = .ref C ∧ H1 = H) I ⟨.ref C, h0, rfl, rfl⟩) fun u s1 ⟨v, H1, I1, r1, q1⟩ => ?_)
  obtain ⟨ev, eH⟩ := q1
  subst ev
  rw [eH] at I1
  obtain rfl : u = Value.ref C := r1
  refine PySem.W.callWith_K (h₀ := X.base) I1.ok.mod.kin M.kp (thn (ha.run pos pins s1 σ H _ I1 h) fun us s2 ⟨vs, H1, I2, r, q⟩ => ⟨I2.kIn, ?_⟩) he hpl
  exact run_make M F hr b .nil pass0 I2 r q
end
end Gx

set_option maxRecDepth 100000
set_option maxHeartbeats 4000000
namespace Kl
open PySem PySem.Spec PyProof.Rows L2 Gx
def topS (i : Nat) : Stmt := PySem.Challenge.pw_linkbooks_k24_pages_told.main.body.getD i (.Pass ⟨0, 0, 0, 0⟩)
abbrev s_wall : Stmt := topS 0
theorem sc_wall : FnScope ["k"] ["k"] (defScope s_wall) := ⟨rfl, rfl, rfl, by decide +kernel, rfl, by decide +kernel, by decide +kernel⟩
abbrev s_is_integer : Stmt := topS 12
theorem sc_is_integer : FnScope ["value"] ["value"] (defScope s_is_integer) := ⟨rfl, rfl, rfl, by decide +kernel, rfl, by decide +kernel, by decide +kernel⟩
abbrev s_is_count : Stmt := topS 13
theorem sc_is_count : FnScope ["value"] ["value"] (defScope s_is_count) := ⟨rfl, rfl, rfl, by decide +kernel, rfl, by decide +kernel, by decide +kernel⟩
abbrev s_is_name : Stmt := topS 14
theorem sc_is_name : FnScope ["value"] ["value"] (defScope s_is_name) := ⟨rfl, rfl, rfl, by decide +kernel, rfl, by decide +kernel, by decide +kernel⟩
abbrev s_is_sorted : Stmt := topS 15
theorem sc_is_sorted : FnScope ["value", "most", "name"] ["value", "most"] (defScope s_is_sorted) := ⟨rfl, rfl, rfl, by decide +kernel, rfl, by decide +kernel, by decide +kernel⟩
abbrev s_words_of : Stmt := topS 17
theorem sc_words_of : FnScope ["line"] ["line"] (defScope s_words_of) := ⟨rfl, rfl, rfl, by decide +kernel, rfl, by decide +kernel, by decide +kernel⟩
abbrev s_names_in : Stmt := topS 18
theorem sc_names_in : FnScope ["text", "most", "names"] ["text", "most"] (defScope s_names_in) := ⟨rfl, rfl, rfl, by decide +kernel, rfl, by decide +kernel, by decide +kernel⟩
abbrev s_text_of : Stmt := topS 19
theorem sc_text_of : FnScope ["names"] ["names"] (defScope s_text_of) := ⟨rfl, rfl, rfl, by decide +kernel, rfl, by decide +kernel, by decide +kernel⟩
abbrev s_is_making : Stmt := topS 23
theorem sc_is_making : FnScope ["value"] ["value"] (defScope s_is_making) := ⟨rfl, rfl, rfl, by decide +kernel, rfl, by decide +kernel, by decide +kernel⟩
abbrev s_all_names : Stmt := topS 24
theorem sc_all_names : FnScope ["leaf", "makings"] ["leaf", "makings"] (defScope s_all_names) := ⟨rfl, rfl, rfl, by decide +kernel, rfl, by decide +kernel, by decide +kernel⟩
abbrev s_are_kinds : Stmt := topS 25
theorem sc_are_kinds : FnScope ["leaf", "makings", "names", "name", "part"] ["leaf", "makings"] (defScope s_are_kinds) := ⟨rfl, rfl, rfl, by decide +kernel, rfl, by decide +kernel, by decide +kernel⟩
abbrev s_is_place : Stmt := topS 31
theorem sc_is_place : FnScope ["value"] ["value"] (defScope s_is_place) := ⟨rfl, rfl, rfl, by decide +kernel, rfl, by decide +kernel, by decide +kernel⟩
abbrev s_page_line : Stmt := topS 32
theorem sc_page_line : FnScope ["line", "words", "pool", "made"] ["line"] (defScope s_page_line) := ⟨rfl, rfl, rfl, by decide +kernel, rfl, by decide +kernel, by decide +kernel⟩
abbrev s_left : Stmt := topS 33
theorem sc_left : FnScope ["pool", "makings", "rest", "making", "part"] ["pool", "makings"] (defScope s_left) := ⟨rfl, rfl, rfl, by decide +kernel, rfl, by decide +kernel, by decide +kernel⟩
abbrev s_law_dice : Stmt := topS 36
theorem sc_law_dice : FnScope ["_law_script", "_law_spot", "_law_cell", "_law_left_here"] ["_law_script", "_law_spot"] (defScope s_law_dice) := ⟨rfl, rfl, rfl, by decide +kernel, rfl, by decide +kernel, by decide +kernel⟩
abbrev s_law_roll : Stmt := topS 37
theorem sc_law_roll : FnScope ["_law_dice_here", "_law_total", "_law_found", "_law_one", "_law_two"] ["_law_dice_here", "_law_total"] (defScope s_law_roll) := ⟨rfl, rfl, rfl, by decide +kernel, rfl, by decide +kernel, by decide +kernel⟩
abbrev s_law_pick : Stmt := topS 38
theorem sc_law_pick : FnScope ["_law_dice_here", "_law_items"] ["_law_dice_here", "_law_items"] (defScope s_law_pick) := ⟨rfl, rfl, rfl, by decide +kernel, rfl, by decide +kernel, by decide +kernel⟩
abbrev s_law_digit_text : Stmt := topS 39
theorem sc_law_digit_text : FnScope ["_law_digit_here"] ["_law_digit_here"] (defScope s_law_digit_text) := ⟨rfl, rfl, rfl, by decide +kernel, rfl, by decide +kernel, by decide +kernel⟩
abbrev s_law_digit : Stmt := topS 40
theorem sc_law_digit : FnScope ["_law_text"] ["_law_text"] (defScope s_law_digit) := ⟨rfl, rfl, rfl, by decide +kernel, rfl, by decide +kernel, by decide +kernel⟩
abbrev s_law_without : Stmt := topS 41
theorem sc_law_without : FnScope ["_law_pool", "_law_parts", "_law_left_here", "_law_part"] ["_law_pool", "_law_parts"] (defScope s_law_without) := ⟨rfl, rfl, rfl, by decide +kernel, rfl, by decide +kernel, by decide +kernel⟩
abbrev s_law_is_names : Stmt := topS 42
theorem sc_law_is_names : FnScope ["_law_value", "_law_most", "_law_name", "_law_sign"] ["_law_value", "_law_most"] (defScope s_law_is_names) := ⟨rfl, rfl, rfl, by decide +kernel, rfl, by decide +kernel, by decide +kernel⟩
abbrev s_law_page_in : Stmt := topS 43
theorem sc_law_page_in : FnScope ["_law_line", "_law_words", "_law_found"] ["_law_line"] (defScope s_law_page_in) := ⟨rfl, rfl, rfl, by decide +kernel, rfl, by decide +kernel, by decide +kernel⟩
abbrev s_law_read : Stmt := topS 44
theorem sc_law_read : FnScope ["_law_line", "_law_page", "e"] ["_law_line"] (defScope s_law_read) := ⟨rfl, rfl, rfl, by decide +kernel, rfl, by decide +kernel, by decide +kernel⟩
abbrev s_law_drawn_page : Stmt := topS 45
theorem sc_law_drawn_page : FnScope ["_law_dice_here", "_law_names", "_law_pool", "_law_made", "_law_turn"] ["_law_dice_here"] (defScope s_law_drawn_page) := ⟨rfl, rfl, rfl, by decide +kernel, rfl, by decide +kernel, by decide +kernel⟩
abbrev s_law_bent : Stmt := topS 46
theorem sc_law_bent : FnScope ["_law_dice_here", "_law_line", "_law_words", "_law_at", "_law_spot", "_law_way", "_law_sign"] ["_law_dice_here", "_law_line"] (defScope s_law_bent) := ⟨rfl, rfl, rfl, by decide +kernel, rfl, by decide +kernel, by decide +kernel⟩
abbrev s_law_line_of : Stmt := topS 47
theorem sc_law_line_of : FnScope ["_law_parts", "_law_pool", "_law_made"] ["_law_parts"] (defScope s_law_line_of) := ⟨rfl, rfl, rfl, by decide +kernel, rfl, by decide +kernel, by decide +kernel⟩
abbrev s_law_right : Stmt := topS 48
theorem sc_law_right : FnScope ["_law_dice_here", "_law_parts", "_law_other", "_law_line", "_law_page", "_law_mixed", "_law_turn", "_law_bent_here", "_law_due", "_law_at"] ["_law_dice_here"] (defScope s_law_right) := ⟨rfl, rfl, rfl, by decide +kernel, rfl, by decide +kernel, by decide +kernel⟩
abbrev s_law_left : Stmt := topS 49
theorem sc_law_left : FnScope ["_law_kinds", "_law_page"] ["_law_kinds", "_law_page"] (defScope s_law_left) := ⟨rfl, rfl, rfl, by decide +kernel, rfl, by decide +kernel, by decide +kernel⟩
abbrev s_law_left_right : Stmt := topS 50
theorem sc_law_left_right : FnScope ["_law_dice_here", "_law_makings", "_law_kinds", "_law_turn", "_law_parts", "_law_foreign", "_law_due", "_law_name", "_law_told"] ["_law_dice_here"] (defScope s_law_left_right) := ⟨rfl, rfl, rfl, by decide +kernel, rfl, by decide +kernel, by decide +kernel⟩
abbrev s_law : Stmt := topS 51
theorem sc_law : FnScope ["_law_script", "_law_spot", "_law_dice_here", "_law_turn", "_law_kinds", "_law_pages", "_law_told", "_law_page"] ["_law_script"] (defScope s_law) := ⟨rfl, rfl, rfl, by decide +kernel, rfl, by decide +kernel, by decide +kernel⟩
abbrev s_ParseError_init : Stmt := inClass (topS 6) 0
abbrev XT_ParseError (K : PySem.W.Frag) (mg : Str → Option Value) (C fI : Addr) : Prop := XTxt K mg "ParseError" "number" "ValueError.__new__" [.type "ValueError", .type "Exception", .type "BaseException", .type "object"] C fI
/-- the error ParseError as the top has made it -/
def XDef_ParseError (K : PySem.W.Frag) (mg : Str → Option Value) : Prop := ∃ (C fI : Addr) (fd : FuncData), XT_ParseError K mg C fI ∧ Fun K "__init__" "ParseError.__init__" s_ParseError_init fI fd
theorem init_ParseError {K : PySem.W.Frag} {mg : Str → Option Value} {C fI : Addr} {fd : FuncData} (T : XT_ParseError K mg C fI) (F : Fun K "__init__" "ParseError.__init__" s_ParseError_init fI fd) : InitDoes K C fI "number" := by
  intro prog w A R s x t0 v inK lim hx fresh room hq
  obtain ⟨oc, od, kV, doc, pm, an, cdv, ct, osl, rfl, lk, hcd⟩ := F.ex
  refine Att.call_fn (binds := [("self", .ref x), ("number", v)]) inK lim lk hcd room (BindsTo.of_eq (by first | rfl | with_unfolding_all rfl)) (by first | rfl | decide) (fun s₁ IC => ?_) rfl rfl rfl
  obtain ⟨h₁, tk₁, rfl⟩ := IC.toInCall.same
  have k := IC.toInCall.keep
  have hn := IC.toInCall.ns
  have inK₁ : K.In h₁ := inK.keeps k
  have hx₁ := k _ _ hx
  show wpAny _ _ (execs _ _) _ _ _
  refine wpAny_execs_cons (plainObj_wpAny_Assign_Attribute ?_)
  refine wpAny_Name (wpAny_loadName_local (v := v) (by rfl) (by rfl) hn (by first | rfl | with_unfolding_all rfl | kernel_rfl) ?_) (by decide)
  refine wpAny_Name (wpAny_loadName_local (v := .ref x) (by rfl) (by rfl) hn (by first | rfl | with_unfolding_all rfl | kernel_rfl) ?_) (by decide)
  refine PySem.W.set_plain inK₁ (ox := PySem.W.excObj C t0 none .none) (od := none) ⟨hx₁, rfl, rfl, trivial⟩ T.sa ?_
  refine exc_storeX PySem.F.store_ValueError inK₁ hx₁ T.over T.tak T.hdC (fun h₃ tk₃ dx k₃ dn dne hx₃ hn₃ => ?_)
  show wpAny _ _ (execs _ _) _ _ _
  exact wpAny_execs_nil (hq h₃ tk₃ dx ⟨fun b o hb e => k₃ b o hb (k b o e), hx₃, Nat.le_of_lt (Nat.lt_of_lt_of_le hn.lt dn), dne, hn₃⟩)
abbrev s_UnknownName_init : Stmt := inClass (topS 7) 0
abbrev XT_UnknownName (K : PySem.W.Frag) (mg : Str → Option Value) (C fI : Addr) : Prop := XTxt K mg "UnknownName" "word" "LookupError.__new__" [.type "KeyError", .type "LookupError", .type "Exception", .type "BaseException", .type "object"] C fI
/-- the error UnknownName as the top has made it -/
def XDef_UnknownName (K : PySem.W.Frag) (mg : Str → Option Value) : Prop := ∃ (C fI : Addr) (fd : FuncData), XT_UnknownName K mg C fI ∧ Fun K "__init__" "UnknownName.__init__" s_UnknownName_init fI fd
theorem init_UnknownName {K : PySem.W.Frag} {mg : Str → Option Value} {C fI : Addr} {fd : FuncData} (T : XT_UnknownName K mg C fI) (F : Fun K "__init__" "UnknownName.__init__" s_UnknownName_init fI fd) : InitDoes K C fI "word" := by
  intro prog w A R s x t0 v inK lim hx fresh room hq
  obtain ⟨oc, od, kV, doc, pm, an, cdv, ct, osl, rfl, lk, hcd⟩ := F.ex
  refine Att.call_fn (binds := [("self", .ref x), ("word", v)]) inK lim lk hcd room (BindsTo.of_eq (by first | rfl | with_unfolding_all rfl)) (by first | rfl | decide) (fun s₁ IC => ?_) rfl rfl rfl
  obtain ⟨h₁, tk₁, rfl⟩ := IC.toInCall.same
  have k := IC.toInCall.keep
  have hn := IC.toInCall.ns
  have inK₁ : K.In h₁ := inK.keeps k
  have hx₁ := k _ _ hx
  show wpAny _ _ (execs _ _) _ _ _
  refine wpAny_execs_cons (plainObj_wpAny_Assign_Attribute ?_)
  refine wpAny_Name (wpAny_loadName_local (v := v) (by rfl) (by rfl) hn (by first | rfl | with_unfolding_all rfl | kernel_rfl) ?_) (by decide)
  refine wpAny_Name (wpAny_loadName_local (v := .ref x) (by rfl) (by rfl) hn (by first | rfl | with_unfolding_all rfl | kernel_rfl) ?_) (by decide)
  refine PySem.W.set_plain inK₁ (ox := PySem.W.excObj C t0 none .none) (od := none) ⟨hx₁, rfl, rfl, trivial⟩ T.sa ?_
  refine exc_storeX Gx.store_KeyErr inK₁ hx₁ T.over T.tak T.hdC (fun h₃ tk₃ dx k₃ dn dne hx₃ hn₃ => ?_)
  show wpAny _ _ (execs _ _) _ _ _
  exact wpAny_execs_nil (hq h₃ tk₃ dx ⟨fun b o hb e => k₃ b o hb (k b o e), hx₃, Nat.le_of_lt (Nat.lt_of_lt_of_le hn.lt dn), dne, hn₃⟩)
abbrev s_InvalidNumber_init : Stmt := inClass (topS 8) 0
abbrev XT_InvalidNumber (K : PySem.W.Frag) (mg : Str → Option Value) (C fI : Addr) : Prop := XTxt K mg "InvalidNumber" "value" "IndexError.__new__" [.type "IndexError", .type "LookupError", .type "Exception", .type "BaseException", .type "object"] C fI
/-- the error InvalidNumber as the top has made it -/
def XDef_InvalidNumber (K : PySem.W.Frag) (mg : Str → Option Value) : Prop := ∃ (C fI : Addr) (fd : FuncData), XT_InvalidNumber K mg C fI ∧ Fun K "__init__" "InvalidNumber.__init__" s_InvalidNumber_init fI fd
theorem init_InvalidNumber {K : PySem.W.Frag} {mg : Str → Option Value} {C fI : Addr} {fd : FuncData} (T : XT_InvalidNumber K mg C fI) (F : Fun K "__init__" "InvalidNumber.__init__" s_InvalidNumber_init fI fd) : InitDoes K C fI "value" := by
  intro prog w A R s x t0 v inK lim hx fresh room hq
  obtain ⟨oc, od, kV, doc, pm, an, cdv, ct, osl, rfl, lk, hcd⟩ := F.ex
  refine Att.call_fn (binds := [("self", .ref x), ("value", v)]) inK lim lk hcd room (BindsTo.of_eq (by first | rfl | with_unfolding_all rfl)) (by first | rfl | decide) (fun s₁ IC => ?_) rfl rfl rfl
  obtain ⟨h₁, tk₁, rfl⟩ := IC.toInCall.same
  have k := IC.toInCall.keep
  have hn := IC.toInCall.ns
  have inK₁ : K.In h₁ := inK.keeps k
  have hx₁ := k _ _ hx
  show wpAny _ _ (execs _ _) _ _ _
  refine wpAny_execs_cons (plainObj_wpAny_Assign_Attribute ?_)
  refine wpAny_Name (wpAny_loadName_local (v := v) (by rfl) (by rfl) hn (by first | rfl | with_unfolding_all rfl | kernel_rfl) ?_) (by decide)
  refine wpAny_Name (wpAny_loadName_local (v := .ref x) (by rfl) (by rfl) hn (by first | rfl | with_unfolding_all rfl | kernel_rfl) ?_) (by decide)
  refine PySem.W.set_plain inK₁ (ox := PySem.W.excObj C t0 none .none) (od := none) ⟨hx₁, rfl, rfl, trivial⟩ T.sa ?_
  refine exc_storeX PySem.F.store_IndexError inK₁ hx₁ T.over T.tak T.hdC (fun h₃ tk₃ dx k₃ dn dne hx₃ hn₃ => ?_)
  show wpAny _ _ (execs _ _) _ _ _
  exact wpAny_execs_nil (hq h₃ tk₃ dx ⟨fun b o hb e => k₃ b o hb (k b o e), hx₃, Nat.le_of_lt (Nat.lt_of_lt_of_le hn.lt dn), dne, hn₃⟩)
abbrev s_Kinds_init : Stmt := inClass (topS 26) 0
theorem sc_Kinds_init : FnScope ["self", "leaf", "makings", "name"] ["self", "leaf", "makings"] (defScope s_Kinds_init) := ⟨rfl, rfl, rfl, by decide +kernel, rfl, by decide +kernel, by decide +kernel⟩
abbrev s_Kinds_leaf : Stmt := inClass (topS 26) 2
theorem sc_Kinds_leaf : FnScope ["self"] ["self"] (defScope s_Kinds_leaf) := ⟨rfl, rfl, rfl, by decide +kernel, rfl, by decide +kernel, by decide +kernel⟩
abbrev s_Kinds_makings : Stmt := inClass (topS 26) 3
theorem sc_Kinds_makings : FnScope ["self"] ["self"] (defScope s_Kinds_makings) := ⟨rfl, rfl, rfl, by decide +kernel, rfl, by decide +kernel, by decide +kernel⟩
abbrev s_Kinds_names : Stmt := inClass (topS 26) 4
theorem sc_Kinds_names : FnScope ["self"] ["self"] (defScope s_Kinds_names) := ⟨rfl, rfl, rfl, by decide +kernel, rfl, by decide +kernel, by decide +kernel⟩
abbrev s_Kinds_contains : Stmt := inClass (topS 26) 9
theorem sc_Kinds_contains : FnScope ["self", "value"] ["self", "value"] (defScope s_Kinds_contains) := ⟨rfl, rfl, rfl, by decide +kernel, rfl, by decide +kernel, by decide +kernel⟩
abbrev s_Kinds_getitem : Stmt := inClass (topS 26) 10
theorem sc_Kinds_getitem : FnScope ["self", "name"] ["self", "name"] (defScope s_Kinds_getitem) := ⟨rfl, rfl, rfl, by decide +kernel, rfl, by decide +kernel, by decide +kernel⟩
abbrev s_Kinds_len : Stmt := inClass (topS 26) 12
theorem sc_Kinds_len : FnScope ["self"] ["self"] (defScope s_Kinds_len) := ⟨rfl, rfl, rfl, by decide +kernel, rfl, by decide +kernel, by decide +kernel⟩
abbrev s_Kinds_eq : Stmt := inClass (topS 26) 13
theorem sc_Kinds_eq : FnScope ["self", "other"] ["self", "other"] (defScope s_Kinds_eq) := ⟨rfl, rfl, rfl, by decide +kernel, rfl, by decide +kernel, by decide +kernel⟩
abbrev s_Kinds_str : Stmt := inClass (topS 26) 14
theorem sc_Kinds_str : FnScope ["self"] ["self"] (defScope s_Kinds_str) := ⟨rfl, rfl, rfl, by decide +kernel, rfl, by decide +kernel, by decide +kernel⟩
/-- the class Kinds as the top has made it -/
structure Cl_Kinds (K : PySem.W.Frag) (mg : Str → Option Value) (C : Addr) : Prop where
  gC : mg "Kinds" = some (.ref C)
  cl : Cls K C
  n_leaf : NoAttr K C "_leaf"
  n_makings : NoAttr K C "_makings"
  n_names : NoAttr K C "_names"
  made : ∃ f fd, Mk K C f ∧ Fun K "__init__" "Kinds.__init__" s_Kinds_init f fd ∧ Binds K fd ["self", "leaf", "makings"] []
  p_leaf : PropD K C "leaf" "Kinds.leaf" s_Kinds_leaf
  p_makings : PropD K C "makings" "Kinds.makings" s_Kinds_makings
  p_names : PropD K C "names" "Kinds.names" s_Kinds_names
  m_contains : DefM K C "__contains__" "Kinds.__contains__" s_Kinds_contains ["self", "value"]
  m_getitem : DefM K C "__getitem__" "Kinds.__getitem__" s_Kinds_getitem ["self", "name"]
  m_len : DefM K C "__len__" "Kinds.__len__" s_Kinds_len ["self"]
  m_eq : DefM K C "__eq__" "Kinds.__eq__" s_Kinds_eq ["self", "other"]
  m_str : DefM K C "__str__" "Kinds.__str__" s_Kinds_str ["self"]
  ne : PySem.W.findIn K (.ref C) "__ne__" = some (some (.builtin "object.__ne__"))
  ob : PySem.W.mroIn K C (.type "object") = some true
  kit : PySem.W.kitOne K (.ref C) (.ref C) = some true
  kitT : PySem.W.kitOne K (.type "tuple") (.ref C) = some false
  kitD : PySem.W.kitOne K (.type "dict") (.ref C) = some false
  kitR : PySem.W.kitOne K (.ref C) (.type "tuple") = some false
  kitS : PySem.W.kitOne K (.ref C) (.type "str") = some false
  kit_NoneType : PySem.W.kitOne K (.type "NoneType") (.ref C) = some false
  kit_int : PySem.W.kitOne K (.type "int") (.ref C) = some false
  kit_bool : PySem.W.kitOne K (.type "bool") (.ref C) = some false
  kit_str : PySem.W.kitOne K (.type "str") (.ref C) = some false
  kit_list : PySem.W.kitOne K (.type "list") (.ref C) = some false
  ca : PySem.W.findIn K (.ref C) "__class__" = some (some (.builtin "object.__class__"))
  cg : PySem.W.specialIn K (.builtin "object.__class__") "__get__" = some (some (.builtin "getset_descriptor.__get__"))
  ct : PySem.W.takesIn K (.builtin "object.__class__") = some true
abbrev s_Page_init : Stmt := inClass (topS 34) 0
theorem sc_Page_init : FnScope ["self", "note", "pool", "made", "after"] ["self", "note", "pool", "made", "after"] (defScope s_Page_init) := ⟨rfl, rfl, rfl, by decide +kernel, rfl, by decide +kernel, by decide +kernel⟩
abbrev s_Page_from_line : Stmt := inClass (topS 34) 1
theorem sc_Page_from_line : FnScope ["cls", "line", "told"] ["cls", "line"] (defScope s_Page_from_line) := ⟨rfl, rfl, rfl, by decide +kernel, rfl, by decide +kernel, by decide +kernel⟩
abbrev s_Page_note : Stmt := inClass (topS 34) 2
theorem sc_Page_note : FnScope ["self"] ["self"] (defScope s_Page_note) := ⟨rfl, rfl, rfl, by decide +kernel, rfl, by decide +kernel, by decide +kernel⟩
abbrev s_Page_pool : Stmt := inClass (topS 34) 3
theorem sc_Page_pool : FnScope ["self"] ["self"] (defScope s_Page_pool) := ⟨rfl, rfl, rfl, by decide +kernel, rfl, by decide +kernel, by decide +kernel⟩
abbrev s_Page_made : Stmt := inClass (topS 34) 4
theorem sc_Page_made : FnScope ["self"] ["self"] (defScope s_Page_made) := ⟨rfl, rfl, rfl, by decide +kernel, rfl, by decide +kernel, by decide +kernel⟩
abbrev s_Page_after : Stmt := inClass (topS 34) 5
theorem sc_Page_after : FnScope ["self"] ["self"] (defScope s_Page_after) := ⟨rfl, rfl, rfl, by decide +kernel, rfl, by decide +kernel, by decide +kernel⟩
abbrev s_Page_line : Stmt := inClass (topS 34) 6
theorem sc_Page_line : FnScope ["self"] ["self"] (defScope s_Page_line) := ⟨rfl, rfl, rfl, by decide +kernel, rfl, by decide +kernel, by decide +kernel⟩
abbrev s_Page_place : Stmt := inClass (topS 34) 7
theorem sc_Page_place : FnScope ["self"] ["self"] (defScope s_Page_place) := ⟨rfl, rfl, rfl, by decide +kernel, rfl, by decide +kernel, by decide +kernel⟩
abbrev s_Page_left : Stmt := inClass (topS 34) 8
theorem sc_Page_left : FnScope ["self", "kinds", "rest", "name"] ["self", "kinds"] (defScope s_Page_left) := ⟨rfl, rfl, rfl, by decide +kernel, rfl, by decide +kernel, by decide +kernel⟩
abbrev s_Page_len : Stmt := inClass (topS 34) 9
theorem sc_Page_len : FnScope ["self"] ["self"] (defScope s_Page_len) := ⟨rfl, rfl, rfl, by decide +kernel, rfl, by decide +kernel, by decide +kernel⟩
abbrev s_Page_eq : Stmt := inClass (topS 34) 10
theorem sc_Page_eq : FnScope ["self", "other"] ["self", "other"] (defScope s_Page_eq) := ⟨rfl, rfl, rfl, by decide +kernel, rfl, by decide +kernel, by decide +kernel⟩
abbrev s_Page_str : Stmt := inClass (topS 34) 11
theorem sc_Page_str : FnScope ["self"] ["self"] (defScope s_Page_str) := ⟨rfl, rfl, rfl, by decide +kernel, rfl, by decide +kernel, by decide +kernel⟩
/-- the class Page as the top has made it -/
structure Cl_Page (K : PySem.W.Frag) (mg : Str → Option Value) (C : Addr) : Prop where
  gC : mg "Page" = some (.ref C)
  cl : Cls K C
  n_note : NoAttr K C "_note"
  n_pool : NoAttr K C "_pool"
  n_made : NoAttr K C "_made"
  n_after : NoAttr K C "_after"
  made : ∃ f fd, Mk K C f ∧ Fun K "__init__" "Page.__init__" s_Page_init f fd ∧ Binds K fd ["self", "note", "pool", "made", "after"] []
  p_note : PropD K C "note" "Page.note" s_Page_note
  p_pool : PropD K C "pool" "Page.pool" s_Page_pool
  p_made : PropD K C "made" "Page.made" s_Page_made
  p_after : PropD K C "after" "Page.after" s_Page_after
  p_line : PropD K C "line" "Page.line" s_Page_line
  p_place : PropD K C "place" "Page.place" s_Page_place
  m_left : DefM K C "left" "Page.left" s_Page_left ["self", "kinds"]
  m_len : DefM K C "__len__" "Page.__len__" s_Page_len ["self"]
  m_eq : DefM K C "__eq__" "Page.__eq__" s_Page_eq ["self", "other"]
  m_str : DefM K C "__str__" "Page.__str__" s_Page_str ["self"]
  k_from_line : ClsMd K C "from_line" "Page.from_line" s_Page_from_line ["cls", "line"]
  ne : PySem.W.findIn K (.ref C) "__ne__" = some (some (.builtin "object.__ne__"))
  ob : PySem.W.mroIn K C (.type "object") = some true
  kit : PySem.W.kitOne K (.ref C) (.ref C) = some true
  kitT : PySem.W.kitOne K (.type "tuple") (.ref C) = some false
  kitD : PySem.W.kitOne K (.type "dict") (.ref C) = some false
  kitR : PySem.W.kitOne K (.ref C) (.type "tuple") = some false
  kitS : PySem.W.kitOne K (.ref C) (.type "str") = some false
  kit_NoneType : PySem.W.kitOne K (.type "NoneType") (.ref C) = some false
  kit_int : PySem.W.kitOne K (.type "int") (.ref C) = some false
  kit_bool : PySem.W.kitOne K (.type "bool") (.ref C) = some false
  kit_str : PySem.W.kitOne K (.type "str") (.ref C) = some false
  kit_list : PySem.W.kitOne K (.type "list") (.ref C) = some false
  ca : PySem.W.findIn K (.ref C) "__class__" = some (some (.builtin "object.__class__"))
  cg : PySem.W.specialIn K (.builtin "object.__class__") "__get__" = some (some (.builtin "getset_descriptor.__get__"))
  ct : PySem.W.takesIn K (.builtin "object.__class__") = some true
/-- what the walk asks of the top -/
structure Top (K : PySem.W.Frag) (mg : Str → Option Value) : Prop where
  b_IndexError : mg "IndexError" = none
  b_KeyError : mg "KeyError" = none
  b_TypeError : mg "TypeError" = none
  b_ValueError : mg "ValueError" = none
  b_abs : mg "abs" = none
  b_all : mg "all" = none
  b_bool : mg "bool" = none
  b_classmethod : mg "classmethod" = none
  b_dict : mg "dict" = none
  b_int : mg "int" = none
  b_isinstance : mg "isinstance" = none
  b_len : mg "len" = none
  b_list : mg "list" = none
  b_max : mg "max" = none
  b_min : mg "min" = none
  b_property : mg "property" = none
  b_range : mg "range" = none
  b_repr : mg "repr" = none
  b_set : mg "set" = none
  b_sorted : mg "sorted" = none
  b_str : mg "str" = none
  b_tuple : mg "tuple" = none
  g_MAX_LETTERS : ∃ t, mg "MAX_LETTERS" = some (.int 8 t)
  g__TOO_LONG : ∃ t, mg "_TOO_LONG" = some (.int 1000000000000000000000000000000000000000000000000000000000000 t)
  g_MAX_KINDS : ∃ t, mg "MAX_KINDS" = some (.int 6 t)
  g_MAX_PARTS : ∃ t, mg "MAX_PARTS" = some (.int 3 t)
  g_MAX_POOL : ∃ t, mg "MAX_POOL" = some (.int 8 t)
  g_MAX_MADE : ∃ t, mg "MAX_MADE" = some (.int 2 t)
  t__SIGNS : ∃ (a : Addr) (o : Obj) (its : Array Value) (n : Nat), mg "_SIGNS" = some (.ref a) ∧ K.lookup a = some o ∧ o.cls = .type "tuple" ∧ o.data = .seq its n ∧ its.size ≤ sizeLine ∧ Vals [V.str "page", V.str "to", V.str "then"] its.toList
  d_wall : Def K mg "_wall" "_wall" s_wall ["k"]
  d_is_integer : Def K mg "is_integer" "is_integer" s_is_integer ["value"]
  d_is_count : Def K mg "is_count" "is_count" s_is_count ["value"]
  d_is_name : Def K mg "is_name" "is_name" s_is_name ["value"]
  d_is_sorted : DefK K mg "is_sorted" "is_sorted" s_is_sorted ["value", "most"] 1 ["most"]
  d_words_of : Def K mg "words_of" "words_of" s_words_of ["line"]
  d_names_in : DefK K mg "names_in" "names_in" s_names_in ["text", "most"] 1 ["most"]
  d_text_of : Def K mg "text_of" "text_of" s_text_of ["names"]
  d_is_making : Def K mg "_is_making" "_is_making" s_is_making ["value"]
  d_all_names : Def K mg "_all_names" "_all_names" s_all_names ["leaf", "makings"]
  d_are_kinds : Def K mg "_are_kinds" "_are_kinds" s_are_kinds ["leaf", "makings"]
  d_is_place : Def K mg "_is_place" "_is_place" s_is_place ["value"]
  d_page_line : Def K mg "page_line" "page_line" s_page_line ["line"]
  d_left : Def K mg "_left" "_left" s_left ["pool", "makings"]
  d_law_dice : Def K mg "_law_dice" "_law_dice" s_law_dice ["_law_script", "_law_spot"]
  d_law_roll : Def K mg "_law_roll" "_law_roll" s_law_roll ["_law_dice_here", "_law_total"]
  d_law_pick : Def K mg "_law_pick" "_law_pick" s_law_pick ["_law_dice_here", "_law_items"]
  d_law_digit_text : Def K mg "_law_digit_text" "_law_digit_text" s_law_digit_text ["_law_digit_here"]
  d_law_digit : Def K mg "_law_digit" "_law_digit" s_law_digit ["_law_text"]
  d_law_without : Def K mg "_law_without" "_law_without" s_law_without ["_law_pool", "_law_parts"]
  d_law_is_names : Def K mg "_law_is_names" "_law_is_names" s_law_is_names ["_law_value", "_law_most"]
  d_law_page_in : Def K mg "_law_page_in" "_law_page_in" s_law_page_in ["_law_line"]
  d_law_read : Def K mg "_law_read" "_law_read" s_law_read ["_law_line"]
  d_law_drawn_page : Def K mg "_law_drawn_page" "_law_drawn_page" s_law_drawn_page ["_law_dice_here"]
  d_law_bent : Def K mg "_law_bent" "_law_bent" s_law_bent ["_law_dice_here", "_law_line"]
  d_law_line_of : Def K mg "_law_line_of" "_law_line_of" s_law_line_of ["_law_parts"]
  d_law_right : Def K mg "_law_right" "_law_right" s_law_right ["_law_dice_here"]
  d_law_left : Def K mg "_law_left" "_law_left" s_law_left ["_law_kinds", "_law_page"]
  d_law_left_right : Def K mg "_law_left_right" "_law_left_right" s_law_left_right ["_law_dice_here"]
  c_Kinds : ∃ C, Cl_Kinds K mg C
  c_Page : ∃ C, Cl_Page K mg C
  p_InvalidPage : ∃ C, XPln K mg "InvalidPage" "ValueError.__new__" "ValueError.__init__" [.type "ValueError", .type "Exception", .type "BaseException", .type "object"] C ∧ XCls K C ∧ PySem.W.exmOne K (.ref C) (.ref C) = some true
  p_InvalidOperation : ∃ C, XPln K mg "InvalidOperation" "ValueError.__new__" "ValueError.__init__" [.type "ValueError", .type "Exception", .type "BaseException", .type "object"] C ∧ XCls K C ∧ PySem.W.exmOne K (.ref C) (.ref C) = some true
  p_InvalidKinds : ∃ C, XPln K mg "InvalidKinds" "ValueError.__new__" "ValueError.__init__" [.type "ValueError", .type "Exception", .type "BaseException", .type "object"] C ∧ XCls K C ∧ PySem.W.exmOne K (.ref C) (.ref C) = some true
  x_ParseError : XDef_ParseError K mg
  x_UnknownName : XDef_UnknownName K mg
  x_InvalidNumber : XDef_InvalidNumber K mg
end Kl

set_option maxRecDepth 100000
set_option maxHeartbeats 4000000
namespace Kl
open PySem PySem.Spec PyProof.Rows L2 Gx Mx
section
variable {P : Program} {w : World} {K : PySem.W.Frag} {mg : Str → Option Value} {base : Heap}
/-! ### kinds of values -/
theorem tyx_same {H H' : Hp} (sm : Same H H') {v : V} {t : Value} (h : TyX K H v t) : TyX K H' v t := by
  cases h with
  | base b =>
    cases b with
    | non => exact .base .non
    | bl x => exact .base (.bl x)
    | int i => exact .base (.int i)
    | str x => exact .base (.str x)
    | flt x => exact .base (.flt x)
    | lst e => exact .base (.lst (sm _ _ e))
    | frz e => exact .base (.frz (sm _ _ e))
    | tup e => exact .base (.tup (sm _ _ e))
    | dK e => exact .base (.dK (sm _ _ e))
    | dT e => exact .base (.dT (sm _ _ e))
    | ins e cl ha hn htk hm => exact .base (.ins (sm _ _ e) cl ha hn htk hm)
  | byt b => exact .byt b
  | set e => exact .set (sm _ _ e)
  | kList e c => exact .kList e c
  | kTuple e c => exact .kTuple e c
  | kDict e c => exact .kDict e c
  | fTuple e => exact .fTuple (sm _ _ e)
  | fDict e => exact .fDict (sm _ _ e)
/-- the value is no instance of this built-in class -/
def Not (K : PySem.W.Frag) (H : Hp) (v : V) (T : String) : Prop := ∃ t, TyX K H v t ∧ PySem.W.kitOne K t (.type T) = some false
theorem Not.same {H H' : Hp} (sm : Same H H') {v : V} {T : String} (h : Not K H v T) : Not K H' v T := by
  obtain ⟨t, a, b⟩ := h
  exact ⟨t, tyx_same sm a, b⟩
/-- text, or not -/
def NameArg (K : PySem.W.Frag) (H : Hp) (v : V) : Prop := (∃ z : Str, v = .str z ∧ z.length ≤ sizeLine) ∨ ((∀ z, v ≠ .str z) ∧ Not K H v "str")
theorem NameArg.same {H H' : Hp} (sm : Same H H') {v : V} (h : NameArg K H v) : NameArg K H' v := by
  rcases h with h | ⟨a, b⟩
  · exact .inl h
  · exact .inr ⟨a, b.same sm⟩
/-- int, truth, or neither -/
def IntArg (K : PySem.W.Frag) (H : Hp) (v : V) : Prop := (∃ i, v = .int i) ∨ (∃ b, v = .bl b) ∨ ((∀ i, v ≠ .int i) ∧ Not K H v "int")
theorem IntArg.same {H H' : Hp} (sm : Same H H') {v : V} (h : IntArg K H v) : IntArg K H' v := by
  rcases h with h | h | ⟨a, b⟩
  · exact .inl h
  · exact .inr (.inl h)
  · exact .inr (.inr ⟨a, b.same sm⟩)
/-! ### is_integer, is_count -/
def TEN60 : Int := 1000000000000000000000000000000000000000000000000000000000000
def intV : V → Bool
  | .int i => decide (-TEN60 < i) && decide (i < TEN60)
  | _ => false
def cntV : V → Bool
  | .int i => (decide (-TEN60 < i) && decide (i < TEN60)) && decide (0 ≤ i)
  | _ => false
def spInt (K : PySem.W.Frag) : Sp := fun vs H Q _ => ∃ v : V, vs = [v] ∧ IntArg K H v ∧ Q (.bl (intV v)) H
theorem ok_int {f : Addr} {fd : FuncData} (F : Fun K "is_integer" "is_integer" s_is_integer f fd) (T : Top K mg) : FnOk P w K mg base CX0 1 f fd ["value"] (spInt K) := by
  obtain ⟨tm, gm⟩ := T.g__TOO_LONG
  refine F.ok sc_is_integer (fun vs H Q E h => ?_) (fun cdv A outer s H vs Q E hr h => ?_)
  · obtain ⟨v, rfl, _⟩ := h
    rfl
  · obtain ⟨v, rfl, hv, q⟩ := h
    refine ⟨_, pss_cons (ps_if (PW.pt (pw_or (pt_not (pt_val (pe_callB call_isi (by rfl) T.b_isinstance (by decide +kernel) (pa_cons (pv 0) (pa_cons (pe_bltn (v := .ty "int") (by rfl) T.b_int (by decide +kernel) rfl) pa_nil)))))
          (pw_or1 (pt_val (pe_callB call_isi (by rfl) T.b_isinstance (by decide +kernel) (pa_cons (pv 0) (pa_cons (pe_bltn (v := .ty "bool") (by rfl) T.b_bool (by decide +kernel) rfl) pa_nil)))))))
        (pss_one (ps_ret pe_bl)) pss_nil)
      (pss_one (ps_ret (pe_chain op_lt op_lt (pe_un un_neg (pe_glob (v := .int TEN60) (by rfl) gm ⟨_, rfl⟩)) (pv 0) (pe_glob (v := .int TEN60) (by rfl) gm ⟨_, rfl⟩)))), ?_⟩
    rcases hv with ⟨i, rfl⟩ | ⟨b, rfl⟩ | ⟨hn, t, ht, hk⟩
    · refine ⟨_, rfl, _, .ty "int", .type "int", .type "int", true, rfl, .ty _, .base (.int i), kit_ty (by decide +kernel), true, rfl, ?_⟩
      refine ⟨_, rfl, _, .ty "bool", .type "int", .type "bool", false, rfl, .ty _, .base (.int i), kit_ty (by decide +kernel), false, rfl, ?_⟩
      refine ⟨_, rfl, _, rfl, _, _, rfl, rfl, _, rfl, ?_⟩
      have q' : Q (.bl (decide (-TEN60 < i) && decide (i < TEN60))) H := q
      cases e : decide (-TEN60 < i) with
      | false =>
        rw [e] at q'
        exact q'
      | true =>
        rw [e] at q'
        exact ⟨_, _, rfl, rfl, q'⟩
    · refine ⟨_, rfl, _, .ty "int", .type "bool", .type "int", true, rfl, .ty _, .base (.bl b), kit_ty (by decide +kernel), true, rfl, ?_⟩
      exact ⟨_, rfl, _, .ty "bool", .type "bool", .type "bool", true, rfl, .ty _, .base (.bl b), kit_ty (by decide +kernel), true, rfl, q⟩
    · refine ⟨_, rfl, _, .ty "int", t, .type "int", false, rfl, .ty _, ht, hk, false, rfl, ?_⟩
      have e : intV v = false := by
        cases v with
        | int i => exact absurd rfl (hn i)
        | _ => rfl
      rw [e] at q
      exact q
def spCnt (K : PySem.W.Frag) : Sp := fun vs H Q _ => ∃ v : V, vs = [v] ∧ IntArg K H v ∧ Q (.bl (cntV v)) H
theorem ok_cnt {f : Addr} {fd : FuncData} (F : Fun K "is_count" "is_count" s_is_count f fd) (T : Top K mg) : FnOk P w K mg base CX0 2 f fd ["value"] (spCnt K) := by
  have ci : Cal P w K mg base 1 "is_integer" ["value"] (spInt K) := T.d_is_integer.cal fun f fd F => ok_int F T
  refine F.ok sc_is_count (fun vs H Q E h => ?_) (fun cdv A outer s H vs Q E hr h => ?_)
  · obtain ⟨v, rfl, _⟩ := h
    rfl
  · obtain ⟨v, rfl, hv, q⟩ := h
    refine ⟨_, pss_one (ps_ret (pe_and (pe_cal ci hr (by rfl) (pa_cons (pv 0) pa_nil)) (pe_one (pe_cmpR op_ge (pv 0) pe_int (nomark _))))), ?_⟩
    refine ⟨_, rfl, v, rfl, hv, _, rfl, ?_⟩
    cases v with
    | int i =>
      have q' : Q (.bl (intV (.int i) && decide (0 ≤ i))) H := q
      cases e : intV (.int i) with
      | false =>
        rw [e] at q'
        exact q'
      | true =>
        rw [e] at q'
        exact ⟨_, rfl, _, _, rfl, rfl, q'⟩
    | _ => exact q
/-! ### is_name -/
def nameV : V → Bool
  | .str z => nameB z
  | _ => false
def spName (K : PySem.W.Frag) : Sp := fun vs H Q _ => ∃ v : V, vs = [v] ∧ NameArg K H v ∧ Q (.bl (nameV v)) H
theorem nameV_no {v : V} (h : ∀ z, v ≠ .str z) : nameV v = false := by
  cases v with
  | str z => exact absurd rfl (h z)
  | _ => rfl
theorem ok_name {f : Addr} {fd : FuncData} (F : Fun K "is_name" "is_name" s_is_name f fd) (T : Top K mg) : FnOk P w K mg base CX0 1 f fd ["value"] (spName K) := by
  obtain ⟨tm, gm⟩ := T.g_MAX_LETTERS
  refine F.ok sc_is_name (fun vs H Q E h => ?_) (fun cdv A outer s H vs Q E hr h => ?_)
  · obtain ⟨v, rfl, _⟩ := h
    rfl
  · obtain ⟨v, rfl, hv, q⟩ := h
    refine ⟨_, pss_cons (ps_if (PW.pt (pw_or (pt_not (pt_val (pe_callB call_isi (by rfl) T.b_isinstance (by decide +kernel) (pa_cons (pv 0) (pa_cons (pe_bltn (v := .ty "str") (by rfl) T.b_str (by decide +kernel) rfl) pa_nil)))))
          (pw_or1 (pt_not (pt_chain op_le op_le pe_int (pe_callB call_len_str (by rfl) T.b_len PySem.boot_len (pa_cons (pv 0) pa_nil)) (pe_glob (v := .int 8) (by rfl) gm ⟨_, rfl⟩))))))
        (pss_one (ps_ret pe_bl)) pss_nil)
      (pss_one (ps_ret (pe_and (pe_m0 PySem.F.slot_str_isascii PySem.F.type_str_isascii mt_isascii (pv 0))
        (pe_and (pe_m0 PySem.F.slot_str_isalpha PySem.F.type_str_isalpha mt_isalpha (pv 0)) (pe_one (pe_m0 PySem.F.slot_str_islower PySem.F.type_str_islower mt_islower (pv 0))))))), ?_⟩
    rcases hv with ⟨z, rfl, hz⟩ | ⟨hn, t, ht, hk⟩
    · have q' : Q (.bl (nameB z)) H := q
      refine ⟨_, rfl, _, .ty "str", .type "str", .type "str", true, rfl, .ty _, .base (.str z), kit_ty (by decide +kernel), true, rfl, ?_⟩
      refine ⟨_, rfl, _, rfl, hz, _, _, rfl, rfl, _, rfl, ite2 (fun e1 => ?_) (fun e1 => ?_)⟩
      · have h1 : 1 ≤ z.cps.size := by
          have e2 : (1 : Int) ≤ (z.length : Int) := of_decide_eq_true e1
          have e3 : z.length = z.cps.size := rfl
          omega
        refine ⟨_, _, rfl, rfl, _, rfl, ?_⟩
        have e3 : decide ((z.length : Int) ≤ 8) = decide (z.cps.size ≤ 8) := decide_eq_decide.mpr (by
          have e3 : z.length = z.cps.size := rfl
          omega)
        by_cases h8 : z.cps.size ≤ 8
        · have e4 : decide ((z.length : Int) ≤ 8) = true := e3.trans (decide_eq_true h8)
          rw [e4]
          have e5 : nameB z = (Txt.isascii z && (Txt.isalpha z && Txt.islower z)) := by
            rw [name_by z h1]
            unfold nameB
            rw [decide_eq_true h1, decide_eq_true h8, Bool.true_and, Bool.true_and]
          rw [e5] at q'
          refine ⟨_, rfl, ⟨_, rfl⟩, z, rfl, rfl, trivial, _, rfl, ?_⟩
          cases a1 : Txt.isascii z with
          | false =>
            rw [a1] at q'
            exact q'
          | true =>
            rw [a1] at q'
            refine ⟨_, rfl, ⟨_, rfl⟩, z, rfl, rfl, trivial, _, rfl, ?_⟩
            cases a2 : Txt.isalpha z with
            | false =>
              rw [a2] at q'
              exact q'
            | true =>
              rw [a2] at q'
              exact ⟨_, rfl, ⟨_, rfl⟩, z, rfl, rfl, trivial, q'⟩
        · have e4 : decide ((z.length : Int) ≤ 8) = false := e3.trans (decide_eq_false h8)
          rw [e4]
          show Q (.bl false) H
          have e5 : nameB z = false := by
            unfold nameB
            rw [decide_eq_false h8, Bool.and_false, Bool.false_and]
          rw [← e5]
          exact q'
      · have h1 : ¬ 1 ≤ z.cps.size := fun h => e1 (decide_eq_true (by
          have e3 : z.length = z.cps.size := rfl
          omega))
        refine ⟨_, rfl, ?_⟩
        show Q (.bl false) H
        have e5 : nameB z = false := by
          unfold nameB
          rw [decide_eq_false h1, Bool.false_and, Bool.false_and]
        rw [← e5]
        exact q'
    · refine ⟨_, rfl, _, .ty "str", t, .type "str", false, rfl, .ty _, ht, hk, false, rfl, ?_⟩
      rw [nameV_no hn] at q
      exact q
end
end Kl

set_option maxRecDepth 100000
set_option maxHeartbeats 4000000
namespace Kl
open PySem PySem.Spec PyProof.Rows L2 Gx Mx
/-! ### kinds and their makings: the mathematics -/
abbrev Mak := List (Str × List Str)
/-- the names that are drawn -/
def POOL : List Str := ["a", "b", "ab", "c", "leaf", "zzzzzzzz", "d", "e", "f", "aa", "page", "to"]
theorem pool_names : POOL.all nameB = true := by decide +kernel
theorem pool_short : POOL.all (fun z => decide (z.length ≤ 8)) = true := by decide +kernel
theorem pool_nd : POOL.Nodup := by decide +kernel
theorem pool_name {z : Str} (h : z ∈ POOL) : nameB z = true := List.all_eq_true.mp pool_names z h
theorem pool_len {z : Str} (h : z ∈ POOL) : z.length ≤ 8 := of_decide_eq_true (List.all_eq_true.mp pool_short z h)
def keysOf (M : Mak) : List Str := M.map (·.1)
/-- these are kinds of drawn names -/
structure Vld (leaf : Str) (M : Mak) : Prop where
  lf : leaf ∈ POOL
  keys : ∀ z ∈ keysOf M, z ∈ POOL
  nd : (keysOf M).Nodup
  parts : ∀ m ∈ M, sortedS m.2 = true ∧ 2 ≤ m.2.length ∧ m.2.length ≤ 3 ∧ ∀ p ∈ m.2, p = leaf ∨ p ∈ keysOf M
  few : ∀ ns : List Str, ns.Nodup → (∀ z ∈ ns, z = leaf ∨ z ∈ keysOf M) → ns.length ≤ 6
theorem Vld.part {leaf : Str} {M : Mak} (v : Vld leaf M) {m : Str × List Str} (hm : m ∈ M) {p : Str} (hp : p ∈ m.2) : p ∈ POOL := by
  rcases (v.parts m hm).2.2.2 p hp with rfl | h
  · exact v.lf
  · exact v.keys p h
theorem Vld.len {leaf : Str} {M : Mak} (v : Vld leaf M) : M.length ≤ 6 := by
  have h := v.few (keysOf M) v.nd fun z hz => .inr hz
  unfold keysOf at h
  rw [List.length_map] at h
  exact h
/-- the ascending names of kinds -/
structure IsNames (leaf : Str) (ks ns : List Str) : Prop where
  srt : sortedS ns = true
  nd : ns.Nodup
  mem : ∀ z, z ∈ ns ↔ z = leaf ∨ z ∈ ks
theorem sorted_same {l m : List Str} (hl : sortedS l = true) (hm : sortedS m = true) (dl : l.Nodup) (dm : m.Nodup) (e : ∀ z, z ∈ l ↔ z ∈ m) : l = m :=
  sortedS_unique ((List.perm_ext_iff_of_nodup dl dm).mpr e) hl hm
theorem IsNames.unique {leaf : Str} {ks ks' ns ms : List Str} (h : IsNames leaf ks ns) (h' : IsNames leaf ks' ms) (e : ∀ z, z ∈ ks ↔ z ∈ ks') : ns = ms :=
  sorted_same h.srt h'.srt h.nd h'.nd fun z => by rw [h.mem, h'.mem, e]
theorem sortedS_sub {l m : List Str} (h : sortedS m = true) (s : l.Sublist m) : sortedS l = true := (sortedS_iff l).mpr (((sortedS_iff m).mp h).sublist s)
/-! ### makings looked up -/
def lookM (M : Mak) (z : Str) : Option (List Str) := (M.find? fun m => decide (m.1 = z)).map (·.2)
theorem lookM_cons (m : Str × List Str) (M : Mak) (z : Str) : lookM (m :: M) z = if m.1 = z then some m.2 else lookM M z := by
  unfold lookM
  rw [List.find?_cons]
  by_cases h : m.1 = z
  · rw [if_pos h, decide_eq_true h]
    rfl
  · rw [if_neg h, decide_eq_false h]
theorem lookM_mem {M : Mak} (nd : (keysOf M).Nodup) {m : Str × List Str} (h : m ∈ M) : lookM M m.1 = some m.2 := by
  induction M with
  | nil => cases h
  | cons x M ih =>
    have nd' : (x.1 :: keysOf M).Nodup := nd
    rw [List.nodup_cons] at nd'
    rw [lookM_cons]
    rcases List.mem_cons.mp h with rfl | h
    · rw [if_pos rfl]
    · rw [if_neg fun e => nd'.1 (by rw [e]; exact List.mem_map.mpr ⟨m, h, rfl⟩)]
      exact ih nd'.2 h
theorem lookM_some {M : Mak} {z : Str} {ps : List Str} (h : lookM M z = some ps) : (z, ps) ∈ M := by
  induction M with
  | nil => cases h
  | cons x M ih =>
    rw [lookM_cons] at h
    by_cases e : x.1 = z
    · rw [if_pos e] at h
      cases h
      rw [← e]
      exact List.mem_cons_self
    · rw [if_neg e] at h
      exact List.mem_cons_of_mem _ (ih h)
theorem lookM_none {M : Mak} {z : Str} : lookM M z = none ↔ z ∉ keysOf M := by
  induction M with
  | nil => exact ⟨(fun _ h => nomatch h), fun _ => rfl⟩
  | cons x M ih =>
    rw [lookM_cons]
    show _ ↔ z ∉ x.1 :: keysOf M
    rw [List.mem_cons, not_or]
    by_cases e : x.1 = z
    · rw [if_pos e]
      exact ⟨(fun h => nomatch h), fun h => absurd e.symm h.1⟩
    · rw [if_neg e, ih]
      exact ⟨fun h => ⟨fun q => e q.symm, h⟩, fun h => h.2⟩
theorem lookM_in {M : Mak} {z : Str} (h : z ∈ keysOf M) : ∃ ps, lookM M z = some ps := by
  cases e : lookM M z with
  | none => exact absurd h (lookM_none.mp e)
  | some ps => exact ⟨ps, rfl⟩
/-- M' is M, ascending by its keys -/
structure OrdOf (M M' : Mak) : Prop where
  srt : sortedS (keysOf M') = true
  nd : (keysOf M').Nodup
  look : ∀ z, lookM M' z = lookM M z
theorem OrdOf.keys {M M' : Mak} (h : OrdOf M M') (z : Str) : z ∈ keysOf M' ↔ z ∈ keysOf M := by
  have e := h.look z
  constructor
  · intro q
    obtain ⟨ps, hp⟩ := lookM_in q
    rw [hp] at e
    cases c : decide (z ∈ keysOf M) with
    | true => exact of_decide_eq_true c
    | false =>
      rw [lookM_none.mpr (of_decide_eq_false c)] at e
      cases e
  · intro q
    obtain ⟨ps, hp⟩ := lookM_in q
    rw [hp] at e
    cases c : decide (z ∈ keysOf M') with
    | true => exact of_decide_eq_true c
    | false =>
      rw [lookM_none.mpr (of_decide_eq_false c)] at e
      cases e
theorem mak_of_keys {M : Mak} (nd : (keysOf M).Nodup) : M = (keysOf M).map fun z => (z, (lookM M z).getD []) := by
  unfold keysOf
  rw [List.map_map]
  refine (List.map_id M).symm.trans (List.map_congr_left fun m hm => ?_)
  show m = (m.1, (lookM M m.1).getD [])
  rw [lookM_mem nd hm]
  rfl
theorem OrdOf.eq {M M' : Mak} (h : OrdOf M M') {ys : List Str} (hs : sortedS ys = true) (hp : ys.Perm (keysOf M)) (nd : (keysOf M).Nodup) : M' = ys.map fun z => (z, (lookM M z).getD []) := by
  have e : keysOf M' = ys := sorted_same h.srt hs h.nd (hp.nodup_iff.mpr nd) fun z => by rw [h.keys, hp.mem_iff]
  rw [mak_of_keys h.nd, e]
  exact List.map_congr_left fun z _ => by rw [h.look]
theorem OrdOf.mk' {M : Mak} {ys : List Str} (hs : sortedS ys = true) (hp : ys.Perm (keysOf M)) (nd : (keysOf M).Nodup) : OrdOf M (ys.map fun z => (z, (lookM M z).getD [])) := by
  have ek : keysOf (ys.map fun z => (z, (lookM M z).getD [])) = ys := by
    unfold keysOf
    rw [List.map_map]
    exact List.map_id ys
  have dy : ys.Nodup := hp.nodup_iff.mpr nd
  refine ⟨by rw [ek]; exact hs, by rw [ek]; exact dy, fun z => ?_⟩
  by_cases h : z ∈ ys
  · have h1 := lookM_mem (M := ys.map fun z => (z, (lookM M z).getD [])) (by rw [ek]; exact dy) (List.mem_map.mpr ⟨z, h, rfl⟩)
    obtain ⟨ps, q⟩ := lookM_in (hp.mem_iff.mp h)
    rw [h1, q]
    rfl
  · rw [lookM_none.mpr (by rw [ek]; exact h), lookM_none.mpr fun q => h (hp.mem_iff.mpr q)]
theorem OrdOf.vld {leaf : Str} {M M' : Mak} (h : OrdOf M M') (v : Vld leaf M) : Vld leaf M' := by
  refine ⟨v.lf, fun z hz => v.keys z ((h.keys z).mp hz), h.nd, fun m hm => ?_, fun ns hn hs => v.few ns hn fun z hz => (hs z hz).imp id (h.keys z).mp⟩
  have e := h.look m.1
  rw [lookM_mem h.nd hm] at e
  obtain ⟨h1, h2, h3, h4⟩ := v.parts (m.1, m.2) (lookM_some e.symm)
  exact ⟨h1, h2, h3, fun p hp => (h4 p hp).imp id (h.keys p).mpr⟩
/-! ### what is told of kinds -/
def lineK (n : Str) (ps : List Str) : Str := (("kind " : Str) ++ n ++ " ") ++ Txt.join "+" ps
def linesK (leaf : Str) (M : Mak) : List Str := (("leaf " : Str) ++ leaf) :: M.map fun m => lineK m.1 m.2
def usersK (M : Mak) (z : Str) : List Str := (M.filter fun m => decide (z ∈ m.2)).map (·.1)
def partedK (ps : List Str) (z : Str) : List Str := ps.take (ps.idxOf z) ++ ps.drop (ps.idxOf z + 1)
/-- the users by the names and the makings in any order -/
theorem users_by {leaf : Str} {M M' : Mak} {ns : List Str} (h : OrdOf M M') (hn : IsNames leaf (keysOf M) ns) (z : Str) : ns.filter (fun u => decide (z ∈ (lookM M u).getD [])) = usersK M' z := by
  have e : usersK M' z = (keysOf M').filter fun u => decide (z ∈ (lookM M u).getD []) := by
    unfold usersK keysOf
    rw [List.filter_map]
    refine congrArg _ (List.filter_congr fun m hm => ?_)
    show decide (z ∈ m.2) = decide (z ∈ (lookM M m.1).getD [])
    rw [← h.look, lookM_mem h.nd hm]
    rfl
  rw [e]
  refine sorted_same (sortedS_sub hn.srt List.filter_sublist) (sortedS_sub h.srt List.filter_sublist) (hn.nd.sublist List.filter_sublist) (h.nd.sublist List.filter_sublist) fun u => ?_
  rw [List.mem_filter, List.mem_filter, hn.mem, h.keys]
  constructor
  · rintro ⟨h1, h2⟩
    refine ⟨?_, h2⟩
    cases c : decide (u ∈ keysOf M) with
    | true => exact of_decide_eq_true c
    | false =>
      rw [lookM_none.mpr (of_decide_eq_false c)] at h2
      exact absurd (of_decide_eq_true h2) (by simp)
  · rintro ⟨h1, h2⟩
    exact ⟨.inr h1, h2⟩
/-! ### makings in the heap -/
/-- a tuple in the heap whose object has no dict of its own -/
def TupZ (H : Hp) (a : Addr) (xs : List V) : Prop := ∃ ob : Obj, ob.dict = none ∧ H a = some (.frz ob (.tup xs))
theorem TupZ.sq {K : PySem.W.Frag} {H : Hp} {a : Addr} {xs : List V} (h : TupZ H a xs) : SqT K H a xs := by
  obtain ⟨ob, _, e⟩ := h
  exact .inl (.inr ⟨ob, e⟩)
theorem TupZ.ty {K : PySem.W.Frag} {H : Hp} {a : Addr} {xs : List V} (h : TupZ H a xs) : TyX K H (.ref a) (.type "tuple") := by
  obtain ⟨ob, _, e⟩ := h
  exact .fTuple e
theorem TupZ.at {H H' : Hp} {a : Addr} {xs : List V} (h : TupZ H a xs) (s : ∀ o, H a = some o → H' a = some o) : TupZ H' a xs := by
  obtain ⟨ob, d, e⟩ := h
  exact ⟨ob, d, s _ e⟩
theorem TupZ.mono {H H' : Hp} {a : Addr} {xs : List V} (h : TupZ H a xs) (s : Same H H') : TupZ H' a xs := h.at fun o e => s _ _ e
theorem TupZ.ne {H : Hp} {a b : Addr} {xs : List V} (h : TupZ H a xs) {o : HO} (e : H b = some o) (n : ∀ ob, o ≠ .frz ob (.tup xs)) : a ≠ b := fun z => by
  obtain ⟨ob, _, q⟩ := h
  rw [z, e] at q
  exact n ob (Option.some.inj q)
def MakAt (H : Hp) (kvs : List (Key × V)) (M : Mak) : Prop := Paired (fun (kv : Key × V) (m : Str × List Str) => kv.1 = Sum.inr m.1 ∧ ∃ a, kv.2 = .ref a ∧ TupZ H a (m.2.map V.str)) kvs M
theorem MakAt.same {H H' : Hp} {kvs : List (Key × V)} {M : Mak} (h : MakAt H kvs M) (s : ∀ a xs, TupZ H a xs → TupZ H' a xs) : MakAt H' kvs M := by
  unfold MakAt at h ⊢
  induction h with
  | nil => exact .nil
  | cons h _ ih =>
    obtain ⟨h1, a, h2, h3⟩ := h
    exact .cons ⟨h1, a, h2, s a _ h3⟩ ih
theorem MakAt.len {H : Hp} {kvs : List (Key × V)} {M : Mak} (h : MakAt H kvs M) : kvs.length = M.length := Paired.length h
theorem MakAt.keys {H : Hp} {kvs : List (Key × V)} {M : Mak} (h : MakAt H kvs M) : kvs.map (·.1) = (keysOf M).map Sum.inr := by
  unfold MakAt at h
  induction h with
  | nil => rfl
  | cons h _ ih =>
    exact congr (congrArg List.cons h.1) ih
theorem MakAt.get {H : Hp} {kvs : List (Key × V)} {M : Mak} (h : MakAt H kvs M) (z : Str) : (lookM M z = none ∧ valV kvs (Sum.inr z) = none) ∨ ∃ ps a, lookM M z = some ps ∧ valV kvs (Sum.inr z) = some (.ref a) ∧ TupZ H a (ps.map V.str) := by
  unfold MakAt at h
  induction h with
  | nil => exact .inl ⟨rfl, rfl⟩
  | @cons kv m kvs M h _ ih =>
    obtain ⟨h1, a, h2, h3⟩ := h
    rw [lookM_cons]
    by_cases e : m.1 = z
    · rw [if_pos e, valV_pos (by rw [h1, e])]
      exact .inr ⟨m.2, a, rfl, by rw [h2], h3⟩
    · rw [if_neg e, valV_neg (by rw [h1]; exact fun q => e (Sum.inr.inj q))]
      exact ih
theorem MakAt.at {H : Hp} {kvs : List (Key × V)} {M : Mak} (h : MakAt H kvs M) {i : Nat} {k : Key} {v : V} (e : kvs[i]? = some (k, v)) : ∃ m a, M[i]? = some m ∧ k = Sum.inr m.1 ∧ v = .ref a ∧ TupZ H a (m.2.map V.str) := by
  unfold MakAt at h
  induction h generalizing i with
  | nil => cases e
  | @cons kv m kvs M h _ ih =>
    cases i with
    | zero =>
      cases e
      obtain ⟨h1, a, h2, h3⟩ := h
      exact ⟨m, a, rfl, h1, h2, h3⟩
    | succ i => exact ih e
theorem MakAt.key {H : Hp} {kvs : List (Key × V)} {M : Mak} (h : MakAt H kvs M) {z : Str} (hz : z ∈ keysOf M) : ∃ ps a, lookM M z = some ps ∧ valV kvs (Sum.inr z) = some (.ref a) ∧ TupZ H a (ps.map V.str) := by
  rcases h.get z with ⟨e, _⟩ | h
  · exact absurd hz (lookM_none.mp e)
  · exact h
/-- kinds with this leaf and these makings stand at x, their dict at md, their names ns -/
def KindsAt (C : Addr) (H : Hp) (x md : Addr) (leaf : Str) (M : Mak) (ns : List Str) : Prop :=
  ∃ dx nt kvs, H x = some (.ins C dx [("_leaf", .str leaf), ("_makings", .ref md), ("_names", .ref nt)]) ∧ H md = some (.dK kvs) ∧ MakAt H kvs M ∧ H nt = some (.tup (ns.map V.str))
theorem KindsAt.keep {C : Addr} {H H' : Hp} {x md e : Addr} {leaf : Str} {M : Mak} {ns : List Str} (h : KindsAt C H x md leaf M ns) (s : ∀ b o, b ≠ e → H b = some o → H' b = some o) (n1 : x ≠ e) (n2 : md ≠ e) (n3 : ∀ xs, H e ≠ some (.tup xs)) (n4 : ∀ xs, ¬ TupZ H e xs) : KindsAt C H' x md leaf M ns := by
  obtain ⟨dx, nt, kvs, h1, h2, h3, h4⟩ := h
  have t : ∀ a xs, H a = some (.tup xs) → H' a = some (.tup xs) := fun a xs q => s a _ (fun z => n3 xs (z ▸ q)) q
  exact ⟨dx, nt, kvs, s _ _ n1 h1, s _ _ n2 h2, h3.same fun a xs q => q.at fun o e' => s _ _ (fun z => n4 xs (z ▸ q)) e', t _ _ h4⟩
theorem KindsAt.same {C : Addr} {H H' : Hp} {x md : Addr} {leaf : Str} {M : Mak} {ns : List Str} (h : KindsAt C H x md leaf M ns) (s : Same H H') : KindsAt C H' x md leaf M ns := by
  obtain ⟨dx, nt, kvs, h1, h2, h3, h4⟩ := h
  exact ⟨dx, nt, kvs, s _ _ h1, s _ _ h2, h3.same fun a xs q => q.mono s, s _ _ h4⟩
end Kl

set_option maxRecDepth 100000
set_option maxHeartbeats 4000000
namespace Gx
open PySem PySem.Spec PyProof.Rows L2
/-- the name x is a def called with n values by position and keywords ks, that keeps sp and raises nothing -/
def CalO (P : Program) (w : World) (K : PySem.W.Frag) (mg : Str → Option Value) (base : Heap) (k : Nat) (x : Str) (ps : List Str) (n : Nat) (ks : List Str) (gV : List V → List V → List V) (sp : Sp) : Prop :=
  ∃ (f : Addr) (fd : FuncData) (g : List Value → List Value → List Value), FnOk P w K mg base CX0 k f fd ps sp ∧ PySem.W.keepIn K (.ref f) = true ∧ KBn K fd ps n ks g gV ∧ mg x = some (.ref f)
section
variable {P : Program} {w : World} {K : PySem.W.Frag} {mg : Str → Option Value} {base : Heap}
theorem DefK.calO {x qual : Str} {st : Stmt} {ps ks : List Str} {n : Nat} (d : DefK K mg x qual st ps n ks) {k : Nat} {sp : Sp} (h : ∀ f fd, Fun K x qual st f fd → FnOk P w K mg base CX0 k f fd ps sp) : CalO P w K mg base k x ps n ks (fun vs zs => vs ++ zs) sp := by
  obtain ⟨f, fd, F, b, g⟩ := d
  exact ⟨f, fd, _, h f fd F, F.kp, b, g⟩
theorem CalO.mono {x : Str} {ps ks : List Str} {n j k : Nat} {gV : List V → List V → List V} {sp : Sp} (c : CalO P w K mg base j x ps n ks gV sp) (h : j ≤ k) : CalO P w K mg base k x ps n ks gV sp := by
  obtain ⟨f, fd, g, F, more⟩ := c
  exact ⟨f, fd, g, F.mono h, more⟩
end
section
variable {X : Cx}
def tClO (n m : Nat) (sp : Sp) (gV : List V → List V → List V) (t tk : TA) : TE := fun σ H Q => t σ H fun vs H1 => tk σ H1 fun zs H2 => vs.length = n ∧ zs.length = m ∧ sp (gV vs zs) H2 Q E0
theorem pe_calO {x : Str} {ps ks : List Str} {n : Nat} {gV : List V → List V → List V} {sp : Sp} {k : Nat} {e : Expr} {es : List Expr} {kws : List Keyword} {t tk : TA} {p pos : Pos} (c : CalO X.prog X.w X.K X.mg X.base k x ps n ks gV sp) (room : Room k X.A) (hg : Gl X x)
    (h : PA X (e :: es) t) (hk : PK X kws tk) (hall : (backToKw pos (keywordEach kws X.env)).all (·.1.isSome) = true := by rfl) (hks : (backToKw pos (keywordEach kws X.env)).filterMap (·.1) = ks := by rfl)
    (hdb : (x == ("__debug__" : Str)) = false := by decide) (hst : starEach (e :: es) X.env = (false, eval e X.env) :: starEach es X.env := by rfl)
    (hpl : ((backTo pos (starEach (e :: es) X.env)).any (·.1) || (backToKw pos (keywordEach kws X.env)).any (·.1.isNone)) = false := by rfl) :
    PE X (.Call (.Name x p) (e :: es) kws pos) (tClO n ks.length sp gV t tk) := by
  obtain ⟨f, fd, gg, F, kp, b, hm⟩ := c
  refine ⟨fun pins s σ H Q I want => wpAny_Call_Name_kw (ld_glob I hg hm ?_ hdb)⟩
  refine PySem.W.callWith_KW (h₀ := X.base) I.ok.mod.kin kp hall (thn (h.run pos pins s σ H _ I want) ?_) hpl hst
  rintro us s1 ⟨vs, H1, I1, r, q⟩
  refine thn (hk.run pos pins s1 σ H1 _ I1 q) ?_
  rintro ws s2 ⟨zs, H2, I2, rz, l1, l2, q2⟩
  refine ⟨I2.kIn, ?_⟩
  rw [hks]
  have rel := b.rel r rz
  have bt := b.to s2 us ws I2.kIn (r.length.symm.trans l1) (rz.length.symm.trans l2)
  refine wpAny_call (codeAny_mono (F.run X.A X.stack s2 H2 ⟨us, ks.zip ws⟩ _ _ Q E0 room I2.env0 bt rel q2) fun res s' hres => ?_)
  match res, hres with
  | .error e, hres => exact hres.elim
  | .ok (.ret u), hres => exact I2.after hres
end
/-! ### rules within comprehensions, the written part named -/
section
variable {X : Cx} {K : PySem.W.Frag}
theorem pi_tupK {tg l : Expr} {tl : TE} (hk : X.K = K) (hl : PE X l tl) : PI X tg l (iTup K tl) := by
  subst hk
  exact pi_tup hl
theorem pi_listK {tg l : Expr} {tl : TE} (hk : X.K = K) (hl : PE X l tl) : PI X tg l (iList K tl) := by
  subst hk
  exact pi_list hl
theorem op_inSeqK (hk : X.K = K) : OpR X (compareOp .In) (rIn K false) := by
  subst hk
  exact op_in_seq
end
/-- a walk's bookkeeping, whatever its turn does -/
theorem walk_in {J : It} {n : Nat} {G : Hp → Prop} {Y : Nat → Hp → V → Hp → Prop} (w : Walk J n G Y) {H0 : Hp} {Qd : Hp → Prop} {body : V → Hp → (Hp → Prop) → Prop} (Pv : Nat → Hp → Prop) (h0 : Pv 0 H0) (hG : ∀ i H, i ≤ n → Pv i H → G H)
    (hs : ∀ i x H H', i < n → Pv i H → Y i H x H' → body x H' (Pv (i + 1))) (hd : ∀ H, Pv n H → Qd H) :
    ∃ W : Nat → Nat → Hp → Prop, (∃ m, W 0 m H0) ∧ ∀ i m H, W i m H → (J.stop i H ∧ Qd H) ∨ (J.go i H ∧ ∃ Nx : Hp → Prop, (∀ H', Nx H' → ∃ m', m' < m ∧ W (i + 1) m' H') ∧ ∀ x H', J.yld i H x H' → body x H' Nx) := by
  refine ⟨fun i m H => m = n - i ∧ i ≤ n ∧ Pv i H, ⟨n, (Nat.sub_zero n).symm, Nat.zero_le _, h0⟩, ?_⟩
  rintro i m H ⟨rfl, hi, p⟩
  have q := hG i H hi p
  rcases Nat.lt_or_ge i n with lt | ge
  · exact .inr ⟨w.goes i H lt q, Pv (i + 1), fun H' p' => ⟨n - (i + 1), by omega, rfl, lt, p'⟩, fun x H' y => hs i x H H' lt p (w.yields i H x H' lt q y)⟩
  · obtain rfl : i = n := Nat.le_antisymm hi ge
    exact .inl ⟨w.stops H q, hd H p⟩
end Gx
namespace Kl
open PySem PySem.Spec PyProof.Rows L2 Gx Mx
section
variable {P : Program} {w : World} {K : PySem.W.Frag} {mg : Str → Option Value} {base : Heap}
/-! ### is_sorted of texts -/
def spSorted (K : PySem.W.Frag) : Sp := fun vs H Q _ => ∃ (p : Addr) (zs : List Str) (M : Int), vs = [.ref p, .int M] ∧ SqT K H p (zs.map V.str) ∧ TyX K H (.ref p) (.type "tuple") ∧ 0 ≤ M ∧ M ≤ 100 ∧ zs.length ≤ 1000 ∧ (∀ z ∈ zs, z.length ≤ 1000) ∧
  ∀ H', Same H H' → Q (.bl (decide ((zs.length : Int) ≤ M) && (zs.all nameB && sortedS zs))) H'
theorem names_low {z : Str} (h : nameB z = true) : PyData.strOk z = true := by
  unfold nameB at h
  rw [Bool.and_eq_true] at h
  show z.cps.all _ = true
  rw [Array.all_eq_true']
  intro c hc
  have := List.all_eq_true.mp h.2 c (Array.mem_toList_iff.mpr hc)
  exact decide_eq_true (Nat.lt_trans (isLow_lt this) (by decide))
theorem ok_sorted {f : Addr} {fd : FuncData} (F : Fun K "is_sorted" "is_sorted" s_is_sorted f fd) (T : Top K mg) : FnOk P w K mg base CX0 3 f fd ["value", "most"] (spSorted K) := by
  have cc : Cal P w K mg base 2 "is_count" ["value"] (spCnt K) := T.d_is_count.cal fun f fd F => ok_cnt F T
  have cn : Cal P w K mg base 2 "is_name" ["value"] (spName K) := (T.d_is_name.cal fun f fd F => ok_name F T).mono (by decide)
  refine F.ok sc_is_sorted (fun vs H Q E h => ?_) (fun cdv A outer s H vs Q E hr h => ?_)
  · obtain ⟨p, zs, M, rfl, _⟩ := h
    rfl
  · obtain ⟨p, zs, M, rfl, hp, hT, hM, hM2, hlen, hz, hq⟩ := h
    refine ⟨_, pss_cons (ps_if (pt_not (pt_val (pe_cal cc hr (by rfl) (pa_cons (pv 1) pa_nil)))) (pss_one ps_never) pss_nil)
      (pss_cons (ps_if (PW.pt (pw_or (pt_not (pt_val (pe_callB call_isi (by rfl) T.b_isinstance (by decide +kernel) (pa_cons (pv 0) (pa_cons (pe_bltn (v := .ty "tuple") (by rfl) T.b_tuple (by decide +kernel) rfl) pa_nil)))))
          (pw_or1 (pt_cmpR op_gt (pe_callB call_len_seq (by rfl) T.b_len PySem.boot_len (pa_cons (pv 0) pa_nil)) (pv 1) (nomark _))))) (pss_one (ps_ret pe_bl)) pss_nil)
      (pss_cons (ps_if (pt_not (pt_val (pe_callB (cr_all rfl) (by rfl) T.b_all (by decide +kernel) (pa_cons (pe_lc (own := [("name", 2)]) (g := gName 2) (tt := tYes) rfl sc_is_sorted.nd (pi_tup (pv 0))
            (blkOk_by (N := ["value", "most", "name"]) (sc := defScope s_is_sorted) (by decide +kernel))
            (fun _ _ _ _ _ => pg_name (i := 2) sc_is_sorted.nd rfl (.inl rfl)) (fun _ _ _ _ _ => pts_nil) (fun _ _ _ _ _ => pe_cal cn hr (by rfl) (pa_cons (pv 2) pa_nil))) pa_nil)))) (pss_one (ps_ret pe_bl)) pss_nil)
      (pss_one (ps_ret (pe_cmpR (op_eqD hr.units) (pe_callTy call_list_of (by rfl) T.b_list (by decide +kernel) (pa_cons (pv 0) pa_nil)) (pe_callB cr_sortedTS (by rfl) T.b_sorted (by decide +kernel) (pa_cons (pv 0) pa_nil)) (nomark _)))))), ?_⟩
    have hc : cntV (.int M) = true := by
      show ((decide (-TEN60 < M) && decide (M < TEN60)) && decide (0 ≤ M)) = true
      rw [decide_eq_true (show -TEN60 < M by unfold TEN60; omega), decide_eq_true (show M < TEN60 by unfold TEN60; omega), decide_eq_true hM]
      rfl
    refine ⟨_, rfl, .int M, rfl, .inl ⟨M, rfl⟩, _, rfl, ?_⟩
    rw [hc]
    refine ⟨_, rfl, _, .ty "tuple", .type "tuple", .type "tuple", true, rfl, .ty _, hT, kit_ty (by decide +kernel), true, rfl, ?_⟩
    refine ⟨_, rfl, p, _, rfl, .inr hp, _, rfl, _, _, rfl, rfl, _, rfl, ite2 (fun e => ?_) (fun e => ?_)⟩
    · have e1 : decide ((zs.length : Int) ≤ M) = false := decide_eq_false (by
        have := of_decide_eq_true e
        rw [List.length_map] at this
        omega)
      rw [e1, Bool.false_and] at hq
      exact hq H (Same.refl H)
    · have e1 : decide ((zs.length : Int) ≤ M) = true := decide_eq_true (by
        have : ¬ (M < ((zs.map V.str).length : Int)) := fun z => e (decide_eq_true z)
        rw [List.length_map] at this
        omega)
      rw [e1, Bool.true_and] at hq
      refine ⟨_, rfl, p, rfl, ⟨_, hp⟩, fun D hD => ?_⟩
      refine lc_tup (xs := zs.map V.str) (fun j H2 => H2 D = some (.lst ((zs.take j).map fun z => V.bl (nameB z))) ∧ Same H H2) ⟨upd_same, fun b u e => by rw [upd_ne (ne_of_none e hD)]; exact e⟩ (fun j H2 _ hP => ?_) (fun j x H2 hj hP => ?_) (fun H2 hP => ?_)
      · rcases hp with (h | ⟨u, h⟩) | h
        · exact .inl (.inl (hP.2 _ _ h))
        · exact .inl (.inr ⟨u, hP.2 _ _ h⟩)
        · exact .inr h
      · obtain ⟨eD, sm⟩ := hP
        obtain ⟨z, hzj, rfl⟩ : ∃ z, zs[j]? = some z ∧ V.str z = x := by
          rw [List.getElem?_map] at hj
          cases e : zs[j]? with
          | none => rw [e] at hj; cases hj
          | some z => rw [e] at hj; exact ⟨z, rfl, by cases hj; rfl⟩
        refine ⟨rfl, _, rfl, _, rfl, .inl ⟨z, rfl, Nat.le_trans (hz z (List.mem_of_getElem? hzj)) (by decide)⟩, _, eD, ?_, ?_, fun b u e => by rw [upd_ne (ne_of_none e hD)]; exact sm b u e⟩
        · rw [List.length_map, List.length_take]
          exact Nat.lt_of_le_of_lt (Nat.le_trans (Nat.min_le_right _ _) hlen) (by decide)
        · rw [upd_same, List.take_add_one, hzj, List.map_append]
          rfl
      · obtain ⟨eD, sm⟩ := hP
        rw [List.length_map, List.take_length] at eD
        refine ⟨D, zs.map nameB, rfl, .inl (.inl (by rw [eD, List.map_map]; rfl)), _, rfl, ?_⟩
        have ea : (zs.map nameB).all id = zs.all nameB := by rw [List.all_map]; rfl
        rw [ea]
        cases hall : zs.all nameB with
        | false =>
          rw [hall, Bool.false_and] at hq
          exact hq _ sm
        | true =>
          rw [hall, Bool.true_and] at hq
          have hok : ∀ z ∈ zs, PyData.strOk z = true := fun z hz => names_low (List.all_eq_true.mp hall z hz)
          have hp2 : SqT K H2 p (zs.map V.str) := by
            rcases hp with (h | ⟨u, h⟩) | h
            · exact .inl (.inl (sm _ _ h))
            · exact .inl (.inr ⟨u, sm _ _ h⟩)
            · exact .inr h
          refine ⟨_, rfl, p, _, rfl, .inr hp2, fun l nl => ?_⟩
          have sm2 : Same H (upd H2 l (.lst (zs.map V.str))) := fun b u e => by rw [upd_ne (ne_of_none (sm b u e) nl)]; exact sm b u e
          have hp3 : SqT K (upd H2 l (.lst (zs.map V.str))) p (zs.map V.str) := by
            rcases hp with (h | ⟨u, h⟩) | h
            · exact .inl (.inl (sm2 _ _ h))
            · exact .inl (.inr ⟨u, sm2 _ _ h⟩)
            · exact .inr h
          refine ⟨_, rfl, p, zs, rfl, hp3, by omega, fun ys l2 hperm hsrt nl2 => ?_⟩
          refine ⟨.list (tD zs), .list (tD ys), ?_, ?_, shaped_texts hok, shaped_texts (fun z hz => hok z (hperm.mem_iff.mp hz)), ?_⟩
          · exact .lst (.inl (.inl (by rw [upd_ne (ne_of_none upd_same nl2), upd_same]))) (dp_texts zs)
          · exact .lst (.inl (.inl upd_same)) (dp_texts ys)
          · rw [PyData.eqv, eqv_texts, eq_sorted_iff hperm hsrt]
            exact hq _ (fun b u e => by rw [upd_ne (ne_of_none (sm2 b u e) nl2)]; exact sm2 b u e)
/-! ### _is_making of a making -/
def spMaking (K : PySem.W.Frag) : Sp := fun vs H Q _ => ∃ (p : Addr) (zs : List Str), vs = [.ref p] ∧ TupZ H p (zs.map V.str) ∧ zs.all nameB = true ∧ sortedS zs = true ∧ 2 ≤ zs.length ∧ zs.length ≤ 3 ∧ (∀ z ∈ zs, z.length ≤ 1000) ∧ ∀ H', Same H H' → Q (.bl true) H'
theorem ok_making {f : Addr} {fd : FuncData} (F : Fun K "_is_making" "_is_making" s_is_making f fd) (T : Top K mg) : FnOk P w K mg base CX0 4 f fd ["value"] (spMaking K) := by
  obtain ⟨tm, gm⟩ := T.g_MAX_PARTS
  have cs : CalO P w K mg base 3 "is_sorted" ["value", "most"] 1 ["most"] (fun vs zs => vs ++ zs) (spSorted K) := T.d_is_sorted.calO fun f fd F => ok_sorted F T
  refine F.ok sc_is_making (fun vs H Q E h => ?_) (fun cdv A outer s H vs Q E hr h => ?_)
  · obtain ⟨p, zs, rfl, _⟩ := h
    rfl
  · obtain ⟨p, zs, rfl, hp, hn, hs, h2, h3, hz, q⟩ := h
    refine ⟨_, pss_one (ps_ret (pe_and (pe_calO cs hr (by rfl) (pa_cons (pv 0) pa_nil) (pk_cons (pe_glob (v := .int 3) (by rfl) gm ⟨_, rfl⟩) pk_nil))
      (pe_one (pe_cmpR op_ge (pe_callB call_len_seq (by rfl) T.b_len PySem.boot_len (pa_cons (pv 0) pa_nil)) pe_int (nomark _))))), ?_⟩
    refine ⟨_, rfl, rfl, rfl, p, zs, 3, rfl, hp.sq, hp.ty, by decide, by decide, by omega, hz, fun H1 s1 => ⟨_, rfl, ?_⟩⟩
    rw [hn, hs, decide_eq_true (show ((zs.length : Int) ≤ 3) by omega)]
    refine ⟨_, rfl, p, _, rfl, .inr (hp.mono s1).sq, _, _, rfl, rfl, ?_⟩
    have e : decide ((2 : Int) ≤ ((zs.map V.str).length : Int)) = true := decide_eq_true (by rw [List.length_map]; omega)
    show Q (.bl (decide ((2 : Int) ≤ ((zs.map V.str).length : Int)))) H1
    rw [e]
    exact q H1 s1
/-! ### _all_names -/
def spNames : Sp := fun vs H Q _ => ∃ (leaf : Str) (md : Addr) (kvs : List (Key × V)) (ks : List Str), vs = [.str leaf, .ref md] ∧ H md = some (.dK kvs) ∧ kvs.map (·.1) = ks.map Sum.inr ∧ ks.length ≤ 100 ∧
  ∀ (ns : List Str) (p : Addr) (H' : Hp), IsNames leaf ks ns → Same H H' → H p = none → H' p = some (.tup (ns.map V.str)) → Q (.ref p) H'
theorem ok_names {f : Addr} {fd : FuncData} (F : Fun K "_all_names" "_all_names" s_all_names f fd) (T : Top K mg) : FnOk P w K mg base CX0 1 f fd ["leaf", "makings"] spNames := by
  refine F.ok sc_all_names (fun vs H Q E h => ?_) (fun cdv A outer s H vs Q E hr h => ?_)
  · obtain ⟨leaf, md, kvs, ks, rfl, _⟩ := h
    rfl
  · obtain ⟨leaf, md, kvs, ks, rfl, hd, hk, hl, q⟩ := h
    refine ⟨_, pss_one (ps_ret (pe_callTy call_tuple_of (by rfl) T.b_tuple (by decide +kernel) (pa_cons (pe_callB (cr_sortedX rfl) (by rfl) T.b_sorted (by decide +kernel) (pa_cons
      (pe_callTy (cr_setX rfl) (by rfl) T.b_set (by decide +kernel) (pa_cons (pe_lst (pa_cons (pv 0) (pa_starD rfl (pv 1) pa_nil))) pa_nil)) pa_nil)) pa_nil))), ?_⟩
    have ek : (kvs.map fun kv => kV kv.1) = ks.map V.str := by
      have e := congrArg (List.map kV) hk
      rw [List.map_map, List.map_map] at e
      exact e
    have lk : kvs.length = ks.length := by
      have e := congrArg List.length hk
      rw [List.length_map, List.length_map] at e
      exact e
    have e1 : [V.str leaf] ++ ((kvs.map fun kv => kV kv.1) ++ []) = ((leaf :: ks).map V.str) := by rw [List.append_nil, ek]; rfl
    refine ⟨_, rfl, _, rfl, md, kvs, rfl, hd, ?_, fun l nl => ?_⟩
    · show (V.str leaf :: ((kvs.map fun kv => kV kv.1) ++ [])).length ≤ sizeLine
      rw [List.length_cons, List.append_nil, List.length_map]
      exact Nat.le_trans (show kvs.length + 1 ≤ 101 by omega) (by decide)
    have s1 : Same H (upd H l (.lst ((leaf :: ks).map V.str))) := fun b u e => by rw [upd_ne (ne_of_none e nl)]; exact e
    have e2 : upd H l (.lst (V.str leaf :: ((kvs.map fun kv => kV kv.1) ++ []))) = upd H l (.lst ((leaf :: ks).map V.str)) := by rw [← e1]; rfl
    rw [e2]
    generalize hH1 : upd H l (.lst ((leaf :: ks).map V.str)) = H1 at s1
    have h1l : H1 l = some (.lst ((leaf :: ks).map V.str)) := by rw [← hH1, upd_same]
    refine ⟨l, leaf :: ks, rfl, .inl (.inl h1l), by show (leaf :: ks).length ≤ 1000; rw [List.length_cons]; omega, fun a na => ?_⟩
    have s2 : Same H (upd H1 a (SetO' P w a (leaf :: ks))) := fun b u e => by rw [upd_ne (ne_of_none (s1 b u e) na)]; exact s1 b u e
    refine ⟨a, leaf :: ks, rfl, upd_same, by show (leaf :: ks).length ≤ 1000; rw [List.length_cons]; omega, fun ys p hs nd hm np => ?_⟩
    have s3 : Same H (upd (upd H1 a (SetO' P w a (leaf :: ks))) p (.lst (ys.map V.str))) := fun b u e => by rw [upd_ne (ne_of_none (s2 b u e) np)]; exact s2 b u e
    refine ⟨p, ys.map V.str, rfl, .inl ⟨.inl (.inl upd_same), fun t nt => ?_⟩⟩
    refine q ys t _ ⟨hs, nd, fun z => (hm z).trans List.mem_cons⟩ (fun b u e => by rw [upd_ne (ne_of_none (s3 b u e) nt)]; exact s3 b u e) ?_ upd_same
    exact s3.free nt
end
end Kl

set_option maxRecDepth 100000
set_option maxHeartbeats 4000000
namespace Kl
open PySem PySem.Spec PyProof.Rows L2 Gx Mx
section
variable {P : Program} {w : World} {K : PySem.W.Frag} {mg : Str → Option Value} {base : Heap}
/-! ### the law's dice -/
def spDice (K : PySem.W.Frag) : Sp := fun vs H Q _ => ∃ (a : Addr) (ns : List Int) (i : Nat), vs = [.ref a, .int i] ∧ SqL K H a (ns.map V.int) ∧ ns.length ≤ 63 ∧ i ≤ 1000 ∧
  ∀ (p : Addr) (x b : Int), H p = none → Q (.ref p) (upd H p (.lst [.int x, .int b, .int 0]))
theorem ok_dice {f : Addr} {fd : FuncData} (F : Fun K "_law_dice" "_law_dice" s_law_dice f fd) (T : Top K mg) : FnOk P w K mg base CX0 1 f fd ["_law_script", "_law_spot"] (spDice K) := by
  refine F.ok sc_law_dice (fun vs H Q E h => ?_) (fun cdv A outer s H vs Q E hr h => ?_)
  · obtain ⟨a, ns, i, rfl, _⟩ := h
    rfl
  · obtain ⟨a, ns, i, rfl, hS, hlen, hi, q⟩ := h
    refine ⟨_, pss_cut (ps_set (i := 2) sc_law_dice.nd rfl (.inl rfl) (pe_ifExp
        (pt_cmpR op_lt (pv 1) (pe_callB call_len_seq (by rfl) T.b_len PySem.boot_len (pa_cons (pv 0) pa_nil)) (nomark _))
        (pe_callTy call_int1 (by rfl) T.b_int (by decide +kernel) (pa_cons (pe_ix ix_list (pv 0) (pv 1) (fun _ _ => rfl)) pa_nil))
        (pe_op op_add (pe_op op_mul pe_int (pv 1)) pe_int)))
      (pss_cons (ps_set (i := 3) sc_law_dice.nd rfl (.inl rfl) (pe_op op_mod
        (pe_callB (call_max2 rfl) (by rfl) T.b_max (by decide +kernel) (pa_cons pe_int (pa_cons (pe_op op_sub
          (pe_callB call_abs (by rfl) T.b_abs (by decide +kernel) (pa_cons (pv 2) pa_nil)) (pe_op op_pow pe_int pe_int)) pa_nil)))
        (pe_op op_mulW (pe_op op_pow pe_int pe_int) (pe_op op_pow pe_int pe_int))))
      (pss_one (ps_ret (pe_lst (pa_cons (pv 3) (pa_cons
        (pe_op op_add (pe_op op_add (pe_op op_add (pe_op op_mul (pe_op op_mod (pe_callB call_abs (by rfl) T.b_abs (by decide +kernel) (pa_cons (pv 2) pa_nil)) pe_int) pe_int)
          (pe_op op_mul pe_int (pv 1)))
          (pe_op op_mul pe_int (pe_callTy call_int1 (by rfl) T.b_int (by decide +kernel) (pa_cons (pe_cmpR op_lt (pv 2) pe_int (nomark _)) pa_nil)))) pe_int)
        (pa_cons pe_int pa_nil))))))), ?_⟩
    refine ⟨fun σ' H' => ∃ c : Int, σ' = [some (.ref a), some (.int i), some (.int c), none] ∧ H' = H, ?_, ?_⟩
    · refine ⟨_, rfl, .ref a, rfl, a, _, rfl, .inl hS, _, _, rfl, rfl, _, rfl, ite2 (fun e => ?_) (fun e => ?_)⟩
      · have e' : i < ns.length := by
          have := of_decide_eq_true e
          rw [List.length_map] at this
          omega
        refine ⟨.ref a, rfl, .int i, rfl, a, _, _, .int ns[i], rfl, rfl, hS, atI_nat (by rw [List.getElem?_map, List.getElem?_eq_getElem e']; rfl), .inl ⟨_, rfl, ns[i], rfl, rfl⟩⟩
      · refine ⟨_, rfl, _, _, rfl, rfl, .inl ⟨by decide, by decide⟩, _, _, rfl, rfl, _, rfl, rfl⟩
    · rintro σ' H' ⟨c, rfl, rfl⟩
      refine ⟨_, rfl, _, rfl, ?_⟩
      refine ⟨_, _, rfl, rfl, ⟨by decide, by decide, by decide⟩, ?_⟩
      refine ⟨_, _, rfl, rfl, ?_⟩
      refine ⟨_, _, rfl, ?_⟩
      refine ⟨_, _, rfl, rfl, ⟨by decide, by decide, by decide⟩, ?_⟩
      refine ⟨_, _, rfl, rfl, ⟨by decide, by decide, by decide⟩, ?_⟩
      refine ⟨_, _, rfl, rfl, wide_mul (a := 200) (b := 200) (by decide) (by decide) (by decide) (by decide) (by decide), ?_⟩
      refine ⟨_, _, rfl, rfl, by show (0 : Int) < _; decide, ?_⟩
      generalize (if (if c < 0 then -c else c) - 10 ^ Int.toNat 17 > 0 then (if c < 0 then -c else c) - 10 ^ Int.toNat 17 else 0) % (10 ^ Int.toNat 60 * 10 ^ Int.toNat 60) = left
      refine ⟨_, rfl, _, rfl, _, rfl, _, _, rfl, rfl, by show (0 : Int) < _; decide, _, _, rfl, rfl, .inr ⟨by decide, by decide⟩, ?_⟩
      refine ⟨_, rfl, _, _, rfl, rfl, .inl ⟨by decide, by decide⟩, _, _, rfl, rfl, _, rfl, _, _, rfl, rfl, .inr ⟨_, rfl, ?_⟩⟩
      refine ⟨_, _, rfl, rfl, .inl ⟨by decide, by decide⟩, _, _, rfl, rfl, _, _, rfl, rfl, by show 3 ≤ sizeLine; decide, fun p hp => ?_⟩
      exact q p _ _ hp
def spRoll : Sp := fun vs H Q _ => ∃ (d : Addr) (t : Int), vs = [.ref d, .int t] ∧ DiceAt H d ∧ 0 < t ∧ t.natAbs.log2 < 9000 ∧
  ∀ (r x b c : Int), 0 ≤ r → r < t → Q (.int r) (upd H d (.lst [.int x, .int b, .int c]))
theorem ok_roll {f : Addr} {fd : FuncData} (F : Fun K "_law_roll" "_law_roll" s_law_roll f fd) (T : Top K mg) : FnOk P w K mg base CX0 1 f fd ["_law_dice_here", "_law_total"] spRoll := by
  refine F.ok sc_law_roll (fun vs H Q E h => ?_) (fun cdv A outer s H vs Q E hr h => ?_)
  · obtain ⟨d, t, rfl, _⟩ := h
    rfl
  · obtain ⟨d, t, rfl, ⟨x, b, c, hd⟩, ht, ht2, q⟩ := h
    refine ⟨_, pss_cons (ps_if (pt_cmpR op_gt (pe_ix ix_list (pv 0) pe_int (fun _ _ => rfl)) pe_int (nomark _))
        (pss_cons (ps_set (i := 2) sc_law_roll.nd rfl (.inl rfl) (pe_op op_mod (pe_callTy call_int1 (by rfl) T.b_int (by decide +kernel) (pa_cons (pe_ix ix_list (pv 0) pe_int (fun _ _ => rfl)) pa_nil)) (pv 1)))
        (pss_cons (ps_asg (pe_op op_fdivW (pe_ix ix_list (pv 0) pe_int (fun _ _ => rfl)) (pv 1)) (pg_sub (pv 0) pe_int set_list))
        (pss_one (ps_ret (pv 2))))) pss_nil)
      (pss_cons (ps_asg (pe_op op_add (pe_ix ix_list (pv 0) pe_int (fun _ _ => rfl)) pe_int) (pg_sub (pv 0) pe_int set_list))
      (pss_cons (ps_set (i := 3) sc_law_roll.nd rfl (.inl rfl) (pe_op op_mod (pe_callTy call_int1 (by rfl) T.b_int (by decide +kernel) (pa_cons
        (pe_op op_add (pe_ix ix_list (pv 0) pe_int (fun _ _ => rfl)) (pe_op op_mul pe_int (pe_ix ix_list (pv 0) pe_int (fun _ _ => rfl)))) pa_nil)) pe_int))
      (pss_cons (ps_set (i := 4) sc_law_roll.nd rfl (.inl rfl) (pe_op op_add (pe_op op_mul (pe_op op_mod (pe_callTy call_int1 (by rfl) T.b_int (by decide +kernel) (pa_cons
        (pe_op op_add (pe_op op_mul (pv 3) (pv 3)) (pe_op op_mul pe_int (pe_ix ix_list (pv 0) pe_int (fun _ _ => rfl)))) pa_nil)) pe_int) pe_int) (pv 3)))
      (pss_one (ps_ret (pe_op op_mod (pe_callTy call_int1 (by rfl) T.b_int (by decide +kernel) (pa_cons (pe_op op_fdiv (pv 4) pe_int) pa_nil)) (pv 1))))))), ?_⟩
    have at0 : ∀ (x y z : V), atI [x, y, z] 0 = some x := fun x y z => atI_nat (j := 0) rfl
    have at1 : ∀ (x y z : V), atI [x, y, z] 1 = some y := fun x y z => atI_nat (j := 1) rfl
    have at2 : ∀ (x y z : V), atI [x, y, z] 2 = some z := fun x y z => atI_nat (j := 2) rfl
    have hS : SqL K H d [.int x, .int b, .int c] := .inl (.inl hd)
    refine ⟨_, rfl, d, _, _, _, rfl, rfl, hS, at0 _ _ _, _, _, rfl, rfl, _, rfl, ite2 (fun e => ?_) (fun e => ?_)⟩
    · refine ⟨_, rfl, d, _, _, _, rfl, rfl, hS, at0 _ _ _, .inl ⟨_, rfl, _, rfl, _, _, rfl, rfl, ht, ?_⟩⟩
      refine ⟨_, rfl, d, _, _, _, rfl, rfl, hS, at0 _ _ _, _, rfl, _, _, rfl, rfl, ⟨ht, ht2⟩, ?_⟩
      refine ⟨_, rfl, d, _, _, 0, rfl, rfl, hd, rfl, ?_⟩
      refine ⟨_, rfl, ?_⟩
      exact q _ _ _ _ (Int.emod_nonneg _ (by omega)) (Int.emod_lt_of_pos _ ht)
    · refine ⟨_, rfl, d, _, _, _, rfl, rfl, hS, at2 _ _ _, _, _, rfl, rfl, ?_⟩
      refine ⟨_, rfl, d, _, _, 2, rfl, rfl, hd, rfl, ?_⟩
      have hd1 : (upd H d (.lst ([V.int x, V.int b, V.int c].set 2 (.int (c + 1))))) d = some (.lst [V.int x, V.int b, V.int (c + 1)]) := upd_same
      have hS1 : SqL K (upd H d (.lst ([V.int x, V.int b, V.int c].set 2 (.int (c + 1))))) d [V.int x, V.int b, V.int (c + 1)] := .inl (.inl hd1)
      refine ⟨_, rfl, d, _, _, _, rfl, rfl, hS1, at1 _ _ _, _, rfl, d, _, _, _, rfl, rfl, hS1, at2 _ _ _, _, _, rfl, rfl, .inl ⟨by decide, by decide⟩, _, _, rfl, rfl, .inl ⟨_, rfl, ?_⟩⟩
      refine ⟨_, _, rfl, rfl, by show (0 : Int) < _; decide, ?_⟩
      have h1 := Int.emod_nonneg (b + 7919 * (c + 1)) (show (2305843009213693907 : Int) ≠ 0 by decide)
      have h2 := Int.emod_lt_of_pos (b + 7919 * (c + 1)) (show (0 : Int) < 2305843009213693907 by decide)
      generalize (b + 7919 * (c + 1)) % 2305843009213693907 = one at h1 h2
      refine ⟨_, rfl, _, rfl, _, _, rfl, rfl, .inl ⟨by omega, by omega⟩, _, rfl, d, _, _, _, rfl, rfl, hS1, at2 _ _ _, _, _, rfl, rfl, .inl ⟨by decide, by decide⟩, _, _, rfl, rfl, .inl ⟨_, rfl, ?_⟩⟩
      refine ⟨_, _, rfl, rfl, by show (0 : Int) < _; decide, _, _, rfl, rfl, .inr ⟨by decide, by decide⟩, _, rfl, _, _, rfl, rfl, ?_⟩
      refine ⟨_, rfl, _, _, rfl, rfl, ⟨by decide, by decide⟩, .inl ⟨_, rfl, _, rfl, _, _, rfl, rfl, ht, ?_⟩⟩
      exact q _ _ _ _ (Int.emod_nonneg _ (by omega)) (Int.emod_lt_of_pos _ ht)
/-- what may be picked from: the items of a list, a tuple, a text -/
def Items (K : PySem.W.Frag) (H : Hp) (d : Addr) (x : V) (xs : List V) : Prop :=
  (∃ p, x = .ref p ∧ p ≠ d ∧ (SqL K H p xs ∨ SqT K H p xs)) ∨ ∃ z : Str, x = .str z ∧ xs = signV z ∧ z.length ≤ sizeLine
def spPick (K : PySem.W.Frag) : Sp := fun vs H Q _ => ∃ (d : Addr) (x : V) (xs : List V), vs = [.ref d, x] ∧ DiceAt H d ∧ Items K H d x xs ∧ xs ≠ [] ∧ xs.length ≤ 100000 ∧
  ∀ (v : V) (x b c : Int), v ∈ xs → Q v (upd H d (.lst [.int x, .int b, .int c]))
theorem log2_small {n : Nat} (h : n ≤ 100000) : ((n : Int).natAbs).log2 < 9000 := by
  have h1 : ((n : Int).natAbs) < 2 ^ 20 := by
    rw [Int.natAbs_natCast]
    exact Nat.lt_of_le_of_lt h (by decide)
  exact Nat.lt_of_lt_of_le (PySem.Flt.log2_lt_of (by decide) h1) (by decide)
theorem ok_pick {f : Addr} {fd : FuncData} (F : Fun K "_law_pick" "_law_pick" s_law_pick f fd) (T : Top K mg) : FnOk P w K mg base CX0 2 f fd ["_law_dice_here", "_law_items"] (spPick K) := by
  have cr : Cal P w K mg base 1 "_law_roll" ["_law_dice_here", "_law_total"] spRoll := T.d_law_roll.cal fun f fd F => ok_roll F T
  refine F.ok sc_law_pick (fun vs H Q E h => ?_) (fun cdv A outer s H vs Q E hr h => ?_)
  · obtain ⟨d, x, xs, rfl, _⟩ := h
    rfl
  · obtain ⟨d, x, xs, rfl, hd, hI, hne, hlen, q⟩ := h
    refine ⟨_, pss_one (ps_ret (pe_ix ix_seq (pv 1) (pe_cal cr hr (by rfl) (pa_cons (pv 0) (pa_cons (pe_callB call_len (by rfl) T.b_len PySem.boot_len (pa_cons (pv 1) pa_nil)) pa_nil))) (fun _ _ => rfl))), ?_⟩
    have hpos : 0 < xs.length := List.length_pos_iff.mpr hne
    rcases hI with ⟨p, rfl, hp, hs⟩ | ⟨z, rfl, rfl, hz⟩
    · refine ⟨_, rfl, _, rfl, _, rfl, _, (xs.length : Nat), rfl, ?_, ?_⟩
      · rcases hs with hs | hs
        · exact .inl ⟨_, hs, rfl⟩
        · exact .inr ⟨_, hs, rfl⟩
      · refine ⟨d, _, rfl, hd, by omega, log2_small hlen, fun r x b c h0 h1 => ?_⟩
        obtain ⟨v, hv, ha⟩ := atI_int (xs := xs) h0 h1
        rcases hs with hs | hs
        · exact .inl ⟨p, _, _, v, rfl, rfl, sqL_ne hp hs, ha, q v x b c hv⟩
        · exact .inr (.inl ⟨p, _, _, v, rfl, rfl, sqT_ne hp hs, ha, q v x b c hv⟩)
    · have hlz := signV_len z
      refine ⟨_, rfl, _, rfl, _, rfl, _, (z.length : Nat), rfl, ⟨hz, rfl⟩, ?_⟩
      refine ⟨d, _, rfl, hd, by omega, log2_small (by omega), fun r x b c h0 h1 => ?_⟩
      obtain ⟨v, hv, ha⟩ := atI_int (xs := z.cps.toList) h0 (by rw [Array.length_toList]; exact h1)
      exact .inr (.inr ⟨z, r, v, rfl, rfl, hz, ha, q _ x b c (List.mem_map.mpr ⟨_, hv, rfl⟩)⟩)
end
end Kl

set_option maxRecDepth 100000
set_option maxHeartbeats 4000000
namespace Kl
open PySem PySem.Spec PyProof.Rows L2 Gx Mx
/-! ### all but the dice stays -/
/-- all but what stands at d is as it was -/
def SameX (d : Addr) (H H' : Hp) : Prop := ∀ b o, b ≠ d → H b = some o → H' b = some o
theorem SameX.refl (d : Addr) (H : Hp) : SameX d H H := fun _ _ _ e => e
theorem SameX.trans {d : Addr} {H H' H'' : Hp} (h : SameX d H H') (h' : SameX d H' H'') : SameX d H H'' := fun b o n e => h' b o n (h b o n e)
theorem SameX.atd {d : Addr} {H H' : Hp} {o : HO} (h : SameX d H H') : SameX d H (upd H' d o) := fun b u n e => by rw [upd_ne n]; exact h b u n e
theorem SameX.new {d p : Addr} {H H' : Hp} {o : HO} (h : SameX d H H') (n : H' p = none) : SameX d H (upd H' p o) := fun b u nb e => by
  have e' := h b u nb e
  rw [upd_ne (ne_of_none e' n)]
  exact e'
theorem SameX.at {d p : Addr} {H H' : Hp} {o : HO} (h : SameX d H H') (n : H p = none) : SameX d H (upd H' p o) := fun b u nb e => by
  rw [upd_ne (ne_of_none e n)]
  exact h b u nb e
theorem SameX.of {d : Addr} {H H' : Hp} (h : Same H H') : SameX d H H' := fun b o _ e => h b o e
theorem SameX.free {d p : Addr} {H H' : Hp} (h : SameX d H H') (n : p ≠ d) (e : H' p = none) : H p = none := by
  cases q : H p with
  | none => rfl
  | some o => rw [h p o n q] at e; cases e
theorem dice_ne {H : Hp} {d p : Addr} (h : DiceAt H d) (e : H p = none) : p ≠ d := fun q => by
  obtain ⟨_, _, _, h⟩ := h
  rw [q, h] at e
  cases e
theorem dice_upd {H : Hp} {d p : Addr} {o : HO} (h : DiceAt H d) (n : p ≠ d) : DiceAt (upd H p o) d := by
  obtain ⟨a, b, c, h⟩ := h
  exact ⟨a, b, c, by rw [upd_ne n.symm]; exact h⟩
theorem dice_new {H : Hp} {d : Addr} (x b c : Int) : DiceAt (upd H d (.lst [.int x, .int b, .int c])) d := ⟨_, _, _, upd_same⟩
end Kl

set_option maxRecDepth 100000
set_option maxHeartbeats 4000000
namespace L2
open PySem PySem.Spec PyProof.Rows
/-! ### own rules: list.remove of a text, sums of tuples -/
def eqS (z : Str) (u : Value) : Bool := match u with
  | .str y _ => y == z
  | _ => false
theorem eqS_gives {z : Str} {t : Tok} : ∀ {zs : List Str} {us : List Value}, Vals (zs.map V.str) us → ∀ y ∈ us, MeetsSeq.EqGives y (.str z t) (eqS z y)
  | [], _, .nil => fun y hy => nomatch hy
  | x :: zs, _, .cons r rest => fun y hy => by
    obtain ⟨k, rfl⟩ := r
    rcases List.mem_cons.mp hy with rfl | hy
    · show MeetsSeq.EqGives _ _ (x == z)
      rw [← SeqAt.str_beq]
      exact SeqRoads2.EqGives.str x z k t
    · exact eqS_gives rest y hy
theorem eqS_at {z : Str} : ∀ {zs : List Str} {us : List Value}, Vals (zs.map V.str) us → ∀ (m : Nat) (h : m < us.length), eqS z us[m] = true ↔ zs[m]? = some z
  | [], _, .nil, m, h => absurd h (Nat.not_lt_zero _)
  | x :: zs, _, .cons r rest, 0, _ => by
    obtain ⟨k, rfl⟩ := r
    show (x == z) = true ↔ some x = some z
    rw [beq_iff_eq, Option.some_inj]
  | x :: zs, _, .cons r rest, m + 1, h => eqS_at rest m (Nat.lt_of_succ_lt_succ h)
theorem erase_mapS : ∀ (l : List Str) (j : Nat), (l.map V.str).eraseIdx j = (l.eraseIdx j).map V.str
  | [], j => by simp
  | a :: r, 0 => by simp
  | a :: r, j + 1 => by
    have ih := erase_mapS r j
    simp [ih]
section
variable {X : Cx}
def rRemS : V → List V → Hp → VK → Prop := fun x xs H Q => ∃ (l : Addr) (zs : List Str) (z : Str) (j : Nat), x = .ref l ∧ xs = [.str z] ∧ H l = some (.lst (zs.map V.str)) ∧ zs[j]? = some z ∧ (∀ m : Nat, m < j → zs[m]? ≠ some z) ∧ Q .non (upd H l (.lst ((zs.eraseIdx j).map V.str)))
theorem mt_removeS : MtM X "list.remove" rRemS := by
  intro pins s σ H x xs v us Q I rx rxs h
  obtain ⟨l, zs, z, j, rfl, rfl, hH, hj, hno, q⟩ := h
  cases rx
  obtain ⟨u, rfl, ru⟩ := rxs.one
  obtain ⟨t, rfl⟩ := ru
  obtain ⟨hz, its, n, r, hl, e⟩ := I.lstM hH
  rw [List.length_map] at hl hz
  have hjn : j < zs.length := (List.getElem?_eq_some_iff.mp hj).1
  have hjl : j < its.toArray.size := by rw [List.size_toArray]; omega
  refine call_meets PySem.F.slot_list_remove ⟨_, e, rfl⟩ PySem.F.entry_list_remove (PySem.F.args_list_remove_2 _ _)
    (MeetsSeq.list_remove l its.toArray n (.str z t) (eqS z) (fun y hy => eqS_gives r y (by simpa using hy)) j hjl ?_ ?_ (by rw [List.size_toArray]; omega)) ⟨e, ?_⟩
  · exact (eqS_at r j (by simpa using hjl)).mpr hj
  · intro m hm hmj
    cases c : eqS z its.toArray[m] with
    | false => rfl
    | true => exact absurd ((eqS_at r m (by simpa using hm)).mp c) (hno m hmj)
  · have rr := r.eraseIdx j
    rw [erase_mapS] at rr
    refine ⟨.non, _, I.lset (its' := its.eraseIdx j) (t' := s.toks) hH e ?_ rr ?_, rfl, q⟩
    · show its.toArray.eraseIdxIfInBounds j = (its.eraseIdx j).toArray
      rw [List.eraseIdxIfInBounds_toArray]
    · rw [List.length_map]
      have : (zs.eraseIdx j).length ≤ zs.length := by rw [List.length_eraseIdx]; split <;> omega
      omega
/-- t + u, whichever object it is -/
def rCatC : R2 := fun x y H Q => ∃ a b xs ys, x = .ref a ∧ y = .ref b ∧ H a = some (.tup xs) ∧ H b = some (.tup ys) ∧ xs.length + ys.length ≤ sizeLine ∧ ∀ p G, (∀ c o, H c = some o → G c = some o) → G p = some (.tup (xs ++ ys)) → Q (.ref p) G
theorem op_catC : OpR X (binaryOp .Add) rCatC := by
  intro pins s σ H x y v u Q I rx ry h
  obtain ⟨a, b, xs, ys, rfl, rfl, ha, hb, hz, q⟩ := h
  refine op_catA pins s σ H _ _ v u Q I rx ry ⟨a, b, xs, ys, rfl, rfl, .inl (.inl ha), .inl (.inl hb), hz, fun e => q b H (fun _ _ e => e) (by rw [e]; exact hb), fun _ e => q a H (fun _ _ e => e) (by rw [e, List.append_nil]; exact ha), fun _ _ p np => q p _ (fun c o e => ?_) upd_same⟩
  rw [upd_ne (fun z => by rw [z, np] at e; cases e)]
  exact e
end
end L2

set_option maxRecDepth 100000
set_option maxHeartbeats 4000000
namespace Gx
open PySem PySem.Spec PyProof.Rows L2
/-! data stay while nothing is changed -/
theorem sqT_st {K : PySem.W.Frag} {H H' : Hp} {a : Addr} {xs : List V} (s : ∀ b o, H b = some o → H' b = some o) (h : SqT K H a xs) : SqT K H' a xs := by
  rcases h with (h | ⟨o, h⟩) | h
  · exact .inl (.inl (s _ _ h))
  · exact .inl (.inr ⟨o, s _ _ h⟩)
  · exact .inr h
theorem sqL_st {K : PySem.W.Frag} {H H' : Hp} {a : Addr} {xs : List V} (s : ∀ b o, H b = some o → H' b = some o) (h : SqL K H a xs) : SqL K H' a xs := by
  rcases h with (h | ⟨o, h⟩) | h
  · exact .inl (.inl (s _ _ h))
  · exact .inl (.inr ⟨o, s _ _ h⟩)
  · exact .inr h
mutual
theorem dp_st {K : PySem.W.Frag} {H H' : Hp} (s : ∀ b o, H b = some o → H' b = some o) : ∀ (d : PyData) (v : V), Dp K H v d → Dp K H' v d
  | .none, _, h => by cases h; exact .non
  | .bool _, _, h => by cases h; exact .bl _
  | .int _, _, h => by cases h; exact .int _
  | .str _, _, h => by cases h; exact .str _
  | .list ds, _, h => by
    cases h with
    | lst e r => exact .lst (sqL_st s e) (dpAll_st s ds _ r)
  | .tuple ds, _, h => by
    cases h with
    | tup e r => exact .tup (sqT_st s e) (dpAll_st s ds _ r)
  | .dict _, _, h => by cases h
theorem dpAll_st {K : PySem.W.Frag} {H H' : Hp} (s : ∀ b o, H b = some o → H' b = some o) : ∀ (ds : List PyData) (vs : List V), DpAll K H vs ds → DpAll K H' vs ds
  | [], _, h => by cases h; exact .nil
  | d :: ds, _, h => by
    cases h with
    | cons a r => exact .cons (dp_st s d _ a) (dpAll_st s ds _ r)
end
theorem _root_.L2.Dp.st {K : PySem.W.Frag} {H H' : Hp} {v : V} {d : PyData} (h : Dp K H v d) (s : ∀ b o, H b = some o → H' b = some o) : Dp K H' v d := dp_st s d v h
theorem _root_.L2.DpAll.st {K : PySem.W.Frag} {H H' : Hp} {vs : List V} {ds : List PyData} (h : DpAll K H vs ds) (s : ∀ b o, H b = some o → H' b = some o) : DpAll K H' vs ds := dpAll_st s ds vs h
end Gx

set_option maxRecDepth 100000
set_option maxHeartbeats 4000000
namespace Kl
open PySem PySem.Spec PyProof.Rows L2 Gx Mx
theorem cps_app' (a b : Str) : (a ++ b).cps.toList = a.cps.toList ++ b.cps.toList := by
  show (a.cps ++ b.cps).toList = _
  rw [Array.toList_append]
theorem sum_by {n : Nat} : ∀ {q : List Str}, (∀ z ∈ q, z.length ≤ n) → (q.map (·.length)).sum ≤ q.length * n
  | [], _ => Nat.zero_le _
  | a :: r, h => by
    have h1 := h a List.mem_cons_self
    have h2 := sum_by fun z hz => h z (List.mem_cons_of_mem _ hz)
    rw [List.map_cons, List.sum_cons, List.length_cons, Nat.add_mul]
    omega
theorem le_sum : ∀ {l : List Str} {w : Str}, w ∈ l → w.length ≤ (l.map (·.length)).sum
  | a :: r, w, h => by
    rw [List.map_cons, List.sum_cons]
    rcases List.mem_cons.mp h with rfl | h
    · omega
    · have := le_sum h
      omega
theorem join_cut (z y : Str) : Txt.join y (Txt.split z y) = z := by
  rw [TL.join_eq]
  exact StrLaws.join_split z y
theorem split_ne (z y : Str) : Txt.split z y ≠ [] := fun h => by
  have := split_pos z y
  rw [h] at this
  exact absurd this (by decide)
theorem split_sum {z y : Str} (hy : 1 ≤ y.length) : ((Txt.split z y).map (·.length)).sum + (Txt.split z y).length ≤ z.length + 1 := by
  have h1 := split_weight z y hy
  have h3 := split_pos z y
  omega
theorem split_short {z y w : Str} (hy : 1 ≤ y.length) (h : w ∈ Txt.split z y) : w.length ≤ z.length := by
  have h1 := split_sum (z := z) hy
  have h2 := le_sum h
  have h3 := split_pos z y
  omega
theorem name_len {z : Str} (h : nameB z = true) : z.length ≤ 8 := by
  unfold nameB at h
  simp only [Bool.and_eq_true, decide_eq_true_eq] at h
  exact h.1.2
theorem low_no {z : Str} (h : nameB z = true) {c : Nat} (hc : c ∈ z.cps.toList) : 97 ≤ c ∧ c ≤ 122 := by
  unfold nameB at h
  rw [Bool.and_eq_true] at h
  have := List.all_eq_true.mp h.2 c hc
  exact of_decide_eq_true this
/-! ### sorted names, and their texts -/
def goodM (m : Nat) (q : List Str) : Bool := decide (q.length ≤ m) && (q.all nameB && sortedS q)
def parseM (m : Nat) (z : Str) : Option (List Str) := if z = "0" then some [] else if goodM m (Txt.split z "+") = true then some (Txt.split z "+") else none
def textD (q : List Str) : Str := if q = [] then "0" else Txt.join "+" q
theorem good_len {m : Nat} {q : List Str} (h : goodM m q = true) : q.length ≤ m := by
  unfold goodM at h
  rw [Bool.and_eq_true] at h
  exact of_decide_eq_true h.1
theorem good_names {m : Nat} {q : List Str} (h : goodM m q = true) : ∀ z ∈ q, nameB z = true := fun z hz => by
  unfold goodM at h
  rw [Bool.and_eq_true, Bool.and_eq_true] at h
  exact List.all_eq_true.mp h.2.1 z hz
theorem good_up {m n : Nat} {q : List Str} (h : goodM m q = true) (hn : m ≤ n) : goodM n q = true := by
  unfold goodM at h ⊢
  rw [Bool.and_eq_true] at h ⊢
  exact ⟨decide_eq_true (Nat.le_trans (of_decide_eq_true h.1) hn), h.2⟩
theorem split_names {q : List Str} (h : ∀ z ∈ q, nameB z = true) (hne : q ≠ []) : Txt.split (Txt.join "+" q) "+" = q :=
  TL.split_join (s := 43) (S := []) (by decide +kernel) (by decide +kernel) hne fun p hp hc => by
    have := low_no (h p hp) hc
    omega
theorem text_parse {m : Nat} {q : List Str} (h : goodM m q = true) : parseM m (textD q) = some q := by
  unfold textD
  split
  · rename_i e
    subst e
    rfl
  · rename_i e
    have hs := split_names (good_names h) e
    have h0 : Txt.join "+" q ≠ "0" := fun c => by
      rw [c] at hs
      have h2 : Txt.split ("0" : Str) "+" = [("0" : Str)] := by decide +kernel
      rw [h2] at hs
      have h3 := good_names h "0" (by rw [← hs]; exact List.mem_cons_self)
      exact absurd h3 (by decide +kernel)
    unfold parseM
    rw [if_neg h0, hs, if_pos h]
theorem parse_good {m : Nat} {w : Str} {q : List Str} (h : parseM m w = some q) : goodM m q = true := by
  unfold parseM at h
  split at h
  · cases h
    exact decide_eq_true (Nat.zero_le m) ▸ rfl
  · split at h
    · rename_i e c
      cases h
      exact c
    · cases h
theorem textD_no {q : List Str} (hn : ∀ z ∈ q, nameB z = true) (c : Nat) (hc : c ∈ (textD q).cps.toList) : c = 48 ∨ c = 43 ∨ (97 ≤ c ∧ c ≤ 122) := by
  unfold textD at hc
  split at hc
  · left
    have : ("0" : Str).cps.toList = [48] := by decide +kernel
    rw [this] at hc
    exact List.mem_singleton.mp hc
  · rename_i e
    rw [TL.join_eq] at hc
    clear e
    induction q with
    | nil => cases hc
    | cons a r ih =>
      cases r with
      | nil => exact .inr (.inr (low_no (hn a List.mem_cons_self) hc))
      | cons b r =>
        have hc : c ∈ (a ++ "+" ++ Str.join "+" (b :: r)).cps.toList := hc
        rw [cps_app', cps_app'] at hc
        rcases List.mem_append.mp hc with hc | hc
        · rcases List.mem_append.mp hc with hc | hc
          · exact .inr (.inr (low_no (hn a List.mem_cons_self) hc))
          · have : ("+" : Str).cps.toList = [43] := by decide +kernel
            rw [this] at hc
            exact .inr (.inl (List.mem_singleton.mp hc))
        · exact ih (fun z hz => hn z (List.mem_cons_of_mem _ hz)) hc
theorem textD_len {m : Nat} {q : List Str} (h : goodM m q = true) : (textD q).length ≤ 9 * m + 1 := by
  unfold textD
  split
  · have : ("0" : Str).length = 1 := by decide +kernel
    rw [this]
    omega
  · rw [TL.join_eq]
    have h1 := StrLaws.join_length_le "+" q
    have h2 := good_len h
    have h3 : (q.map (·.length)).sum ≤ q.length * 8 := sum_by fun z hz => name_len (good_names h z hz)
    have h4 : ("+" : Str).length = 1 := by decide +kernel
    rw [h4] at h1
    omega
/-! ### lines of pages -/
structure Pg where
  note : Str
  pool : List Str
  made : List Str
  after : Str
deriving DecidableEq
structure PgOk (g : Pg) : Prop where
  n : nameB g.note = true
  p : goodM 8 g.pool = true
  m : goodM 2 g.made = true
  a : nameB g.after = true
def wordsP (g : Pg) : List Str := ["page", g.note, textD g.pool, "to", textD g.made, "then", g.after]
def lineP (g : Pg) : Str := Txt.join " " (wordsP g)
/-- what seven words tell -/
def readW (w0 w1 w2 w3 w4 w5 w6 : Str) : Option Pg :=
  if w0 = "page" ∧ w3 = "to" ∧ w5 = "then" then
    if nameB w1 = true ∧ nameB w6 = true then (parseM 8 w2).bind fun p => (parseM 2 w4).map fun m => (⟨w1, p, m, w6⟩ : Pg) else none
  else none
def parseW : List Str → Option Pg
  | [w0, w1, w2, w3, w4, w5, w6] => readW w0 w1 w2 w3 w4 w5 w6
  | _ => none
def parseP (z : Str) : Option Pg := parseW (Txt.split z " ")
theorem words_no {g : Pg} (h : PgOk g) : ∀ w ∈ wordsP g, 32 ∉ w.cps.toList := fun w hw hc => by
  simp only [wordsP, List.mem_cons, List.not_mem_nil, or_false] at hw
  rcases hw with rfl | rfl | rfl | rfl | rfl | rfl | rfl
  · exact absurd hc (by decide +kernel)
  · have := low_no h.n hc
    omega
  · have := textD_no (good_names h.p) 32 hc
    omega
  · exact absurd hc (by decide +kernel)
  · have := textD_no (good_names h.m) 32 hc
    omega
  · exact absurd hc (by decide +kernel)
  · have := low_no h.a hc
    omega
theorem line_split {g : Pg} (h : PgOk g) : Txt.split (lineP g) " " = wordsP g :=
  TL.split_join (s := 32) (S := []) (by decide +kernel) (by decide +kernel) (List.cons_ne_nil _ _) (words_no h)
theorem line_parse {g : Pg} (h : PgOk g) : parseP (lineP g) = some g := by
  unfold parseP
  rw [line_split h]
  show readW _ _ _ _ _ _ _ = _
  unfold readW
  rw [if_pos ⟨rfl, rfl, rfl⟩, if_pos ⟨h.n, h.a⟩, text_parse h.p, text_parse h.m]
  rfl
theorem read_ok {w0 w1 w2 w3 w4 w5 w6 : Str} {g : Pg} (h : readW w0 w1 w2 w3 w4 w5 w6 = some g) : PgOk g := by
  unfold readW at h
  split at h
  · split at h
    · rename_i c
      cases e1 : parseM 8 w2 with
      | none => rw [e1] at h; cases h
      | some p =>
        cases e2 : parseM 2 w4 with
        | none => rw [e1, e2] at h; cases h
        | some m =>
          rw [e1, e2] at h
          cases h
          exact ⟨c.1, parse_good e1, parse_good e2, c.2⟩
    · cases h
  · cases h
theorem parse_ok {z : Str} {g : Pg} (h : parseP z = some g) : PgOk g := by
  unfold parseP at h
  unfold parseW at h
  split at h
  · exact read_ok h
  · cases h
theorem line_len {g : Pg} (h : PgOk g) : (lineP g).length ≤ 200 := by
  unfold lineP
  rw [TL.join_eq]
  have h1 := StrLaws.join_length_le " " (wordsP g)
  have h2 : (" " : Str).length = 1 := by decide +kernel
  have h3 := name_len h.n
  have h4 := name_len h.a
  have h5 := textD_len h.p
  have h6 := textD_len h.m
  have h7 : ((wordsP g).map (·.length)).sum = 4 + g.note.length + (textD g.pool).length + 2 + (textD g.made).length + 4 + g.after.length := by
    show ("page" : Str).length + (g.note.length + ((textD g.pool).length + (("to" : Str).length + ((textD g.made).length + (("then" : Str).length + (g.after.length + 0)))))) = _
    rw [show ("page" : Str).length = 4 by decide +kernel, show ("to" : Str).length = 2 by decide +kernel, show ("then" : Str).length = 4 by decide +kernel]
    omega
  have h8 : (wordsP g).length = 7 := rfl
  rw [h2, h7, h8] at h1
  omega
end Kl

set_option maxRecDepth 100000
set_option maxHeartbeats 4000000
namespace Kl
open PySem PySem.Spec PyProof.Rows L2 Gx Mx
section
variable {P : Program} {w : World} {K : PySem.W.Frag} {mg : Str → Option Value} {base : Heap}
/-! ### is_sorted of many texts -/
def spSortL (K : PySem.W.Frag) : Sp := fun vs H Q _ => ∃ (p : Addr) (zs : List Str) (M : Int), vs = [.ref p, .int M] ∧ SqT K H p (zs.map V.str) ∧ TyX K H (.ref p) (.type "tuple") ∧ 0 ≤ M ∧ M ≤ 100 ∧ zs.length ≤ 5000 ∧ (∀ z ∈ zs, z.length ≤ 5000) ∧
  ∀ H', Same H H' → Q (.bl (decide ((zs.length : Int) ≤ M) && (zs.all nameB && sortedS zs))) H'
theorem ok_sortL {f : Addr} {fd : FuncData} (F : Fun K "is_sorted" "is_sorted" s_is_sorted f fd) (T : Top K mg) : FnOk P w K mg base CX0 3 f fd ["value", "most"] (spSortL K) := by
  have cc : Cal P w K mg base 2 "is_count" ["value"] (spCnt K) := T.d_is_count.cal fun f fd F => ok_cnt F T
  have cn : Cal P w K mg base 2 "is_name" ["value"] (spName K) := (T.d_is_name.cal fun f fd F => ok_name F T).mono (by decide)
  refine F.ok sc_is_sorted (fun vs H Q E h => ?_) (fun cdv A outer s H vs Q E hr h => ?_)
  · obtain ⟨p, zs, M, rfl, _⟩ := h
    rfl
  · obtain ⟨p, zs, M, rfl, hp, hT, hM, hM2, hlen, hz, hq⟩ := h
    refine ⟨_, pss_cons (ps_if (pt_not (pt_val (pe_cal cc hr (by rfl) (pa_cons (pv 1) pa_nil)))) (pss_one ps_never) pss_nil)
      (pss_cons (ps_if (PW.pt (pw_or (pt_not (pt_val (pe_callB call_isi (by rfl) T.b_isinstance (by decide +kernel) (pa_cons (pv 0) (pa_cons (pe_bltn (v := .ty "tuple") (by rfl) T.b_tuple (by decide +kernel) rfl) pa_nil)))))
          (pw_or1 (pt_cmpR op_gt (pe_callB call_len_seq (by rfl) T.b_len PySem.boot_len (pa_cons (pv 0) pa_nil)) (pv 1) (nomark _))))) (pss_one (ps_ret pe_bl)) pss_nil)
      (pss_cons (ps_if (pt_not (pt_val (pe_callB (cr_all rfl) (by rfl) T.b_all (by decide +kernel) (pa_cons (pe_lc (own := [("name", 2)]) (g := gName 2) (tt := tYes) rfl sc_is_sorted.nd (pi_tup (pv 0))
            (blkOk_by (N := ["value", "most", "name"]) (sc := defScope s_is_sorted) (by decide +kernel))
            (fun _ _ _ _ _ => pg_name (i := 2) sc_is_sorted.nd rfl (.inl rfl)) (fun _ _ _ _ _ => pts_nil) (fun _ _ _ _ _ => pe_cal cn hr (by rfl) (pa_cons (pv 2) pa_nil))) pa_nil)))) (pss_one (ps_ret pe_bl)) pss_nil)
      (pss_one (ps_ret (pe_cmpR (op_eqD hr.units) (pe_callTy call_list_of (by rfl) T.b_list (by decide +kernel) (pa_cons (pv 0) pa_nil)) (pe_callB cr_sortedTS (by rfl) T.b_sorted (by decide +kernel) (pa_cons (pv 0) pa_nil)) (nomark _)))))), ?_⟩
    have hc : cntV (.int M) = true := by
      show ((decide (-TEN60 < M) && decide (M < TEN60)) && decide (0 ≤ M)) = true
      rw [decide_eq_true (show -TEN60 < M by unfold TEN60; omega), decide_eq_true (show M < TEN60 by unfold TEN60; omega), decide_eq_true hM]
      rfl
    refine ⟨_, rfl, .int M, rfl, .inl ⟨M, rfl⟩, _, rfl, ?_⟩
    rw [hc]
    refine ⟨_, rfl, _, .ty "tuple", .type "tuple", .type "tuple", true, rfl, .ty _, hT, kit_ty (by decide +kernel), true, rfl, ?_⟩
    refine ⟨_, rfl, p, _, rfl, .inr hp, _, rfl, _, _, rfl, rfl, _, rfl, ite2 (fun e => ?_) (fun e => ?_)⟩
    · have e1 : decide ((zs.length : Int) ≤ M) = false := decide_eq_false (by
        have := of_decide_eq_true e
        rw [List.length_map] at this
        omega)
      rw [e1, Bool.false_and] at hq
      exact hq H (Same.refl H)
    · have e1 : decide ((zs.length : Int) ≤ M) = true := decide_eq_true (by
        have : ¬ (M < ((zs.map V.str).length : Int)) := fun z => e (decide_eq_true z)
        rw [List.length_map] at this
        omega)
      rw [e1, Bool.true_and] at hq
      refine ⟨_, rfl, p, rfl, ⟨_, hp⟩, fun D hD => ?_⟩
      refine lc_tup (xs := zs.map V.str) (fun j H2 => H2 D = some (.lst ((zs.take j).map fun z => V.bl (nameB z))) ∧ Same H H2) ⟨upd_same, fun b u e => by rw [upd_ne (ne_of_none e hD)]; exact e⟩ (fun j H2 _ hP => ?_) (fun j x H2 hj hP => ?_) (fun H2 hP => ?_)
      · rcases hp with (h | ⟨u, h⟩) | h
        · exact .inl (.inl (hP.2 _ _ h))
        · exact .inl (.inr ⟨u, hP.2 _ _ h⟩)
        · exact .inr h
      · obtain ⟨eD, sm⟩ := hP
        obtain ⟨z, hzj, rfl⟩ : ∃ z, zs[j]? = some z ∧ V.str z = x := by
          rw [List.getElem?_map] at hj
          cases e : zs[j]? with
          | none => rw [e] at hj; cases hj
          | some z => rw [e] at hj; exact ⟨z, rfl, by cases hj; rfl⟩
        refine ⟨rfl, _, rfl, _, rfl, .inl ⟨z, rfl, Nat.le_trans (hz z (List.mem_of_getElem? hzj)) (by decide)⟩, _, eD, ?_, ?_, fun b u e => by rw [upd_ne (ne_of_none e hD)]; exact sm b u e⟩
        · rw [List.length_map, List.length_take]
          exact Nat.lt_of_le_of_lt (Nat.le_trans (Nat.min_le_right _ _) hlen) (by decide)
        · rw [upd_same, List.take_add_one, hzj, List.map_append]
          rfl
      · obtain ⟨eD, sm⟩ := hP
        rw [List.length_map, List.take_length] at eD
        refine ⟨D, zs.map nameB, rfl, .inl (.inl (by rw [eD, List.map_map]; rfl)), _, rfl, ?_⟩
        have ea : (zs.map nameB).all id = zs.all nameB := by rw [List.all_map]; rfl
        rw [ea]
        cases hall : zs.all nameB with
        | false =>
          rw [hall, Bool.false_and] at hq
          exact hq _ sm
        | true =>
          rw [hall, Bool.true_and] at hq
          have hok : ∀ z ∈ zs, PyData.strOk z = true := fun z hz => names_low (List.all_eq_true.mp hall z hz)
          have hp2 : SqT K H2 p (zs.map V.str) := by
            rcases hp with (h | ⟨u, h⟩) | h
            · exact .inl (.inl (sm _ _ h))
            · exact .inl (.inr ⟨u, sm _ _ h⟩)
            · exact .inr h
          refine ⟨_, rfl, p, _, rfl, .inr hp2, fun l nl => ?_⟩
          have sm2 : Same H (upd H2 l (.lst (zs.map V.str))) := fun b u e => by rw [upd_ne (ne_of_none (sm b u e) nl)]; exact sm b u e
          have hp3 : SqT K (upd H2 l (.lst (zs.map V.str))) p (zs.map V.str) := by
            rcases hp with (h | ⟨u, h⟩) | h
            · exact .inl (.inl (sm2 _ _ h))
            · exact .inl (.inr ⟨u, sm2 _ _ h⟩)
            · exact .inr h
          refine ⟨_, rfl, p, zs, rfl, hp3, by omega, fun ys l2 hperm hsrt nl2 => ?_⟩
          refine ⟨.list (tD zs), .list (tD ys), ?_, ?_, shaped_texts hok, shaped_texts (fun z hz => hok z (hperm.mem_iff.mp hz)), ?_⟩
          · exact .lst (.inl (.inl (by rw [upd_ne (ne_of_none upd_same nl2), upd_same]))) (dp_texts zs)
          · exact .lst (.inl (.inl upd_same)) (dp_texts ys)
          · rw [PyData.eqv, eqv_texts, eq_sorted_iff hperm hsrt]
            exact hq _ (fun b u e => by rw [upd_ne (ne_of_none (sm2 b u e) nl2)]; exact sm2 b u e)
end
end Kl

set_option maxRecDepth 100000
set_option maxHeartbeats 4000000
namespace Kl
open PySem PySem.Spec PyProof.Rows L2 Gx Mx
section
variable {P : Program} {w : World} {K : PySem.W.Frag} {mg : Str → Option Value} {base : Heap}
theorem flat_strs' (zs : List Str) : (zs.map V.str).all flatV = true := by
  rw [List.all_map]
  exact List.all_eq_true.mpr fun _ _ => rfl
theorem inV_strs (z : Str) (zs : List Str) : inV (.str z) (zs.map V.str) = decide (z ∈ zs) := by
  unfold inV
  rw [List.any_map]
  have e : (fun y => eqV y (V.str z)) ∘ V.str = fun y => decide (y = z) := by
    funext y
    show (y == z) = decide (y = z)
    by_cases h : y = z
    · subst h
      rw [decide_eq_true rfl]
      exact beq_self_eq_true y
    · rw [decide_eq_false h]
      exact beq_eq_false_iff_ne.mpr h
  rw [e, Bool.eq_iff_iff, List.any_eq_true, decide_eq_true_eq]
  constructor
  · rintro ⟨y, hy, q⟩
    rw [← of_decide_eq_true q]
    exact hy
  · intro h
    exact ⟨z, h, decide_eq_true rfl⟩
/-! ### _are_kinds of kinds -/
def spAre : Sp := fun vs H Q _ => ∃ (leaf : Str) (md : Addr) (kvs : List (Key × V)) (M : Mak), vs = [.str leaf, .ref md] ∧ H md = some (.dK kvs) ∧ MakAt H kvs M ∧ Vld leaf M ∧ ∀ H', Same H H' → Q (.bl true) H'
theorem all_true (n : Nat) : (List.replicate n true).all id = true := by
  induction n with
  | zero => rfl
  | succ n ih => rw [List.replicate_succ, List.all_cons, ih]; rfl
theorem rep_snoc (j : Nat) : (List.replicate j (V.bl true)) ++ [V.bl true] = List.replicate (j + 1) (V.bl true) := by
  rw [List.replicate_succ', ]
theorem rep_map (n : Nat) : List.replicate n (V.bl true) = (List.replicate n true).map V.bl := by rw [List.map_replicate]
abbrev NA : List Str := ["leaf", "makings", "names", "name", "part"]
theorem ok_are {f : Addr} {fd : FuncData} (F : Fun K "_are_kinds" "_are_kinds" s_are_kinds f fd) (T : Top K mg) : FnOk P w K mg base CX0 5 f fd ["leaf", "makings"] spAre := by
  obtain ⟨tm, gm⟩ := T.g_MAX_KINDS
  have cn : Cal P w K mg base 4 "is_name" ["value"] (spName K) := (T.d_is_name.cal fun f fd F => ok_name F T).mono (by decide)
  have cm : Cal P w K mg base 4 "_is_making" ["value"] (spMaking K) := T.d_is_making.cal fun f fd F => ok_making F T
  have ca : Cal P w K mg base 4 "_all_names" ["leaf", "makings"] spNames := (T.d_all_names.cal fun f fd F => ok_names F T).mono (by decide)
  refine F.ok sc_are_kinds (fun vs H Q E h => ?_) (fun cdv A outer s H vs Q E hr h => ?_)
  · obtain ⟨leaf, md, kvs, M, rfl, _⟩ := h
    rfl
  · obtain ⟨leaf, md, kvs, M, rfl, hd, hM, hV, q⟩ := h
    have hu := hu_of hr
    refine ⟨_, pss_cons (ps_if (PW.pt (pw_or (pt_not (pt_val (pe_cal cn hr (by rfl) (pa_cons (pv 0) pa_nil)))) (pw_or1 (pt_not (pt_val (pe_callB call_isi (by rfl) T.b_isinstance (by decide +kernel) (pa_cons (pv 1) (pa_cons (pe_bltn (v := .ty "dict") (by rfl) T.b_dict (by decide +kernel) rfl) pa_nil))))))))
          (pss_one (ps_ret pe_bl)) pss_nil)
      (pss_cons (ps_if (pt_not (pt_val (pe_callB (cr_all rfl) (by rfl) T.b_all (by decide +kernel) (pa_cons (pe_lock (pe_lc (own := [("name", 3)]) (g := gName 3) (tt := tYes) rfl sc_are_kinds.nd (pi_keys (pv 1))
            (blkOk_by (N := NA) (sc := defScope s_are_kinds) (by decide +kernel)) (fun _ _ _ _ _ => pg_name (i := 3) sc_are_kinds.nd rfl (.inl rfl)) (fun _ _ _ _ _ => pts_nil)
            (fun _ _ _ _ _ => pe_and (pe_cal cn hr (by rfl) (pa_cons (pv 3) pa_nil)) (pe_one (pe_cal cm hr (by rfl) (pa_cons (pe_dget hu (pv 1) (pv 3) (fun _ _ => rfl)) pa_nil)))))) pa_nil)))) (pss_one (ps_ret pe_bl)) pss_nil)
      (pss_cons (ps_set (i := 2) sc_are_kinds.nd rfl (.inr rfl) (pe_cal ca hr (by rfl) (pa_cons (pv 0) (pa_cons (pv 1) pa_nil))))
      (pss_cons (ps_if (pt_cmpR op_gt (pe_callB call_len_seq (by rfl) T.b_len PySem.boot_len (pa_cons (pv 2) pa_nil)) (pe_glob (v := .int 6) (by rfl) gm ⟨_, rfl⟩) (nomark _)) (pss_one (ps_ret pe_bl)) pss_nil)
      (pss_one (ps_ret (pe_callB (cr_all rfl) (by rfl) T.b_all (by decide +kernel) (pa_cons (pe_lock (pe_lc2 (own := [("name", 3), ("part", 4)]) (vs1 := [4]) (g := gName 3) (g1 := gName 4) (tt := tYes) (tt1 := tYes) rfl sc_are_kinds.nd (pi_keys (pv 1))
            (blkOk_by (N := NA) (sc := defScope s_are_kinds) (by decide +kernel)) (by decide) (fun _ _ _ _ _ => pg_name (i := 3) sc_are_kinds.nd rfl (.inl rfl)) (fun _ _ _ _ _ => pts_nil) (fun _ _ _ _ _ => pi_tupK (K := K) (by exact rfl) (pe_dget hu (pv 1) (pv 3) (fun _ _ => rfl)))
            (fun _ _ _ _ _ => pg_name (i := 4) sc_are_kinds.nd rfl (.inl rfl)) (fun _ _ _ _ _ => pts_nil)
            (fun _ _ _ _ _ => pe_cmpR (op_inSeqK (K := K) (by exact rfl)) (pv 4) (pv 2) (by rfl)))) pa_nil))))))), ?_⟩
    have lM := hV.len
    have lk := hM.len
    -- is_name(leaf), isinstance(makings, dict)
    refine ⟨_, rfl, .str leaf, rfl, .inl ⟨leaf, rfl, Nat.le_trans (pool_len hV.lf) (by decide)⟩, _, rfl, ?_⟩
    rw [show nameV (.str leaf) = true from pool_name hV.lf]
    refine ⟨_, rfl, _, .ty "dict", .type "dict", .type "dict", true, rfl, .ty _, .base (.dK hd), kit_ty (by decide +kernel), true, rfl, ?_⟩
    -- all([..])
    refine ⟨md, _, hd, trivial, fun od => ?_⟩
    have dM : ∀ {j : Nat} {m : Str × List Str}, M[j]? = some m → ∀ {H2 : Hp}, Same (upd H md (.frz od (.dK kvs))) H2 → ∃ a, DGet H2 md (.str m.1) (some (.ref a)) ∧ TupZ H2 a (m.2.map V.str) := by
      intro j m hj H2 s2
      obtain ⟨ps, a, e1, e2, e3⟩ := hM.key (z := m.1) (List.mem_map.mpr ⟨m, List.mem_of_getElem? hj, rfl⟩)
      rw [lookM_mem hV.nd (List.mem_of_getElem? hj)] at e1
      cases e1
      have na : a ≠ md := e3.ne hd (fun _ => nofun)
      refine ⟨a, .inl ⟨kvs, Sum.inr m.1, .inr ⟨od, s2 _ _ upd_same⟩, rfl, e2.symm⟩, (e3.at fun o e => by rw [upd_ne na]; exact e).mono s2⟩
    refine ⟨_, rfl, md, od, rfl, .inl ⟨kvs, upd_same, fun D hD => ?_⟩⟩
    refine lc_it walk_keys (fun j H2 => H2 D = some (.lst (List.replicate j (V.bl true))) ∧ Same (upd H md (.frz od (.dK kvs))) H2) ⟨upd_same, fun b u e => by rw [upd_ne (ne_of_none e hD)]; exact e⟩ (fun j H2 _ hP => hP.2 _ _ upd_same) (fun j x H2 H2' hj hP hy => ?_) (fun H2 hP => ?_)
    · obtain ⟨eD, sm⟩ := hP
      obtain ⟨rfl, k, v, hkv, rfl⟩ := hy
      obtain ⟨m, a, hm, rfl, rfl, _⟩ := hM.at hkv
      have hmM := List.mem_of_getElem? hm
      obtain ⟨p1, p2, p3, p4⟩ := hV.parts m hmM
      obtain ⟨a', hg, ha⟩ := dM hm sm
      have hpool : m.1 ∈ POOL := hV.keys _ (List.mem_map.mpr ⟨m, hmM, rfl⟩)
      refine ⟨rfl, _, rfl, .str m.1, rfl, .inl ⟨m.1, rfl, Nat.le_trans (pool_len hpool) (by decide)⟩, _, rfl, ?_⟩
      rw [show nameV (.str m.1) = true from pool_name hpool]
      refine ⟨_, rfl, _, rfl, md, _, rfl, hg, a', m.2, rfl, ha, List.all_eq_true.mpr fun z hz => pool_name (hV.part hmM hz), p1, p2, p3, fun z hz => Nat.le_trans (pool_len (hV.part hmM hz)) (by decide), fun H3 s3 => ?_⟩
      refine ⟨_, s3 _ _ eD, ?_, ?_, fun b u e => by rw [upd_ne (ne_of_none e hD)]; exact s3 _ _ (sm b u e)⟩
      · rw [List.length_replicate]
        exact Nat.lt_of_le_of_lt (show j ≤ 6 by omega) (by decide)
      · rw [upd_same, rep_snoc]
    obtain ⟨eD, sm⟩ := hP
    have s1 := same_unlock hd sm
    refine ⟨sm _ _ upd_same, D, List.replicate kvs.length true, rfl, .inl (.inl ?_), _, rfl, ?_⟩
    · have nD : D ≠ md := fun z => by
        rw [z, upd_same] at hD
        cases hD
      rw [upd_ne nD, eD, rep_map]
    rw [all_true]
    generalize upd H2 md (.dK kvs) = H3 at s1
    have hd3 := s1 _ _ hd
    have hM3 : MakAt H3 kvs M := hM.same fun a xs e => e.mono s1
    -- names
    refine ⟨_, rfl, _, rfl, leaf, md, kvs, keysOf M, rfl, hd3, hM3.keys, by unfold keysOf; rw [List.length_map]; omega, fun ns p H4 hns s4 np hp => ?_⟩
    refine ⟨_, rfl, p, _, rfl, .inr (.inl (.inl hp)), _, _, rfl, rfl, _, rfl, ?_⟩
    have few : ns.length ≤ 6 := hV.few ns hns.nd fun z hz => (hns.mem z).mp hz
    refine ite2 (fun e => ?_) (fun _ => ?_)
    · exfalso
      have e := of_decide_eq_true e
      rw [List.length_map] at e
      omega
    have hd4 := s4 _ _ hd3
    have hM4 : MakAt H4 kvs M := hM3.same fun a xs e => e.mono s4
    have s14 : Same H H4 := fun b u e => s4 _ _ (s1 _ _ e)
    clear hd hM hd3 hM3 s1 s4 hD eD sm dM
    refine ⟨md, _, hd4, trivial, fun od => ?_⟩
    have npm : p ≠ md := fun z => by
      rw [z, hd4] at hp
      cases hp
    refine ⟨_, rfl, md, od, rfl, .inl ⟨kvs, upd_same, fun D hD => ?_⟩⟩
    refine walk_in walk_keys (fun j H2 => ∃ n, H2 D = some (.lst (List.replicate n (V.bl true))) ∧ n ≤ 3 * j ∧ Same (upd H4 md (.frz od (.dK kvs))) H2) ⟨0, upd_same, Nat.zero_le _, fun b u e => by rw [upd_ne (ne_of_none e hD)]; exact e⟩ (fun j H2 _ hP => by obtain ⟨_, _, _, s5⟩ := hP; exact s5 _ _ upd_same) (fun j x H2 H2' hj hP hy => ?_) (fun H2 hP => ?_)
    · obtain ⟨n, eD, ln, sm⟩ := hP
      obtain ⟨rfl, k, v, hkv, rfl⟩ := hy
      obtain ⟨m, a, hm, rfl, rfl, ha⟩ := hM4.at hkv
      have hmM := List.mem_of_getElem? hm
      obtain ⟨p1, p2, p3, p4⟩ := hV.parts m hmM
      have na : a ≠ md := ha.ne hd4 (fun _ => nofun)
      have ha1 : TupZ (upd H4 md (.frz od (.dK kvs))) a (m.2.map V.str) := ha.at fun o e => by rw [upd_ne na]; exact e
      have hv : valV kvs (Sum.inr m.1) = some (.ref a) := by
        obtain ⟨ps, a', e1, e2, e3⟩ := hM4.key (z := m.1) (List.mem_map.mpr ⟨m, hmM, rfl⟩)
        have e4 : (kvs.map (·.1)).Nodup := by
          rw [hM4.keys]
          exact List.Pairwise.map Sum.inr (fun a b h q => h (Sum.inr.inj q)) hV.nd
        have e5 := val_nodup e4 (Sum.inr m.1, .ref a) (List.mem_of_getElem? hkv)
        exact e5
      refine ⟨rfl, ?_⟩
      refine ⟨_, rfl, _, rfl, md, .ref a, rfl, .inl ⟨kvs, Sum.inr m.1, .inr ⟨od, sm _ _ upd_same⟩, rfl, hv.symm⟩, a, rfl, ⟨_, (ha1.mono sm).sq⟩, ?_⟩
      refine walk_in (walk_tup (K := K) (a := a) (xs := m.2.map V.str)) (fun i H3 => H3 D = some (.lst (List.replicate (n + i) (V.bl true))) ∧ Same (upd H4 md (.frz od (.dK kvs))) H3) ⟨eD, sm⟩ (fun i H3 _ hP => (ha1.mono hP.2).sq) (fun i x H3 H3' hi hP hy => ?_) (fun H3 hP => ?_)
      · obtain ⟨eD3, sm3⟩ := hP
        obtain ⟨rfl, hx⟩ := hy
        obtain ⟨z, hz, rfl⟩ : ∃ z, m.2[i]? = some z ∧ V.str z = x := by
          rw [List.getElem?_map] at hx
          cases e : m.2[i]? with
          | none => rw [e] at hx; cases hx
          | some z => rw [e] at hx; exact ⟨z, rfl, by cases hx; rfl⟩
        have hin : z ∈ ns := (hns.mem z).mpr (p4 z (List.mem_of_getElem? hz))
        refine ⟨rfl, _, rfl, _, rfl, p, ns.map V.str, rfl, .inr (.inl (.inl (sm3 _ _ (by rw [upd_ne npm]; exact hp)))), rfl, flat_strs' ns, ?_⟩
        show ∃ acc, _
        rw [List.length_map] at hi
        refine ⟨_, eD3, ?_, ?_, fun b u e => by rw [upd_ne (ne_of_none e hD)]; exact sm3 b u e⟩
        · rw [List.length_replicate]
          exact Nat.lt_of_le_of_lt (show n + i ≤ 100 by omega) (by decide)
        · rw [upd_same]
          have e : inV (V.str z) (ns.map V.str) = true := by rw [inV_strs, decide_eq_true hin]
          simp only [e, Bool.false_eq_true, if_false]
          rw [rep_snoc, Nat.add_assoc]
      · obtain ⟨eD3, sm3⟩ := hP
        rw [List.length_map] at eD3
        exact ⟨_, eD3, by omega, sm3⟩
    · obtain ⟨n, eD, ln, sm⟩ := hP
      have s1 := same_unlock hd4 sm
      refine ⟨sm _ _ upd_same, D, List.replicate n true, rfl, .inl (.inl ?_), ?_⟩
      · have nD : D ≠ md := fun z => by
          rw [z, upd_same] at hD
          cases hD
        rw [upd_ne nD, eD, rep_map]
      rw [all_true]
      exact q _ fun b u e => s1 _ _ (s14 _ _ e)
end
end Kl

set_option maxRecDepth 100000
set_option maxHeartbeats 4000000
namespace Kl
open PySem PySem.Spec PyProof.Rows L2 Gx Mx
section
variable {P : Program} {w : World} {K : PySem.W.Frag} {mg : Str → Option Value} {base : Heap}
theorem kLM : ("_leaf" : Str) ≠ "_makings" := by decide +kernel
theorem kLN : ("_leaf" : Str) ≠ "_names" := by decide +kernel
theorem kMN : ("_makings" : Str) ≠ "_names" := by decide +kernel
theorem putF_app {k : Str} {v : V} : ∀ fs : List (Str × V), (∀ p ∈ fs, p.1 ≠ k) → putF k v fs = fs ++ [(k, v)]
  | [], _ => rfl
  | p :: fs, h => by
    have ih := putF_app (v := v) fs fun q hq => h q (List.mem_cons_of_mem _ hq)
    obtain ⟨a, b⟩ := p
    show (if a = k then (a, v) :: fs else (a, b) :: putF k v fs) = _
    rw [if_neg (h (a, b) List.mem_cons_self), ih]
    rfl
theorem same_new {H H1 : Hp} {p : Addr} {o : HO} (s : Same H H1) (n : H1 p = none) : Same H (upd H1 p o) := fun b u e => by
  rw [upd_ne (ne_of_none (s b u e) n)]
  exact s b u e
theorem at_texts {zs : List Str} {j : Nat} {x : V} (hj : (zs.map V.str)[j]? = some x) : ∃ z, zs[j]? = some z ∧ V.str z = x := by
  rw [List.getElem?_map] at hj
  cases e : zs[j]? with
  | none => rw [e] at hj; cases hj
  | some z => rw [e] at hj; exact ⟨z, rfl, by cases hj; rfl⟩
/-- the pairs of a dict, for some of its keys -/
def pairsOf' (kvs : List (Key × V)) (ys : List Str) : List (Key × V) := ys.map fun z => (Sum.inr z, (valV kvs (Sum.inr z)).getD .non)
theorem pairs_none {kvs : List (Key × V)} {ys : List Str} {z : Str} (h : z ∉ ys) : valV (pairsOf' kvs ys) (Sum.inr z) = none := by
  induction ys with
  | nil => rfl
  | cons y ys ih =>
    rw [List.mem_cons, not_or] at h
    show valV ((Sum.inr y, _) :: pairsOf' kvs ys) (Sum.inr z) = none
    rw [valV_neg (fun q => h.1 (Sum.inr.inj q).symm)]
    exact ih h.2
theorem mak_pairs {H : Hp} {kvs : List (Key × V)} {M : Mak} (h : MakAt H kvs M) : ∀ {ys : List Str}, (∀ z ∈ ys, z ∈ keysOf M) → MakAt H (pairsOf' kvs ys) (ys.map fun z => (z, (lookM M z).getD []))
  | [], _ => .nil
  | y :: ys, hy => by
    obtain ⟨ps, a, e1, e2, e3⟩ := h.key (hy y List.mem_cons_self)
    refine .cons ⟨rfl, a, ?_, ?_⟩ (mak_pairs h fun z hz => hy z (List.mem_cons_of_mem _ hz))
    · show (valV kvs (Sum.inr y)).getD .non = .ref a
      rw [e2]
      rfl
    · show TupZ H a (((lookM M y).getD []).map V.str)
      rw [e1]
      exact e3
/-! ### Kinds.__init__ -/
def spInit (C : Addr) : Sp := fun vs H Q _ => ∃ (x dx : Addr) (leaf : Str) (pd : Addr) (kvs : List (Key × V)) (M : Mak), vs = [.ref x, .str leaf, .ref pd] ∧ H x = some (.ins C dx []) ∧ H pd = some (.dK kvs) ∧ MakAt H kvs M ∧ Vld leaf M ∧
  ∀ (H' : Hp) (md : Addr) (M' : Mak) (ns : List Str), KindsAt C H' x md leaf M' ns → OrdOf M M' → IsNames leaf (keysOf M) ns → H md = none → (∀ b o, b ≠ x → H b = some o → H' b = some o) → Q .non H'
abbrev NI : List Str := ["self", "leaf", "makings", "name"]
theorem ok_init {C f : Addr} {fd : FuncData} (F : Fun K "__init__" "Kinds.__init__" s_Kinds_init f fd) (T : Top K mg) (TC : Cl_Kinds K mg C) : FnOk P w K mg base CX0 6 f fd ["self", "leaf", "makings"] (spInit C) := by
  have ca : Cal P w K mg base 5 "_are_kinds" ["leaf", "makings"] spAre := T.d_are_kinds.cal fun f fd F => ok_are F T
  have cn : Cal P w K mg base 5 "_all_names" ["leaf", "makings"] spNames := (T.d_all_names.cal fun f fd F => ok_names F T).mono (by decide)
  refine F.ok sc_Kinds_init (fun vs H Q E h => ?_) (fun cdv A outer s H vs Q E hr h => ?_)
  · obtain ⟨x, dx, leaf, pd, kvs, M, rfl, _⟩ := h
    rfl
  · obtain ⟨x, dx, leaf, pd, kvs, M, rfl, hx, hd, hM, hV, q⟩ := h
    have hu := hu_of hr
    refine ⟨_, pss_cons (ps_if (pt_not (pt_val (pe_cal ca hr (by rfl) (pa_cons (pv 1) (pa_cons (pv 2) pa_nil))))) (pss_one ps_never) pss_nil)
      (pss_cons (ps_fld (pv 0) (pv 1) rfl)
      (pss_cons (ps_fld (pv 0) (pe_dc (own := [("name", 3)]) (g := gName 3) (tt := tYes) rfl sc_Kinds_init.nd (pi_list (pe_callB (call_sortedD rfl) (by rfl) T.b_sorted (by decide +kernel) (pa_cons (pv 2) pa_nil)))
          (blkOk_by (N := NI) (sc := defScope s_Kinds_init) (by decide +kernel)) (fun _ _ _ _ _ => pg_name (i := 3) sc_Kinds_init.nd rfl (.inl rfl)) (fun _ _ _ _ _ => pts_nil) (fun _ _ _ _ _ => pv 3) (fun _ _ _ _ _ => pe_dget hu (pv 2) (pv 3) (fun _ _ => rfl))) rfl)
      (pss_one (ps_fld (pv 0) (pe_cal cn hr (by rfl) (pa_cons (pv 1) (pa_cons (pv 2) pa_nil))) rfl)))), ?_⟩
    have lM := hV.len
    have lk := hM.len
    refine ⟨_, rfl, _, rfl, leaf, pd, kvs, M, rfl, hd, hM, hV, fun H1 s1 => ⟨_, rfl, ?_⟩⟩
    -- self._leaf = leaf
    have hx1 := s1 _ _ hx
    refine ⟨_, rfl, _, rfl, x, C, dx, [], rfl, hx1, TC.cl, TC.n_leaf, by decide, ?_⟩
    have npx : pd ≠ x := fun z => by
      rw [z, hx] at hd
      cases hd
    have tupx : ∀ {H2 : Hp}, (∀ b o, b ≠ x → H b = some o → H2 b = some o) → MakAt H2 kvs M := fun {H2} s2 => hM.same fun a xs e => e.at fun o => s2 _ _ (e.ne hx (fun _ => nofun))
    have k1 : ∀ b o, b ≠ x → H b = some o → (upd H1 x (.ins C dx (putF "_leaf" (.str leaf) []))) b = some o := fun b o n e => by
      rw [upd_ne n]
      exact s1 b o e
    have x1 : (upd H1 x (.ins C dx (putF "_leaf" (.str leaf) []))) x = some (.ins C dx [("_leaf", .str leaf)]) := by
      rw [upd_same]
      rfl
    have f1 : ∀ b, (upd H1 x (.ins C dx (putF "_leaf" (.str leaf) []))) b = none → H b = none := fun b e => by
      have n : b ≠ x := fun z => by
        rw [z, upd_same] at e
        cases e
      rw [upd_ne n] at e
      exact s1.free e
    generalize upd H1 x (.ins C dx (putF "_leaf" (.str leaf) [])) = H2 at k1 x1 f1
    clear s1 hx1
    have hd2 := k1 _ _ npx hd
    have hM2 := tupx k1
    -- self._makings
    refine ⟨_, rfl, pd, kvs, keysOf M, rfl, .inl hd2, hM.keys, by unfold keysOf; rw [List.length_map]; omega, fun ys p hperm hsrt np => ?_⟩
    have nd : (keysOf M).Nodup := hV.nd
    have ndY : ys.Nodup := hperm.nodup_iff.mpr nd
    have lY : ys.length ≤ 6 := by
      rw [hperm.length_eq]
      unfold keysOf
      rw [List.length_map]
      exact lM
    refine ⟨p, rfl, ⟨_, .inl (.inl upd_same)⟩, fun D hD => ?_⟩
    have s2 : Same H2 (upd H2 p (.lst (ys.map V.str))) := same_new (Same.refl H2) np
    refine walk_in (walk_list (K := K) (a := p) (xs := ys.map V.str)) (fun j G => G D = some (.dK (pairsOf' kvs (ys.take j))) ∧ Same (upd H2 p (.lst (ys.map V.str))) G) ⟨upd_same, same_new (Same.refl _) hD⟩ (fun j G _ hP => .inl (.inl (hP.2 _ _ upd_same))) (fun j v G G' hj hP hy => ?_) (fun G hP => ?_)
    · obtain ⟨eD, sm⟩ := hP
      obtain ⟨rfl, hv⟩ := hy
      obtain ⟨z, hz, rfl⟩ := at_texts hv
      have hzM : z ∈ keysOf M := hperm.mem_iff.mp (List.mem_of_getElem? hz)
      obtain ⟨ps, a, e1, e2, e3⟩ := hM2.key hzM
      refine ⟨rfl, _, rfl, _, rfl, _, rfl, pd, .ref a, rfl, .inl ⟨kvs, Sum.inr z, .inl (sm _ _ (s2 _ _ hd2)), rfl, e2.symm⟩, pairsOf' kvs (ys.take j), Sum.inr z, rfl, eD, ?_, ?_, fun b u e => by rw [upd_ne (ne_of_none e hD)]; exact sm b u e⟩
      · unfold pairsOf'
        rw [List.length_map, List.length_take]
        exact Nat.lt_of_le_of_lt (Nat.le_trans (Nat.min_le_right _ _) lY) (by decide)
      · have hnot : z ∉ ys.take j := by
          intro hin
          obtain ⟨i, hi⟩ := List.mem_iff_getElem?.mp hin
          rw [List.getElem?_take] at hi
          by_cases c : i < j
          · rw [if_pos c] at hi
            have h1 := (List.getElem?_eq_some_iff.mp hi)
            have h2 := (List.getElem?_eq_some_iff.mp hz)
            have h3 := (List.getElem_inj (h₀ := h1.1) (h₁ := h2.1) ndY).mp (h1.2.trans h2.2.symm)
            omega
          · rw [if_neg c] at hi
            cases hi
        rw [upd_same, putK_new _ (pairs_none hnot), List.take_add_one, hz]
        unfold pairsOf'
        rw [List.map_append]
        show some (HO.dK (_ ++ [(Sum.inr z, V.ref a)])) = some (HO.dK (_ ++ [(Sum.inr z, (valV kvs (Sum.inr z)).getD .non)]))
        rw [e2]
        rfl
    obtain ⟨eD, sm⟩ := hP
    rw [List.length_map, List.take_length] at eD
    have s3 : Same H2 G := fun b u e => sm _ _ (s2 _ _ e)
    have fD : H2 D = none := s2.free hD
    have hx3 := s3 _ _ x1
    have nDx : D ≠ x := fun z => by
      rw [z, x1] at fD
      cases fD
    refine ⟨_, rfl, x, C, dx, _, rfl, hx3, TC.cl, TC.n_makings, by show 1 < 1000; decide, ?_⟩
    have e4 : putF "_makings" (.ref D) [("_leaf", .str leaf)] = [(("_leaf" : Str), V.str leaf), ("_makings", .ref D)] := putF_app _ fun p hp => by
      simp only [List.mem_cons, List.not_mem_nil, or_false] at hp
      subst hp
      exact kLM
    rw [e4]
    have k3 : ∀ b o, b ≠ x → H b = some o → (upd G x (.ins C dx [("_leaf", .str leaf), ("_makings", .ref D)])) b = some o := fun b o n e => by
      rw [upd_ne n]
      exact s3 _ _ (k1 b o n e)
    have x3 : (upd G x (.ins C dx [("_leaf", .str leaf), ("_makings", .ref D)])) x = some (.ins C dx [("_leaf", .str leaf), ("_makings", .ref D)]) := upd_same
    have d3 : (upd G x (.ins C dx [("_leaf", .str leaf), ("_makings", .ref D)])) D = some (.dK (pairsOf' kvs ys)) := by
      rw [upd_ne nDx]
      exact eD
    generalize upd G x (.ins C dx [("_leaf", .str leaf), ("_makings", .ref D)]) = H3 at k3 x3 d3
    clear sm eD s3 hx3 s2 x1 hM2 hd2
    have hM3 := tupx k3
    -- self._names
    refine ⟨_, rfl, _, rfl, leaf, pd, kvs, keysOf M, rfl, k3 _ _ npx hd, hM3.keys, by unfold keysOf; rw [List.length_map]; omega, fun ns t H4 hns s4 nt ht => ?_⟩
    refine ⟨_, rfl, x, C, dx, _, rfl, s4 _ _ x3, TC.cl, TC.n_names, by show 2 < 1000; decide, ?_⟩
    have e5 : putF "_names" (.ref t) [("_leaf", .str leaf), ("_makings", .ref D)] = [(("_leaf" : Str), V.str leaf), ("_makings", .ref D), ("_names", .ref t)] := putF_app _ fun p hp => by
      simp only [List.mem_cons, List.not_mem_nil, or_false] at hp
      rcases hp with rfl | rfl
      · exact kLN
      · exact kMN
    rw [e5]
    have k4 : ∀ b o, b ≠ x → H b = some o → (upd H4 x (.ins C dx [("_leaf", .str leaf), ("_makings", .ref D), ("_names", .ref t)])) b = some o := fun b o n e => by
      rw [upd_ne n]
      exact s4 _ _ (k3 b o n e)
    have ntx : t ≠ x := fun z => by
      rw [z, x3] at nt
      cases nt
    refine q _ D (ys.map fun z => (z, (lookM M z).getD [])) ns ⟨dx, t, pairsOf' kvs ys, upd_same, ?_, mak_pairs (tupx k4) fun z hz => hperm.mem_iff.mp hz, ?_⟩ (OrdOf.mk' hsrt hperm nd) hns (f1 _ fD) k4
    · rw [upd_ne nDx]
      exact s4 _ _ d3
    · rw [upd_ne ntx]
      exact ht
end
end Kl

set_option maxRecDepth 100000
set_option maxHeartbeats 4000000
namespace Kl
open PySem PySem.Spec PyProof.Rows L2 Gx Mx
theorem goodM_int (m : Nat) (q : List Str) : (decide ((q.length : Int) ≤ (m : Int)) && (q.all nameB && sortedS q)) = goodM m q := by
  unfold goodM
  rw [show decide (((q.length : Nat) : Int) ≤ (m : Int)) = decide (q.length ≤ m) by rw [decide_eq_decide]; omega]
theorem tyx_tup {K : PySem.W.Frag} {H : Hp} {p : Addr} {xs : List V} (h : H p = some (.tup xs)) : TyX K H (.ref p) (.type "tuple") := .base (.tup h)
section
variable {P : Program} {w : World} {K : PySem.W.Frag} {mg : Str → Option Value} {base : Heap}
/-! ### text_of, words_of, names_in -/
def spTextOf (K : PySem.W.Frag) : Sp := fun vs H Q _ => ∃ (p : Addr) (q : List Str), vs = [V.ref p] ∧ SqT K H p (q.map V.str) ∧ goodM 20 q = true ∧ Q (.str (textD q)) H
theorem ok_textof {f : Addr} {fd : FuncData} (F : Fun K "text_of" "text_of" s_text_of f fd) (T : Top K mg) : FnOk P w K mg base CX0 1 f fd ["names"] (spTextOf K) := by
  refine F.ok sc_text_of (fun vs H Q E h => ?_) (fun cdv A outer s H vs Q E hr h => ?_)
  · obtain ⟨p, q, rfl, _⟩ := h
    rfl
  · obtain ⟨p, q, rfl, hp, hg, hQ⟩ := h
    refine ⟨_, pss_one (ps_ret (pe_ifExp (pt_truth (pv 0) (fun _ => rfl)) (pe_join pe_str (pv 0)) pe_str)), ?_⟩
    unfold textD at hQ
    cases q with
    | nil =>
      rw [if_pos rfl] at hQ
      exact ⟨_, rfl, false, .inr (.inl ⟨_, hp, rfl⟩), hQ⟩
    | cons z r =>
      rw [if_neg (List.cons_ne_nil _ _)] at hQ
      refine ⟨_, rfl, true, .inr (.inl ⟨_, hp, rfl⟩), ?_⟩
      show (if true = true then _ else _)
      rw [if_pos rfl]
      have l20 := good_len hg
      have ls := sum_by fun z hz => name_len (good_names hg z hz)
      have e1 : ("+" : Str).length = 1 := rfl
      exact ⟨⟨_, rfl⟩, _, rfl, _, p, _, rfl, rfl, .inr hp, by rw [e1]; omega, hQ⟩
def spWords : Sp := fun vs H Q _ => ∃ z : Str, vs = [V.str z] ∧ z.length ≤ 4000 ∧ ∀ p H', Same H H' → H' p = some (.lst ((Txt.split z " ").map V.str)) → Q (.ref p) H'
theorem ok_words {f : Addr} {fd : FuncData} (F : Fun K "words_of" "words_of" s_words_of f fd) (T : Top K mg) : FnOk P w K mg base CX0 1 f fd ["line"] spWords := by
  refine F.ok sc_words_of (fun vs H Q E h => ?_) (fun cdv A outer s H vs Q E hr h => ?_)
  · obtain ⟨z, rfl, _⟩ := h
    rfl
  · obtain ⟨z, rfl, hz, q⟩ := h
    refine ⟨_, pss_one (ps_ret (pe_ifExp (pt_val (pe_callB call_isi (by rfl) T.b_isinstance (by decide +kernel) (pa_cons (pv 0) (pa_cons (pe_bltn (v := .ty "str") (by rfl) T.b_str (by decide +kernel) rfl) pa_nil)))) (pe_split (pv 0) pe_str) (pe_lst pa_nil))), ?_⟩
    have big : 100000 ≤ sizeLine := by decide
    refine ⟨_, rfl, _, .ty "str", .type "str", .type "str", true, rfl, .ty _, .base (.str z), kit_ty (by decide +kernel), true, rfl, ?_⟩
    show (if true = true then _ else _)
    rw [if_pos rfl]
    exact ⟨_, rfl, ⟨_, rfl⟩, z, _, rfl, rfl, rfl, by omega, fun p np => q p _ (same_new (Same.refl H) np) upd_same⟩
def spNI : Sp := fun vs H Q _ => ∃ (z : Str) (m : Nat), vs = [V.str z, V.int (m : Nat)] ∧ m ≤ 100 ∧ z.length ≤ 4000 ∧ (∀ p q H', parseM m z = some q → Same H H' → H' p = some (.tup (q.map V.str)) → Q (.ref p) H') ∧ (∀ H', parseM m z = none → Same H H' → Q .non H')
theorem ok_ni {f : Addr} {fd : FuncData} (F : Fun K "names_in" "names_in" s_names_in f fd) (T : Top K mg) : FnOk P w K mg base CX0 4 f fd ["text", "most"] spNI := by
  have cs : CalO P w K mg base 3 "is_sorted" ["value", "most"] 1 ["most"] (fun vs zs => vs ++ zs) (spSortL K) := T.d_is_sorted.calO fun f fd F => ok_sortL F T
  refine F.ok sc_names_in (fun vs H Q E h => ?_) (fun cdv A outer s H vs Q E hr h => ?_)
  · obtain ⟨z, m, rfl, _⟩ := h
    rfl
  · obtain ⟨z, m, rfl, hm, hz, q1, q2⟩ := h
    refine ⟨_, pss_cons (ps_if (pt_not (pt_val (pe_callB call_isi (by rfl) T.b_isinstance (by decide +kernel) (pa_cons (pv 0) (pa_cons (pe_bltn (v := .ty "str") (by rfl) T.b_str (by decide +kernel) rfl) pa_nil))))) (pss_one (ps_ret pe_non)) pss_nil)
      (pss_cut (ps_set (i := 2) sc_names_in.nd rfl (.inl rfl) (pe_ifExp (pt_cmpR op_eq (pv 0) pe_str (nomark _)) (pe_tup pa_nil) (pe_callTy call_tuple_of (by rfl) T.b_tuple (by decide +kernel) (pa_cons (pe_split (pv 0) pe_str) pa_nil))))
      (pss_one (ps_ret (pe_ifExp (pt_val (pe_calO cs hr (by rfl) (pa_cons (pv 2) pa_nil) (pk_cons (pv 1) pk_nil))) (pv 2) pe_non)))), ?_⟩
    have big : 100000 ≤ sizeLine := by decide
    refine ⟨_, rfl, _, .ty "str", .type "str", .type "str", true, rfl, .ty _, .base (.str z), kit_ty (by decide +kernel), true, rfl, ?_⟩
    show (if (!true) = true then _ else _)
    rw [if_neg (by decide)]
    refine ⟨fun σ' G => ∃ (p : Addr) (q : List Str), σ' = [some (.str z), some (.int (m : Nat)), some (.ref p)] ∧ G p = some (.tup (q.map V.str)) ∧ Same H G ∧ parseM m z = (if goodM m q = true then some q else none) ∧ q.length ≤ 5000 ∧ ∀ y ∈ q, y.length ≤ 5000, ?_, ?_⟩
    · refine ⟨_, rfl, rfl, _, rfl, ite2 (fun c => ?_) (fun c => ?_)⟩
      · have ez : z = "0" := V.str.inj (of_decide_eq_true c)
        refine ⟨Nat.zero_le _, fun p np => ⟨p, [], rfl, upd_same, same_new (Same.refl H) np, ?_, Nat.zero_le _, nofun⟩⟩
        unfold parseM
        rw [if_pos ez]
        rfl
      · have ez : z ≠ "0" := fun h => c (decide_eq_true (by rw [h]))
        refine ⟨_, rfl, ⟨_, rfl⟩, z, _, rfl, rfl, rfl, by omega, fun l nl => ?_⟩
        have s1 := same_new (o := .lst ((Txt.split z "+").map V.str)) (Same.refl H) nl
        refine ⟨l, _, rfl, .inl ⟨.inl (.inl upd_same), fun t nt => ?_⟩⟩
        refine ⟨t, Txt.split z "+", rfl, upd_same, same_new s1 nt, ?_, ?_, fun y hy => Nat.le_trans (split_short (by decide +kernel) hy) (by omega)⟩
        · unfold parseM
          rw [if_neg ez]
        · have := split_le z "+"
          omega
    rintro σ' G ⟨p, q, rfl, ep, sm, hpa, hl, hy⟩
    refine ⟨_, rfl, _, rfl, rfl, rfl, p, q, (m : Nat), rfl, .inl (.inl ep), tyx_tup ep, by omega, by omega, hl, hy, fun H' s => ⟨_, rfl, ?_⟩⟩
    rw [goodM_int]
    cases c : goodM m q with
    | true =>
      rw [c, if_pos rfl] at hpa
      exact ⟨_, rfl, q1 p q H' hpa (fun b o e => s _ _ (sm _ _ e)) (s _ _ ep)⟩
    | false =>
      rw [c, if_neg (by decide)] at hpa
      exact q2 H' hpa fun b o e => s _ _ (sm _ _ e)
end
end Kl

set_option maxRecDepth 100000
set_option maxHeartbeats 4000000
namespace Gx
open PySem PySem.Spec PyProof.Rows L2
section
variable {X : Cx} {K : PySem.W.Frag} {e o : Expr} {f : Str} {te to : TE} {pos apos : Pos}
theorem pe_fldK (hk : X.K = K) (he : PE X e te) (hb : attributeBase e f X.env (eval e X.env) = eval e X.env := by rfl) : PE X (.Attribute e f pos) (tFld K te f) := by
  subst hk
  exact pe_fld he hb
/-- f'..' of two parts or more, told by a name -/
def tJoined (ts : List TE) : TE := fun σ H Q => tJs ts Str.empty σ H fun out H1 => Q (.str out) H1
theorem pe_joinedN {v1 v2 : Expr} {rest : List Expr} {ts : List TE} {pos : Pos} (h : PJ X (v1 :: v2 :: rest) ts) : PE X (.JoinedStr (v1 :: v2 :: rest) pos) (tJoined ts) := pe_joined h
/-- sep.join(xs) -/
def rJoin (K : PySem.W.Frag) : V → List V → Hp → VK → Prop := fun x xs H Q => ∃ a p, ∃ ys : List Str, x = .str a ∧ xs = [.ref p] ∧ (SqL K H p (ys.map V.str) ∨ SqT K H p (ys.map V.str)) ∧ (ys.map (·.length)).sum + ys.length * a.length ≤ 16777216 ∧ Q (.str (Txt.join a ys)) H
theorem pe_joinK (hk : X.K = K) (ho : PE X o to) (he : PE X e te) (hs : starEach [e] X.env = [(false, eval e X.env)] := by rfl) (hbase : attributeBase o "join" X.env (eval o X.env) = eval o X.env := by rfl) (hline : (apos.endLine == pos.line) = true := by rfl) :
    PE X (.Call (.Attribute o "join" apos) [e] [] pos) (tM1 (rJoin K) to te) := by
  subst hk
  exact pe_join ho he hs hbase hline
end
end Gx
namespace Kl
open PySem PySem.Spec PyProof.Rows L2 Gx Mx
section
variable {P : Program} {w : World} {K : PySem.W.Frag} {mg : Str → Option Value} {base : Heap}
/-! ### what Kinds tells: leaf, makings, names, lines -/
abbrev kf (leaf : Str) (md nt : Addr) : List (Str × V) := [("_leaf", .str leaf), ("_makings", .ref md), ("_names", .ref nt)]
theorem kf_leaf (leaf : Str) (md nt : Addr) : List.lookup ("_leaf" : Str) (kf leaf md nt) = some (.str leaf) := by simp [List.lookup]
theorem kf_mak (leaf : Str) (md nt : Addr) : List.lookup ("_makings" : Str) (kf leaf md nt) = some (.ref md) := by
  have h : (("_makings" : Str) == "_leaf") = false := beq_eq_false_iff_ne.mpr (Ne.symm kLM)
  simp [List.lookup, h]
theorem kf_names (leaf : Str) (md nt : Addr) : List.lookup ("_names" : Str) (kf leaf md nt) = some (.ref nt) := by
  have h : (("_names" : Str) == "_leaf") = false := beq_eq_false_iff_ne.mpr (Ne.symm kLN)
  have h2 : (("_names" : Str) == "_makings") = false := beq_eq_false_iff_ne.mpr (Ne.symm kMN)
  simp [List.lookup, h, h2]
theorem kf_no (leaf : Str) (md nt : Addr) {m : Str} (h1 : m ≠ "_leaf") (h2 : m ≠ "_makings") (h3 : m ≠ "_names") : (kf leaf md nt).lookup m = none := by
  have e1 : (m == "_leaf") = false := beq_eq_false_iff_ne.mpr h1
  have e2 : (m == "_makings") = false := beq_eq_false_iff_ne.mpr h2
  have e3 : (m == "_names") = false := beq_eq_false_iff_ne.mpr h3
  simp [List.lookup, e1, e2, e3]
def spKLeaf (C : Addr) : Sp := fun vs H Q _ => ∃ x md leaf M ns, vs = [.ref x] ∧ KindsAt C H x md leaf M ns ∧ Q (.str leaf) H
theorem ok_kleaf {C f : Addr} {fd : FuncData} (F : Fun K "leaf" "Kinds.leaf" s_Kinds_leaf f fd) (TC : Cl_Kinds K mg C) : FnOk P w K mg base CX0 1 f fd ["self"] (spKLeaf C) := by
  refine F.ok sc_Kinds_leaf (fun vs H Q E h => ?_) (fun cdv A outer s H vs Q E hr h => ?_)
  · obtain ⟨x, md, leaf, M, ns, rfl, _⟩ := h
    rfl
  · obtain ⟨x, md, leaf, M, ns, rfl, ⟨dx, nt, kvs, hx, hd, hM, hn⟩, q⟩ := h
    refine ⟨_, pss_one (ps_ret (pe_fld (pv 0) rfl)), ?_⟩
    exact ⟨_, rfl, x, C, dx, _, _, rfl, hx, TC.cl, TC.n_leaf, kf_leaf _ _ _, q⟩
def spKMak (C : Addr) : Sp := fun vs H Q _ => ∃ x md leaf M ns, vs = [.ref x] ∧ KindsAt C H x md leaf M ns ∧ ∀ p kvs, H p = none → MakAt H kvs M → Q (.ref p) (upd H p (.dK kvs))
theorem ok_kmak {C f : Addr} {fd : FuncData} (F : Fun K "makings" "Kinds.makings" s_Kinds_makings f fd) (T : Top K mg) (TC : Cl_Kinds K mg C) : FnOk P w K mg base CX0 1 f fd ["self"] (spKMak C) := by
  refine F.ok sc_Kinds_makings (fun vs H Q E h => ?_) (fun cdv A outer s H vs Q E hr h => ?_)
  · obtain ⟨x, md, leaf, M, ns, rfl, _⟩ := h
    rfl
  · obtain ⟨x, md, leaf, M, ns, rfl, ⟨dx, nt, kvs, hx, hd, hM, hn⟩, q⟩ := h
    refine ⟨_, pss_one (ps_ret (pe_callTy call_dictD (by rfl) T.b_dict (by decide +kernel) (pa_cons (pe_fld (pv 0) rfl) pa_nil))), ?_⟩
    exact ⟨_, rfl, x, C, dx, _, _, rfl, hx, TC.cl, TC.n_makings, kf_mak _ _ _, md, kvs, rfl, .inl hd, fun p np => q p kvs np hM⟩
def spKNam (C : Addr) : Sp := fun vs H Q _ => ∃ x md leaf M ns, vs = [.ref x] ∧ KindsAt C H x md leaf M ns ∧ ∀ p, H p = some (.tup (ns.map V.str)) → Q (.ref p) H
theorem ok_knam {C f : Addr} {fd : FuncData} (F : Fun K "names" "Kinds.names" s_Kinds_names f fd) (TC : Cl_Kinds K mg C) : FnOk P w K mg base CX0 1 f fd ["self"] (spKNam C) := by
  refine F.ok sc_Kinds_names (fun vs H Q E h => ?_) (fun cdv A outer s H vs Q E hr h => ?_)
  · obtain ⟨x, md, leaf, M, ns, rfl, _⟩ := h
    rfl
  · obtain ⟨x, md, leaf, M, ns, rfl, ⟨dx, nt, kvs, hx, hd, hM, hn⟩, q⟩ := h
    refine ⟨_, pss_one (ps_ret (pe_fld (pv 0) rfl)), ?_⟩
    exact ⟨_, rfl, x, C, dx, _, _, rfl, hx, TC.cl, TC.n_names, kf_names _ _ _, q nt hn⟩
/-! ### lines -/
theorem empty_app (a : Str) : Str.empty ++ a = a := by
  show (⟨#[] ++ a.cps⟩ : Str) = a
  rw [Array.empty_append]
theorem len_app (a b : Str) : (a ++ b).length = a.length + b.length := by
  show (a.cps ++ b.cps).size = _
  rw [Array.size_append]
  rfl
end
end Kl

set_option maxRecDepth 100000
set_option maxHeartbeats 4000000
namespace Kl
open PySem PySem.Spec PyProof.Rows L2 Gx Mx
/-! ### pages -/
abbrev pf (n : Str) (pp mp : Addr) (a : Str) : List (Str × V) := [("_note", .str n), ("_pool", .ref pp), ("_made", .ref mp), ("_after", .str a)]
theorem pf_note (n : Str) (pp mp : Addr) (a : Str) : List.lookup ("_note" : Str) (pf n pp mp a) = some (.str n) := by simp [List.lookup]
theorem pf_pool (n : Str) (pp mp : Addr) (a : Str) : List.lookup ("_pool" : Str) (pf n pp mp a) = some (.ref pp) := by
  have h : (("_pool" : Str) == "_note") = false := by decide +kernel
  simp [List.lookup, h]
theorem pf_made (n : Str) (pp mp : Addr) (a : Str) : List.lookup ("_made" : Str) (pf n pp mp a) = some (.ref mp) := by
  have h : (("_made" : Str) == "_note") = false := by decide +kernel
  have h2 : (("_made" : Str) == "_pool") = false := by decide +kernel
  simp [List.lookup, h, h2]
theorem pf_after (n : Str) (pp mp : Addr) (a : Str) : List.lookup ("_after" : Str) (pf n pp mp a) = some (.str a) := by
  have h : (("_after" : Str) == "_note") = false := by decide +kernel
  have h2 : (("_after" : Str) == "_pool") = false := by decide +kernel
  have h3 : (("_after" : Str) == "_made") = false := by decide +kernel
  simp [List.lookup, h, h2, h3]
/-- a page stands at x -/
def PageAt (K : PySem.W.Frag) (C : Addr) (H : Hp) (x : Addr) (g : Pg) : Prop :=
  ∃ dx pp mp, H x = some (.ins C dx (pf g.note pp mp g.after)) ∧ SqT K H pp (g.pool.map V.str) ∧ SqT K H mp (g.made.map V.str)
theorem PageAt.same {K : PySem.W.Frag} {C x : Addr} {H H' : Hp} {g : Pg} (h : PageAt K C H x g) (s : Same H H') : PageAt K C H' x g := by
  obtain ⟨dx, pp, mp, a, b, c⟩ := h
  exact ⟨dx, pp, mp, s _ _ a, sqT_st s b, sqT_st s c⟩
theorem name_arg {K : PySem.W.Frag} {H : Hp} {z : Str} (h : z.length ≤ 1000) : NameArg K H (.str z) := .inl ⟨z, rfl, Nat.le_trans h (by decide)⟩
theorem tyx_sqT {K : PySem.W.Frag} {H : Hp} {p : Addr} {xs : List V} (h : SqT K H p xs) : TyX K H (.ref p) (.type "tuple") := by
  rcases h with (h | ⟨o, h⟩) | ⟨o, its, n, h, c, _⟩
  · exact .base (.tup h)
  · exact .fTuple h
  · exact .kTuple h c
theorem pf_2 (a p : V) : putF ("_pool" : Str) p [("_note", a)] = ([("_note", a), ("_pool", p)] : List (Str × V)) := putF_app _ fun q hq => by
  rw [List.mem_singleton.mp hq]
  show ("_note" : Str) ≠ "_pool"
  decide +kernel
theorem pf_3 (a p m : V) : putF ("_made" : Str) m [("_note", a), ("_pool", p)] = ([("_note", a), ("_pool", p), ("_made", m)] : List (Str × V)) := putF_app _ fun q hq => by
  rcases List.mem_cons.mp hq with rfl | hq
  · show ("_note" : Str) ≠ "_made"
    decide +kernel
  · rw [List.mem_singleton.mp hq]
    show ("_pool" : Str) ≠ "_made"
    decide +kernel
theorem pf_4 (a p m b : V) : putF ("_after" : Str) b [("_note", a), ("_pool", p), ("_made", m)] = ([("_note", a), ("_pool", p), ("_made", m), ("_after", b)] : List (Str × V)) := putF_app _ fun q hq => by
  rcases List.mem_cons.mp hq with rfl | hq
  · show ("_note" : Str) ≠ "_after"
    decide +kernel
  rcases List.mem_cons.mp hq with rfl | hq
  · show ("_pool" : Str) ≠ "_after"
    decide +kernel
  · rw [List.mem_singleton.mp hq]
    show ("_made" : Str) ≠ "_after"
    decide +kernel
section
variable {P : Program} {w : World} {K : PySem.W.Frag} {mg : Str → Option Value} {base : Heap}
/-! ### _is_place, Page.__init__ -/
def spPlace (K : PySem.W.Frag) : Sp := fun vs H Q _ => ∃ (t pp : Addr) (n : Str) (p : List Str), vs = [.ref t] ∧ SqT K H t [.str n, .ref pp] ∧ TyX K H (.ref t) (.type "tuple") ∧ nameB n = true ∧ SqT K H pp (p.map V.str) ∧ goodM 8 p = true ∧ ∀ H', Same H H' → Q (.bl true) H'
theorem ok_place {f : Addr} {fd : FuncData} (F : Fun K "_is_place" "_is_place" s_is_place f fd) (T : Top K mg) : FnOk P w K mg base CX0 4 f fd ["value"] (spPlace K) := by
  obtain ⟨tm, gm⟩ := T.g_MAX_POOL
  have cn : Cal P w K mg base 3 "is_name" ["value"] (spName K) := (T.d_is_name.cal fun f fd F => ok_name F T).mono (by decide)
  have cs : CalO P w K mg base 3 "is_sorted" ["value", "most"] 1 ["most"] (fun vs zs => vs ++ zs) (spSorted K) := T.d_is_sorted.calO fun f fd F => ok_sorted F T
  refine F.ok sc_is_place (fun vs H Q E h => ?_) (fun cdv A outer s H vs Q E hr h => ?_)
  · obtain ⟨t, pp, n, p, rfl, _⟩ := h
    rfl
  · obtain ⟨t, pp, n, p, rfl, ht, ty, hn, hp, hg, q⟩ := h
    refine ⟨_, pss_one (ps_ret (pe_and (pe_callB call_isi (by rfl) T.b_isinstance (by decide +kernel) (pa_cons (pv 0) (pa_cons (pe_bltn (v := .ty "tuple") (by rfl) T.b_tuple (by decide +kernel) rfl) pa_nil)))
      (pe_and (pe_cmpR op_eq (pe_callB call_len_seq (by rfl) T.b_len PySem.boot_len (pa_cons (pv 0) pa_nil)) pe_int (nomark _))
      (pe_and (pe_cal cn hr (by rfl) (pa_cons (pe_ix ix_tup (pv 0) pe_int (fun _ _ => rfl)) pa_nil))
        (pe_one (pe_calO cs hr (by rfl) (pa_cons (pe_ix ix_tup (pv 0) pe_int (fun _ _ => rfl)) pa_nil) (pk_cons (pe_glob (v := .int 8) (by rfl) gm ⟨_, rfl⟩) pk_nil))))))), ?_⟩
    refine ⟨_, rfl, _, .ty "tuple", .type "tuple", .type "tuple", true, rfl, .ty _, ty, kit_ty (by decide +kernel), true, rfl, ?_⟩
    rw [if_pos rfl]
    refine ⟨_, rfl, t, _, rfl, .inr ht, rfl, _, rfl, ?_⟩
    show (if decide (V.int 2 = V.int 2) = true then _ else _)
    rw [decide_eq_true rfl, if_pos rfl]
    refine ⟨_, rfl, t, _, _, .str n, rfl, rfl, ht, rfl, .str n, rfl, name_arg (Nat.le_trans (name_len hn) (by decide)), _, rfl, ?_⟩
    show (if nameB n = true then _ else _)
    rw [if_pos hn]
    refine ⟨_, rfl, t, _, _, .ref pp, rfl, rfl, ht, rfl, rfl, rfl, pp, p, 8, rfl, hp, tyx_sqT hp, by decide, by decide, Nat.le_trans (good_len hg) (by decide), fun z hz => Nat.le_trans (name_len (good_names hg z hz)) (by decide), fun H' s => ?_⟩
    have e : (decide ((p.length : Int) ≤ 8) && (p.all nameB && sortedS p)) = true := (goodM_int 8 p).trans hg
    rw [e]
    exact q H' s
abbrev NPI : List Str := ["self", "note", "pool", "made", "after"]
def spPInit (K : PySem.W.Frag) (C : Addr) : Sp := fun vs H Q _ => ∃ (x dx pp mp : Addr) (g : Pg), vs = [.ref x, .str g.note, .ref pp, .ref mp, .str g.after] ∧ H x = some (.ins C dx []) ∧ SqT K H pp (g.pool.map V.str) ∧ SqT K H mp (g.made.map V.str) ∧ PgOk g ∧
  ∀ H', PageAt K C H' x g → (∀ b o, b ≠ x → H b = some o → H' b = some o) → Q .non H'
theorem ok_pinit {C f : Addr} {fd : FuncData} (F : Fun K "__init__" "Page.__init__" s_Page_init f fd) (T : Top K mg) (TC : Cl_Page K mg C) : FnOk P w K mg base CX0 5 f fd ["self", "note", "pool", "made", "after"] (spPInit K C) := by
  obtain ⟨tm, gm⟩ := T.g_MAX_MADE
  have cn : Cal P w K mg base 4 "is_name" ["value"] (spName K) := (T.d_is_name.cal fun f fd F => ok_name F T).mono (by decide)
  have cs : CalO P w K mg base 4 "is_sorted" ["value", "most"] 1 ["most"] (fun vs zs => vs ++ zs) (spSorted K) := (T.d_is_sorted.calO fun f fd F => ok_sorted F T).mono (by decide)
  have cp : Cal P w K mg base 4 "_is_place" ["value"] (spPlace K) := T.d_is_place.cal fun f fd F => ok_place F T
  refine F.ok sc_Page_init (fun vs H Q E h => ?_) (fun cdv A outer s H vs Q E hr h => ?_)
  · obtain ⟨x, dx, pp, mp, g, rfl, _⟩ := h
    rfl
  · obtain ⟨x, dx, pp, mp, g, rfl, hx, hp, hm, hg, q⟩ := h
    refine ⟨_, pss_cut (ps_if (PW.pt (pw_or (pt_not (pt_val (pe_cal cp hr (by rfl) (pa_cons (pe_tup (pa_cons (pv 1) (pa_cons (pv 2) pa_nil))) pa_nil))))
        (pw_or (pt_not (pt_val (pe_calO cs hr (by rfl) (pa_cons (pv 3) pa_nil) (pk_cons (pe_glob (v := .int 2) (by rfl) gm ⟨_, rfl⟩) pk_nil))))
          (pw_or1 (pt_not (pt_val (pe_cal cn hr (by rfl) (pa_cons (pv 4) pa_nil)))))))) (pss_one ps_never) pss_nil)
      (pss_cons (ps_fld (pv 0) (pv 1) rfl) (pss_cons (ps_fld (pv 0) (pv 2) rfl) (pss_cons (ps_fld (pv 0) (pv 3) rfl) (pss_one (ps_fld (pv 0) (pv 4) rfl))))), ?_⟩
    refine ⟨fun σ' G => σ' = [some (.ref x), some (.str g.note), some (.ref pp), some (.ref mp), some (.str g.after)] ∧ Same H G, ?_, ?_⟩
    · refine ⟨_, rfl, _, rfl, by show 2 ≤ sizeLine; decide, fun t nt => ?_⟩
      have s1 := same_new (o := .tup [.str g.note, .ref pp]) (Same.refl H) nt
      refine ⟨t, pp, g.note, g.pool, rfl, .inl (.inl upd_same), .base (.tup upd_same), hg.n, sqT_st s1 hp, hg.p, fun H2 s2 => ⟨_, rfl, ?_⟩⟩
      show (if (!true) = true then _ else _)
      rw [if_neg (by decide)]
      have s12 : Same H H2 := fun b o e => s2 _ _ (s1 _ _ e)
      refine ⟨_, rfl, rfl, rfl, mp, g.made, 2, rfl, sqT_st s12 hm, tyx_sqT (sqT_st s12 hm), by decide, by decide, Nat.le_trans (good_len hg.m) (by decide), fun z hz => Nat.le_trans (name_len (good_names hg.m z hz)) (by decide), fun H3 s3 => ?_⟩
      have e : (decide ((g.made.length : Int) ≤ 2) && (g.made.all nameB && sortedS g.made)) = true := (goodM_int 2 g.made).trans hg.m
      rw [e]
      refine ⟨_, rfl, ?_⟩
      show (if (!true) = true then _ else _)
      rw [if_neg (by decide)]
      refine ⟨_, rfl, .str g.after, rfl, name_arg (Nat.le_trans (name_len hg.a) (by decide)), _, rfl, ?_⟩
      show (if (!nameB g.after) = true then _ else _)
      rw [hg.a, if_neg (by decide)]
      exact ⟨rfl, fun b o e => s3 _ _ (s12 _ _ e)⟩
    rintro σ' G ⟨rfl, s1⟩
    have kp : ∀ {y : Addr} {xs : List V} {G' : Hp}, SqT K H y xs → (∀ b o, b ≠ x → H b = some o → G' b = some o) → SqT K G' y xs := fun {y xs G'} h k => by
      rcases h with (h | ⟨o, h⟩) | h
      · exact .inl (.inl (k _ _ (fun z => by rw [z, hx] at h; cases h) h))
      · exact .inl (.inr ⟨o, k _ _ (fun z => by rw [z, hx] at h; cases h) h⟩)
      · exact .inr h
    refine ⟨_, rfl, _, rfl, x, C, dx, [], rfl, s1 _ _ hx, TC.cl, TC.n_note, by decide, ?_⟩
    rw [show putF ("_note" : Str) (V.str g.note) [] = ([("_note", .str g.note)] : List (Str × V)) from rfl]
    refine ⟨_, rfl, _, rfl, x, C, dx, _, rfl, upd_same, TC.cl, TC.n_pool, by show 1 < 1000; omega, ?_⟩
    rw [pf_2]
    refine ⟨_, rfl, _, rfl, x, C, dx, _, rfl, upd_same, TC.cl, TC.n_made, by show 2 < 1000; omega, ?_⟩
    rw [pf_3]
    refine ⟨_, rfl, _, rfl, x, C, dx, _, rfl, upd_same, TC.cl, TC.n_after, by show 3 < 1000; omega, ?_⟩
    rw [pf_4]
    have fin : ∀ b o, b ≠ x → H b = some o → (upd (upd (upd (upd G x (.ins C dx [("_note", .str g.note)])) x (.ins C dx [("_note", .str g.note), ("_pool", .ref pp)])) x (.ins C dx [("_note", .str g.note), ("_pool", .ref pp), ("_made", .ref mp)])) x (.ins C dx (pf g.note pp mp g.after))) b = some o := fun b o n e => by
      rw [upd_ne n, upd_ne n, upd_ne n, upd_ne n]
      exact s1 b o e
    exact q _ ⟨dx, pp, mp, upd_same, kp hp fin, kp hm fin⟩ fin
end
end Kl

set_option maxRecDepth 100000
set_option maxHeartbeats 4000000
/-! data that can be compared, part by part -/
namespace Gx
open PySem PySem.Spec PyProof.Rows L2 Mx
structure Lay (n : Nat) (d : PyData) : Prop where
  c : d.canLay0 = true
  p : d.depth ≤ n
theorem lay_all {n : Nat} : ∀ {ds : List PyData}, (∀ d ∈ ds, Lay n d) → PyData.canLayAll0 ds = true ∧ PyData.depthAll ds ≤ n
  | [], _ => ⟨rfl, Nat.zero_le _⟩
  | d :: ds, h => by
    obtain ⟨i1, i2⟩ := lay_all (ds := ds) fun x hx => h x (List.mem_cons_of_mem _ hx)
    obtain ⟨a, b⟩ := h d List.mem_cons_self
    exact ⟨by rw [PyData.canLayAll0, a, i1]; rfl, by rw [PyData.depthAll]; exact Nat.max_le.mpr ⟨b, i2⟩⟩
theorem Lay.tup {n : Nat} {ds : List PyData} (h : ∀ d ∈ ds, Lay n d) : Lay (n + 1) (.tuple ds) := by
  obtain ⟨a, b⟩ := lay_all h
  exact ⟨by simp only [PyData.canLay0]; exact a, by rw [PyData.depth]; omega⟩
theorem Lay.lst {n : Nat} {ds : List PyData} (h : ∀ d ∈ ds, Lay n d) : Lay (n + 1) (.list ds) := by
  obtain ⟨a, b⟩ := lay_all h
  exact ⟨by simp only [PyData.canLay0]; exact a, by rw [PyData.depth]; omega⟩
theorem Lay.str {n : Nat} {z : Str} (h : PyData.strOk z = true) : Lay n (.str z) := ⟨by simp only [PyData.canLay0]; exact h, by rw [PyData.depth]; exact Nat.zero_le _⟩
theorem Lay.int {n : Nat} (i : Int) : Lay n (.int i) := ⟨rfl, by rw [PyData.depth]; exact Nat.zero_le _⟩
theorem Lay.bl {n : Nat} (b : Bool) : Lay n (.bool b) := ⟨rfl, by rw [PyData.depth]; exact Nat.zero_le _⟩
theorem Lay.non {n : Nat} : Lay n .none := ⟨rfl, by rw [PyData.depth]; exact Nat.zero_le _⟩
theorem Lay.up {m n : Nat} {d : PyData} (h : Lay m d) (k : m ≤ n) : Lay n d := ⟨h.c, Nat.le_trans h.p k⟩
theorem Lay.txts {n : Nat} {q : List Str} (h : ∀ z ∈ q, PyData.strOk z = true) : Lay (n + 1) (.tuple (tD q)) := .tup fun d hd => by
  obtain ⟨z, hz, rfl⟩ := List.mem_map.mp hd
  exact .str (h z hz)
theorem lay_cons {n : Nat} {d : PyData} {ds : List PyData} (h : Lay n d) (r : ∀ e ∈ ds, Lay n e) : ∀ e ∈ d :: ds, Lay n e := fun e he => by
  rcases List.mem_cons.mp he with rfl | he
  · exact h
  · exact r e he
theorem lay_nil {n : Nat} : ∀ e ∈ ([] : List PyData), Lay n e := fun e he => nomatch he
theorem Lay.shaped {n : Nat} {d : PyData} (h : Lay n d) (hn : n ≤ 64) : SeqAt.shaped d = true := by
  unfold SeqAt.shaped
  rw [Bool.and_eq_true]
  exact ⟨h.c, decide_eq_true (Nat.le_trans h.p hn)⟩
end Gx

set_option maxRecDepth 100000
set_option maxHeartbeats 4000000
namespace Kl
open PySem PySem.Spec PyProof.Rows L2 Gx Mx
theorem str_ext {a b : Str} (h : a.cps.toList = b.cps.toList) : a = b := by
  cases a with
  | mk x =>
    cases b with
    | mk y =>
      have : x = y := by
        cases x; cases y
        exact congrArg Array.mk h
      rw [this]
theorem line_fmt (g : Pg) : Str.empty ++ "page " ++ g.note ++ " " ++ textD g.pool ++ " to " ++ textD g.made ++ " then " ++ g.after = lineP g := by
  refine str_ext ?_
  unfold lineP
  rw [TL.join_eq]
  show _ = (("page" : Str) ++ " " ++ (g.note ++ " " ++ (textD g.pool ++ " " ++ (("to" : Str) ++ " " ++ (textD g.made ++ " " ++ (("then" : Str) ++ " " ++ g.after)))))).cps.toList
  simp only [cps_app']
  have e1 : ("page " : Str).cps.toList = ("page" : Str).cps.toList ++ (" " : Str).cps.toList := by decide +kernel
  have e2 : (" to " : Str).cps.toList = (" " : Str).cps.toList ++ (("to" : Str).cps.toList ++ (" " : Str).cps.toList) := by decide +kernel
  have e3 : (" then " : Str).cps.toList = (" " : Str).cps.toList ++ (("then" : Str).cps.toList ++ (" " : Str).cps.toList) := by decide +kernel
  have e4 : Str.empty.cps.toList = [] := rfl
  rw [e1, e2, e3, e4]
  simp only [List.nil_append, List.append_assoc]
section
variable {P : Program} {w : World} {K : PySem.W.Frag} {mg : Str → Option Value} {base : Heap}
/-! ### what a page tells -/
def spPNote (K : PySem.W.Frag) (C : Addr) : Sp := fun vs H Q _ => ∃ (x : Addr) (g : Pg), vs = [.ref x] ∧ PageAt K C H x g ∧ Q (.str g.note) H
theorem ok_pnote {C f : Addr} {fd : FuncData} (F : Fun K "note" "Page.note" s_Page_note f fd) (TC : Cl_Page K mg C) : FnOk P w K mg base CX0 1 f fd ["self"] (spPNote K C) := by
  refine F.ok sc_Page_note (fun vs H Q E h => ?_) (fun cdv A outer s H vs Q E hr h => ?_)
  · obtain ⟨x, g, rfl, _⟩ := h
    rfl
  · obtain ⟨x, g, rfl, ⟨dx, pp, mp, hx, hp, hm⟩, q⟩ := h
    refine ⟨_, pss_one (ps_ret (pe_fld (pv 0) rfl)), ?_⟩
    exact ⟨_, rfl, x, C, dx, _, _, rfl, hx, TC.cl, TC.n_note, pf_note _ _ _ _, q⟩
def spPPool (K : PySem.W.Frag) (C : Addr) : Sp := fun vs H Q _ => ∃ (x : Addr) (g : Pg), vs = [.ref x] ∧ PageAt K C H x g ∧ ∀ p, SqT K H p (g.pool.map V.str) → Q (.ref p) H
theorem ok_ppool {C f : Addr} {fd : FuncData} (F : Fun K "pool" "Page.pool" s_Page_pool f fd) (TC : Cl_Page K mg C) : FnOk P w K mg base CX0 1 f fd ["self"] (spPPool K C) := by
  refine F.ok sc_Page_pool (fun vs H Q E h => ?_) (fun cdv A outer s H vs Q E hr h => ?_)
  · obtain ⟨x, g, rfl, _⟩ := h
    rfl
  · obtain ⟨x, g, rfl, ⟨dx, pp, mp, hx, hp, hm⟩, q⟩ := h
    refine ⟨_, pss_one (ps_ret (pe_fld (pv 0) rfl)), ?_⟩
    exact ⟨_, rfl, x, C, dx, _, _, rfl, hx, TC.cl, TC.n_pool, pf_pool _ _ _ _, q pp hp⟩
def spPMade (K : PySem.W.Frag) (C : Addr) : Sp := fun vs H Q _ => ∃ (x : Addr) (g : Pg), vs = [.ref x] ∧ PageAt K C H x g ∧ ∀ p, SqT K H p (g.made.map V.str) → Q (.ref p) H
theorem ok_pmade {C f : Addr} {fd : FuncData} (F : Fun K "made" "Page.made" s_Page_made f fd) (TC : Cl_Page K mg C) : FnOk P w K mg base CX0 1 f fd ["self"] (spPMade K C) := by
  refine F.ok sc_Page_made (fun vs H Q E h => ?_) (fun cdv A outer s H vs Q E hr h => ?_)
  · obtain ⟨x, g, rfl, _⟩ := h
    rfl
  · obtain ⟨x, g, rfl, ⟨dx, pp, mp, hx, hp, hm⟩, q⟩ := h
    refine ⟨_, pss_one (ps_ret (pe_fld (pv 0) rfl)), ?_⟩
    exact ⟨_, rfl, x, C, dx, _, _, rfl, hx, TC.cl, TC.n_made, pf_made _ _ _ _, q mp hm⟩
def spPAfter (K : PySem.W.Frag) (C : Addr) : Sp := fun vs H Q _ => ∃ (x : Addr) (g : Pg), vs = [.ref x] ∧ PageAt K C H x g ∧ Q (.str g.after) H
theorem ok_pafter {C f : Addr} {fd : FuncData} (F : Fun K "after" "Page.after" s_Page_after f fd) (TC : Cl_Page K mg C) : FnOk P w K mg base CX0 1 f fd ["self"] (spPAfter K C) := by
  refine F.ok sc_Page_after (fun vs H Q E h => ?_) (fun cdv A outer s H vs Q E hr h => ?_)
  · obtain ⟨x, g, rfl, _⟩ := h
    rfl
  · obtain ⟨x, g, rfl, ⟨dx, pp, mp, hx, hp, hm⟩, q⟩ := h
    refine ⟨_, pss_one (ps_ret (pe_fld (pv 0) rfl)), ?_⟩
    exact ⟨_, rfl, x, C, dx, _, _, rfl, hx, TC.cl, TC.n_after, pf_after _ _ _ _, q⟩
def spPPlace (K : PySem.W.Frag) (C : Addr) : Sp := fun vs H Q _ => ∃ (x : Addr) (g : Pg), vs = [.ref x] ∧ PageAt K C H x g ∧ ∀ t pp H', Same H H' → SqT K H' t [.str g.note, .ref pp] → SqT K H' pp (g.pool.map V.str) → Q (.ref t) H'
theorem ok_pplace {C f : Addr} {fd : FuncData} (F : Fun K "place" "Page.place" s_Page_place f fd) (TC : Cl_Page K mg C) : FnOk P w K mg base CX0 1 f fd ["self"] (spPPlace K C) := by
  refine F.ok sc_Page_place (fun vs H Q E h => ?_) (fun cdv A outer s H vs Q E hr h => ?_)
  · obtain ⟨x, g, rfl, _⟩ := h
    rfl
  · obtain ⟨x, g, rfl, ⟨dx, pp, mp, hx, hp, hm⟩, q⟩ := h
    refine ⟨_, pss_one (ps_ret (pe_tup (pa_cons (pe_fld (pv 0) rfl) (pa_cons (pe_fld (pv 0) rfl) pa_nil)))), ?_⟩
    refine ⟨_, rfl, x, C, dx, _, _, rfl, hx, TC.cl, TC.n_note, pf_note _ _ _ _, _, rfl, x, C, dx, _, _, rfl, hx, TC.cl, TC.n_pool, pf_pool _ _ _ _, by show 2 ≤ sizeLine; decide, fun t nt => ?_⟩
    have s := same_new (o := .tup [V.str g.note, .ref pp]) (Same.refl H) nt
    exact q t pp _ s (.inl (.inl upd_same)) (sqT_st s hp)
def spPLen (K : PySem.W.Frag) (C : Addr) : Sp := fun vs H Q _ => ∃ (x : Addr) (g : Pg), vs = [.ref x] ∧ PageAt K C H x g ∧ Q (.int (g.made.length : Nat)) H
theorem ok_plen {C f : Addr} {fd : FuncData} (F : Fun K "__len__" "Page.__len__" s_Page_len f fd) (T : Top K mg) (TC : Cl_Page K mg C) : FnOk P w K mg base CX0 1 f fd ["self"] (spPLen K C) := by
  refine F.ok sc_Page_len (fun vs H Q E h => ?_) (fun cdv A outer s H vs Q E hr h => ?_)
  · obtain ⟨x, g, rfl, _⟩ := h
    rfl
  · obtain ⟨x, g, rfl, ⟨dx, pp, mp, hx, hp, hm⟩, q⟩ := h
    refine ⟨_, pss_one (ps_ret (pe_callB call_len_seq (by rfl) T.b_len PySem.boot_len (pa_cons (pe_fld (pv 0) rfl) pa_nil))), ?_⟩
    refine ⟨_, rfl, x, C, dx, _, _, rfl, hx, TC.cl, TC.n_made, pf_made _ _ _ _, mp, _, rfl, .inr hm, ?_⟩
    rw [List.length_map]
    exact q
def spPLine (K : PySem.W.Frag) (C : Addr) : Sp := fun vs H Q _ => ∃ (x : Addr) (g : Pg), vs = [.ref x] ∧ PageAt K C H x g ∧ PgOk g ∧ Q (.str (lineP g)) H
theorem ok_pline {C f : Addr} {fd : FuncData} (F : Fun K "line" "Page.line" s_Page_line f fd) (T : Top K mg) (TC : Cl_Page K mg C) : FnOk P w K mg base CX0 2 f fd ["self"] (spPLine K C) := by
  have ct : Cal P w K mg base 1 "text_of" ["names"] (spTextOf K) := T.d_text_of.cal fun f fd F => ok_textof F T
  refine F.ok sc_Page_line (fun vs H Q E h => ?_) (fun cdv A outer s H vs Q E hr h => ?_)
  · obtain ⟨x, g, rfl, _⟩ := h
    rfl
  · obtain ⟨x, g, rfl, ⟨dx, pp, mp, hx, hp, hm⟩, hg, q⟩ := h
    refine ⟨_, pss_one (ps_ret (pe_joinedN (.cons pe_str (.cons (pe_fmt (pe_fld (pv 0) rfl)) (.cons pe_str (.cons (pe_fmt (pe_cal ct hr (by rfl) (pa_cons (pe_fld (pv 0) rfl) pa_nil))) (.cons pe_str (.cons (pe_fmt (pe_cal ct hr (by rfl) (pa_cons (pe_fld (pv 0) rfl) pa_nil))) (.cons pe_str (.cons (pe_fmt (pe_fld (pv 0) rfl)) .nil)))))))))), ?_⟩
    have big : 1000 ≤ sizeLine := by decide
    have k1 : ("page " : Str).length = 5 := by decide +kernel
    have k2 : (" " : Str).length = 1 := by decide +kernel
    have k3 : (" to " : Str).length = 4 := by decide +kernel
    have k4 : (" then " : Str).length = 6 := by decide +kernel
    have k0 : Str.empty.length = 0 := rfl
    have l1 := name_len hg.n
    have l2 := name_len hg.a
    have l3 := textD_len hg.p
    have l4 := textD_len hg.m
    refine ⟨_, rfl, by rw [len_app]; omega, ?_⟩
    refine ⟨_, rfl, x, C, dx, _, _, rfl, hx, TC.cl, TC.n_note, pf_note _ _ _ _, .inl ⟨g.note, rfl, by omega, _, rfl, by simp only [len_app]; omega, ?_⟩⟩
    refine ⟨_, rfl, by simp only [len_app]; omega, ?_⟩
    refine ⟨_, rfl, x, C, dx, _, _, rfl, hx, TC.cl, TC.n_pool, pf_pool _ _ _ _, pp, g.pool, rfl, hp, good_up hg.p (by decide), .inl ⟨_, rfl, by omega, _, rfl, by simp only [len_app]; omega, ?_⟩⟩
    refine ⟨_, rfl, by simp only [len_app]; omega, ?_⟩
    refine ⟨_, rfl, x, C, dx, _, _, rfl, hx, TC.cl, TC.n_made, pf_made _ _ _ _, mp, g.made, rfl, hm, good_up hg.m (by decide), .inl ⟨_, rfl, by omega, _, rfl, by simp only [len_app]; omega, ?_⟩⟩
    refine ⟨_, rfl, by simp only [len_app]; omega, ?_⟩
    refine ⟨_, rfl, x, C, dx, _, _, rfl, hx, TC.cl, TC.n_after, pf_after _ _ _ _, .inl ⟨g.after, rfl, by omega, _, rfl, by simp only [len_app]; omega, ?_⟩⟩
    have e := line_fmt g
    show Q (.str (Str.empty ++ "page " ++ g.note ++ " " ++ textD g.pool ++ " to " ++ textD g.made ++ " then " ++ g.after)) H
    rw [e]
    exact q
def spPStr (K : PySem.W.Frag) (C : Addr) : Sp := spPLine K C
theorem ok_pstr {C f : Addr} {fd : FuncData} (F : Fun K "__str__" "Page.__str__" s_Page_str f fd) (T : Top K mg) (TC : Cl_Page K mg C) : FnOk P w K mg base CX0 4 f fd ["self"] (spPStr K C) := by
  have cl : CalP P w K mg base C "line" 2 (spPLine K C) := TC.p_line.cal fun f fd F => ok_pline F T TC
  refine F.ok sc_Page_str (fun vs H Q E h => ?_) (fun cdv A outer s H vs Q E hr h => ?_)
  · obtain ⟨x, g, rfl, _⟩ := h
    rfl
  · obtain ⟨x, g, rfl, hP, hg, q⟩ := h
    refine ⟨_, pss_one (ps_ret (pe_callTy SkE.call_str_str (by rfl) T.b_str (by decide +kernel) (pa_cons (pe_propC (pv 0) TC.cl cl hr rfl) pa_nil))), ?_⟩
    obtain ⟨dx, pp, mp, hx, hp, hm⟩ := id hP
    exact ⟨_, rfl, x, dx, _, rfl, hx, x, g, rfl, hP, hg, _, rfl, q⟩
theorem eqv_place (n n' : Str) (p p' : List Str) : PyData.eqv (.tuple [.str n, .tuple (tD p)]) (.tuple [.str n', .tuple (tD p')]) = (decide (n = n') && decide (p = p')) := by
  simp only [PyData.eqv, PyData.eqvAll, eqv_texts, Bool.and_true]
  congr 1
theorem good_ok {m : Nat} {q : List Str} (h : goodM m q = true) : ∀ z ∈ q, PyData.strOk z = true := fun z hz => names_low (good_names h z hz)
theorem place_lay {g : Pg} (h : PgOk g) : Lay 2 (.tuple [.str g.note, .tuple (tD g.pool)]) := .tup (lay_cons (.str (names_low h.n)) (lay_cons (.txts (good_ok h.p)) lay_nil))
theorem place_shaped {g : Pg} (h : PgOk g) : SeqAt.shaped (.tuple [.str g.note, .tuple (tD g.pool)]) = true := (place_lay h).shaped (by decide)
theorem made_shaped {g : Pg} (h : PgOk g) : SeqAt.shaped (.tuple (tD g.made)) = true := shaped_textsT (good_ok h.m)
def spPEq (K : PySem.W.Frag) (C : Addr) : Sp := fun vs H Q _ => ∃ (x : Addr) (g : Pg) (y : V), vs = [V.ref x, y] ∧ PageAt K C H x g ∧ PgOk g ∧
  ((∃ (x' : Addr) (g' : Pg), y = .ref x' ∧ PageAt K C H x' g' ∧ PgOk g' ∧ ∀ H', Same H H' → Q (.bl (decide (g = g'))) H') ∨ ∃ t, TyX K H y t ∧ PySem.W.kitOne K t (.ref C) = some false ∧ Q (.bl false) H)
theorem ok_peq {C f : Addr} {fd : FuncData} (F : Fun K "__eq__" "Page.__eq__" s_Page_eq f fd) (T : Top K mg) (TC : Cl_Page K mg C) : FnOk P w K mg base CX0 3 f fd ["self", "other"] (spPEq K C) := by
  have cl : CalP P w K mg base C "place" 1 (spPPlace K C) := TC.p_place.cal fun f fd F => ok_pplace F TC
  refine F.ok sc_Page_eq (fun vs H Q E h => ?_) (fun cdv A outer s H vs Q E hr h => ?_)
  · obtain ⟨x, g, y, rfl, _⟩ := h
    rfl
  · obtain ⟨x, g, y, rfl, hP, hg, q⟩ := h
    refine ⟨_, pss_cons (ps_if (pt_not (pt_val (pe_callB call_isi (by rfl) T.b_isinstance (by decide +kernel) (pa_cons (pv 1) (pa_cons (pe_glob (v := .ref C) (by rfl) TC.gC rfl) pa_nil))))) (pss_one (ps_ret pe_bl)) pss_nil)
      (pss_one (ps_ret (pe_and (pe_cmpR (op_eqD hr.units) (pe_propC (pv 0) TC.cl cl hr rfl) (pe_propC (pv 1) TC.cl cl hr rfl) (nomark _))
        (pe_and (pe_cmpR (op_eqD hr.units) (pe_fld (pv 0) rfl) (pe_fld (pv 1) rfl) (nomark _)) (pe_one (pe_cmpR op_eq (pe_fld (pv 0) rfl) (pe_fld (pv 1) rfl) (nomark _))))))), ?_⟩
    obtain ⟨dx, pp, mp, hx, hp, hm⟩ := id hP
    rcases q with ⟨x', g', rfl, hP', hg', q⟩ | ⟨t, ty, kt, q⟩
    · obtain ⟨dx', pp', mp', hx', hp', hm'⟩ := id hP'
      refine ⟨_, rfl, _, _, .ref C, .ref C, true, rfl, .own C, .base (.ins hx' TC.cl TC.ca TC.cg TC.ct TC.ob), TC.kit, true, rfl, ?_⟩
      show (if (!true) = true then _ else _)
      rw [if_neg (by decide)]
      refine ⟨_, rfl, x, dx, _, rfl, hx, x, g, rfl, hP, fun t1 q1 H1 s1 h1 h2 => ?_⟩
      refine ⟨_, rfl, x', dx', _, rfl, s1 _ _ hx', x', g', rfl, hP'.same s1, fun t2 q2 H2 s2 h3 h4 => ?_⟩
      have s12 : Same H H2 := fun b o e => s2 _ _ (s1 _ _ e)
      refine ⟨_, _, .tup (sqT_st s2 h1) (.cons (.str g.note) (.cons (.tup (sqT_st s2 h2) (dp_texts g.pool)) .nil)), .tup h3 (.cons (.str g'.note) (.cons (.tup h4 (dp_texts g'.pool)) .nil)), place_shaped hg, place_shaped hg', ?_⟩
      rw [eqv_place]
      have qq : ∀ b, b = decide (g = g') → Q (.bl b) H2 := fun b e => by rw [e]; exact q H2 s12
      refine ⟨_, rfl, ?_⟩
      by_cases c : g.note = g'.note ∧ g.pool = g'.pool
      · rw [decide_eq_true c.1, decide_eq_true c.2]
        show (if true = true then _ else _)
        rw [if_pos rfl]
        refine ⟨_, rfl, x, C, dx, _, _, rfl, s12 _ _ hx, TC.cl, TC.n_made, pf_made _ _ _ _, _, rfl, x', C, dx', _, _, rfl, s12 _ _ hx', TC.cl, TC.n_made, pf_made _ _ _ _, _, _, .tup (sqT_st s12 hm) (dp_texts g.made), .tup (sqT_st s12 hm') (dp_texts g'.made), made_shaped hg, made_shaped hg', ?_⟩
        rw [PyData.eqv, eqv_texts]
        refine ⟨_, rfl, ?_⟩
        by_cases c2 : g.made = g'.made
        · rw [decide_eq_true c2]
          show (if true = true then _ else _)
          rw [if_pos rfl]
          refine ⟨_, rfl, x, C, dx, _, _, rfl, s12 _ _ hx, TC.cl, TC.n_after, pf_after _ _ _ _, _, rfl, x', C, dx', _, _, rfl, s12 _ _ hx', TC.cl, TC.n_after, pf_after _ _ _ _, rfl, ?_⟩
          refine qq _ ?_
          rw [decide_eq_decide]
          constructor
          · intro e
            have e3 := V.str.inj e
            cases g; cases g'
            simp only at c c2 e3
            rw [c.1, c.2, c2, e3]
          · intro e
            rw [e]
        · rw [decide_eq_false c2]
          show (if false = true then _ else _)
          rw [if_neg (by decide)]
          exact qq _ (decide_eq_false fun e => c2 (by rw [e])).symm
      · have e : (decide (g.note = g'.note) && decide (g.pool = g'.pool)) = false := by
          by_cases c1 : g.note = g'.note
          · rw [decide_eq_true c1, decide_eq_false fun h => c ⟨c1, h⟩]
            rfl
          · rw [decide_eq_false c1]
            rfl
        rw [e]
        show (if false = true then _ else _)
        rw [if_neg (by decide)]
        exact qq _ (decide_eq_false fun e => c ⟨by rw [e], by rw [e]⟩).symm
    · refine ⟨_, rfl, _, _, t, .ref C, false, rfl, .own C, ty, kt, false, rfl, ?_⟩
      show (if (!false) = true then _ else _)
      rw [if_pos (by decide)]
      exact q
end
end Kl

set_option maxRecDepth 100000
set_option maxHeartbeats 4000000
namespace Kl
open PySem PySem.Spec PyProof.Rows L2 Gx Mx
/-- all signs below 128 -/
def Asc (z : Str) : Prop := ∀ c ∈ z.cps.toList, c < 128
theorem asc_ok {z : Str} (h : Asc z) : PyData.strOk z = true := by
  show z.cps.all _ = true
  rw [Array.all_eq_true']
  intro c hc
  exact decide_eq_true (Nat.lt_trans (h c (Array.mem_toList_iff.mpr hc)) (by decide))
theorem mem_join {y : Str} {c : Nat} {w : Str} (hc : c ∈ w.cps.toList) : ∀ {l : List Str}, w ∈ l → c ∈ (Str.join y l).cps.toList
  | [a], h => by
    rw [List.mem_singleton.mp h] at hc
    exact hc
  | a :: b :: r, h => by
    show c ∈ (a ++ y ++ Str.join y (b :: r)).cps.toList
    rw [cps_app', cps_app', List.mem_append, List.mem_append]
    rcases List.mem_cons.mp h with rfl | h
    · exact .inl (.inl hc)
    · exact .inr (mem_join hc h)
theorem asc_split {z y w : Str} (h : Asc z) (hw : w ∈ Txt.split z y) : Asc w := fun c hc => by
  refine h c ?_
  have e := join_cut z y
  rw [TL.join_eq] at e
  rw [← e]
  exact mem_join hc hw
theorem seven {ws : List Str} (h : ws.length = 7) : ∃ w0 w1 w2 w3 w4 w5 w6, ws = [w0, w1, w2, w3, w4, w5, w6] := by
  match ws, h with
  | [w0, w1, w2, w3, w4, w5, w6], _ => exact ⟨w0, w1, w2, w3, w4, w5, w6, rfl⟩
theorem parse_not {ws : List Str} (h : ws.length ≠ 7) : parseW ws = none := by
  unfold parseW
  split
  · exact absurd rfl h
  · rfl
abbrev SIG : List Str := ["page", "to", "then"]
section
variable {P : Program} {w : World} {K : PySem.W.Frag} {mg : Str → Option Value} {base : Heap}
/-- what page_line gives -/
structure Told (H : Hp) (t : Addr) (g : Pg) : Prop where
  h : ∃ t1 t2 pp mp, H t = some (.tup [.ref t1, .ref t2]) ∧ H t1 = some (.tup [.str "page", .str g.note, .ref pp]) ∧ H t2 = some (.tup [.ref mp, .str g.after]) ∧ H pp = some (.tup (g.pool.map V.str)) ∧ H mp = some (.tup (g.made.map V.str))
/-- what names_in gave -/
def DueM (m : Nat) (G : Hp) (z : Str) (v : V) : Prop := (∃ p q, v = .ref p ∧ parseM m z = some q ∧ G p = some (.tup (q.map V.str))) ∨ (v = .non ∧ parseM m z = none)
theorem DueM.same {m : Nat} {G G' : Hp} {z : Str} {v : V} (h : DueM m G z v) (s : Same G G') : DueM m G' z v := by
  rcases h with ⟨p, q, a, b, c⟩ | h
  · exact .inl ⟨p, q, a, b, s _ _ c⟩
  · exact .inr h
def spPL : Sp := fun vs H Q _ => ∃ z : Str, vs = [V.str z] ∧ Asc z ∧ z.length ≤ 4000 ∧ (∀ t g H', parseP z = some g → Same H H' → Told H' t g → Q (.ref t) H') ∧ (∀ H', parseP z = none → Same H H' → Q .non H')
theorem ok_pl {f : Addr} {fd : FuncData} (F : Fun K "page_line" "page_line" s_page_line f fd) (T : Top K mg) : FnOk P w K mg base CX0 5 f fd ["line"] spPL := by
  obtain ⟨tm, gm⟩ := T.g_MAX_MADE
  obtain ⟨tp, gp⟩ := T.g_MAX_POOL
  obtain ⟨aS, oS, iS, nS, gS, lS, cS, dS, zS, vS⟩ := T.t__SIGNS
  have hS : ∀ H : Hp, SqT K H aS (SIG.map V.str) := fun H => .inr ⟨oS, iS, nS, lS, cS, dS, zS, vS⟩
  have cn : Cal P w K mg base 4 "is_name" ["value"] (spName K) := (T.d_is_name.cal fun f fd F => ok_name F T).mono (by decide)
  have ci : CalO P w K mg base 4 "names_in" ["text", "most"] 1 ["most"] (fun vs zs => vs ++ zs) spNI := T.d_names_in.calO fun f fd F => ok_ni F T
  have cw : Cal P w K mg base 4 "words_of" ["line"] spWords := (T.d_words_of.cal fun f fd F => ok_words F T).mono (by decide)
  refine F.ok sc_page_line (fun vs H Q E h => ?_) (fun cdv A outer s H vs Q E hr h => ?_)
  · obtain ⟨z, rfl, _⟩ := h
    rfl
  · obtain ⟨z, rfl, ha, hz, q1, q2⟩ := h
    refine ⟨_, pss_cut (ps_set (i := 1) sc_page_line.nd rfl (.inl rfl) (pe_cal cw hr (by rfl) (pa_cons (pv 0) pa_nil)))
      (pss_cons (ps_if (PW.pt (pw_or (pt_cmpR op_ne (pe_callB call_len_seq (by rfl) T.b_len PySem.boot_len (pa_cons (pv 1) pa_nil)) pe_int (nomark _))
          (pw_or1 (pt_cmpR (op_neD hr.units) (pe_tup (pa_cons (pe_ix ix_list (pv 1) pe_int (fun _ _ => rfl)) (pa_cons (pe_ix ix_list (pv 1) pe_int (fun _ _ => rfl)) (pa_cons (pe_ix ix_list (pv 1) pe_int (fun _ _ => rfl)) pa_nil)))) (pe_glob (v := .ref aS) (by rfl) gS rfl) (nomark _))))) (pss_one (ps_ret pe_non)) pss_nil)
      (pss_cut (ps_set (i := 2) sc_page_line.nd rfl (.inl rfl) (pe_calO ci hr (by rfl) (pa_cons (pe_ix ix_list (pv 1) pe_int (fun _ _ => rfl)) pa_nil) (pk_cons (pe_glob (v := .int 8) (by rfl) gp ⟨_, rfl⟩) pk_nil)))
      (pss_cut (ps_set (i := 3) sc_page_line.nd rfl (.inl rfl) (pe_calO ci hr (by rfl) (pa_cons (pe_ix ix_list (pv 1) pe_int (fun _ _ => rfl)) pa_nil) (pk_cons (pe_glob (v := .int 2) (by rfl) gm ⟨_, rfl⟩) pk_nil)))
      (pss_cons (ps_if (PW.pt (pw_or (pt_cmpR op_isN (pv 2) pe_non (nomark _)) (pw_or (pt_cmpR op_isN (pv 3) pe_non (nomark _)) (pw_or (pt_not (pt_val (pe_cal cn hr (by rfl) (pa_cons (pe_ix ix_list (pv 1) pe_int (fun _ _ => rfl)) pa_nil))))
          (pw_or1 (pt_not (pt_val (pe_cal cn hr (by rfl) (pa_cons (pe_ix ix_list (pv 1) pe_int (fun _ _ => rfl)) pa_nil))))))))) (pss_one (ps_ret pe_non)) pss_nil)
      (pss_one (ps_ret (pe_tup (pa_cons (pe_tup (pa_cons pe_str (pa_cons (pe_ix ix_list (pv 1) pe_int (fun _ _ => rfl)) (pa_cons (pv 2) pa_nil)))) (pa_cons (pe_tup (pa_cons (pv 3) (pa_cons (pe_ix ix_list (pv 1) pe_int (fun _ _ => rfl)) pa_nil))) pa_nil))))))))), ?_⟩
    have big : 1000 ≤ sizeLine := by decide
    have wl : ∀ y ∈ Txt.split z " ", y.length ≤ 4000 := fun y hy => Nat.le_trans (split_short (by decide +kernel) hy) hz
    have wa : ∀ y ∈ Txt.split z " ", Asc y := fun y hy => asc_split ha hy
    have hp : parseP z = parseW (Txt.split z " ") := rfl
    rw [hp] at q2
    have q1' : ∀ t g H', parseW (Txt.split z " ") = some g → Same H H' → Told H' t g → Q (.ref t) H' := q1
    clear q1 hp
    refine ⟨fun σ' G => ∃ l : Addr, σ' = [some (.str z), some (.ref l), none, none] ∧ G l = some (.lst ((Txt.split z " ").map V.str)) ∧ Same H G, ?_, ?_⟩
    · exact ⟨_, rfl, z, rfl, hz, fun l H1 s1 el => ⟨l, rfl, el, s1⟩⟩
    generalize Txt.split z " " = ws at wl wa q1' q2
    rintro σ' G ⟨l, rfl, el, s1⟩
    refine ⟨_, rfl, l, _, rfl, .inl (.inl (.inl el)), rfl, _, rfl, ?_⟩
    rw [List.length_map]
    by_cases c7 : ws.length = 7
    rotate_left
    · have e : decide (V.int ((ws.length : Nat) : Int) = V.int 7) = false := decide_eq_false fun h => c7 (by have := V.int.inj h; omega)
      rw [e]
      show (if true = true then _ else _)
      rw [if_pos rfl]
      show (if true = true then _ else _)
      rw [if_pos rfl]
      exact q2 G (parse_not c7) s1
    obtain ⟨w0, w1, w2, w3, w4, w5, w6, rfl⟩ := seven c7
    show (if (!decide (V.int 7 = V.int 7)) = true then _ else _)
    rw [decide_eq_true rfl, if_neg (by decide)]
    have sq : SqL K G l ([w0, w1, w2, w3, w4, w5, w6].map V.str) := .inl (.inl el)
    refine ⟨_, rfl, l, _, _, .str w0, rfl, rfl, sq, rfl, _, rfl, l, _, _, .str w3, rfl, rfl, sq, rfl, _, rfl, l, _, _, .str w5, rfl, rfl, sq, rfl, by show 3 ≤ sizeLine; omega, fun t nt => ?_⟩
    have s2 := same_new (o := .tup [V.str w0, .str w3, .str w5]) (Same.refl G) nt
    have et : (upd G t (.tup [V.str w0, .str w3, .str w5])) t = some (.tup ([w0, w3, w5].map V.str)) := upd_same
    generalize upd G t (.tup [V.str w0, .str w3, .str w5]) = G2 at s2 et
    have ok3 : ∀ y ∈ [w0, w3, w5], PyData.strOk y = true := fun y hy => by
      simp only [List.mem_cons, List.not_mem_nil, or_false] at hy
      rcases hy with rfl | rfl | rfl <;> exact asc_ok (wa _ (by simp))
    refine ⟨.tuple (tD [w0, w3, w5]), .tuple (tD SIG), .tup (.inl (.inl et)) (dp_texts _), .tup (hS G2) (dp_texts _), shaped_textsT ok3, by decide +kernel, ?_⟩
    rw [PyData.eqv, eqv_texts]
    refine ⟨_, rfl, ?_⟩
    have s12 : Same H G2 := fun b o e => s2 _ _ (s1 _ _ e)
    by_cases c3 : [w0, w3, w5] = SIG
    rotate_left
    · rw [decide_eq_false c3]
      show (if (!false) = true then _ else _)
      rw [if_pos (by decide)]
      refine q2 G2 ?_ s12
      show readW w0 w1 w2 w3 w4 w5 w6 = none
      unfold readW
      rw [if_neg fun h => c3 (by rw [h.1, h.2.1, h.2.2])]
    rw [decide_eq_true c3]
    show (if (!true) = true then _ else _)
    rw [if_neg (by decide)]
    have c3' : w0 = "page" ∧ w3 = "to" ∧ w5 = "then" := by
      obtain ⟨a, b⟩ := List.cons.inj c3
      obtain ⟨b, c⟩ := List.cons.inj b
      obtain ⟨c, _⟩ := List.cons.inj c
      exact ⟨a, b, c⟩
    have hW : parseW [w0, w1, w2, w3, w4, w5, w6] = if nameB w1 = true ∧ nameB w6 = true then ((parseM 8 w2).bind fun p => (parseM 2 w4).map fun m => (⟨w1, p, m, w6⟩ : Pg)) else none := by
      show readW w0 w1 w2 w3 w4 w5 w6 = _
      unfold readW
      rw [if_pos c3']
    rw [hW] at q1' q2
    clear hW c3 ok3 et
    have el2 := s2 _ _ el
    -- the pool
    refine ⟨fun σ' G' => ∃ v2 : V, σ' = [some (.str z), some (.ref l), some v2, none] ∧ Same G2 G' ∧ DueM 8 G' w2 v2, ?_, ?_⟩
    · refine ⟨_, rfl, l, _, _, .str w2, rfl, rfl, .inl (.inl el2), rfl, rfl, rfl, w2, 8, rfl, by decide, wl w2 (by simp), fun p q H' hpa s ep => ?_, fun H' hpa s => ?_⟩
      · exact ⟨_, rfl, s, .inl ⟨p, q, rfl, hpa, ep⟩⟩
      · exact ⟨_, rfl, s, .inr ⟨rfl, hpa⟩⟩
    rintro σ' G3 ⟨v2, rfl, s23, d2⟩
    have el3 := s23 _ _ el2
    refine ⟨fun σ' G' => ∃ v3 : V, σ' = [some (.str z), some (.ref l), some v2, some v3] ∧ Same G3 G' ∧ DueM 2 G' w4 v3, ?_, ?_⟩
    · refine ⟨_, rfl, l, _, _, .str w4, rfl, rfl, .inl (.inl el3), rfl, rfl, rfl, w4, 2, rfl, by decide, wl w4 (by simp), fun p q H' hpa s ep => ?_, fun H' hpa s => ?_⟩
      · exact ⟨_, rfl, s, .inl ⟨p, q, rfl, hpa, ep⟩⟩
      · exact ⟨_, rfl, s, .inr ⟨rfl, hpa⟩⟩
    rintro σ' G4 ⟨v3, rfl, s34, d3⟩
    have d2 := d2.same s34
    have el4 := s34 _ _ el3
    have s04 : Same H G4 := fun b o e => s34 _ _ (s23 _ _ (s12 _ _ e))
    have no : ∀ {o : Option Pg}, o = none → (if nameB w1 = true ∧ nameB w6 = true then o else none) = none := fun {o} e => by rw [e]; split <;> rfl
    refine ⟨_, rfl, rfl, _, rfl, ?_⟩
    rcases d2 with ⟨p2, r2, rfl, h2, e2⟩ | ⟨rfl, h2⟩
    rotate_left
    · show (if decide (V.non = V.non) = true then _ else _)
      rw [decide_eq_true rfl, if_pos rfl]
      show (if true = true then _ else _)
      rw [if_pos rfl]
      exact q2 G4 (no (by rw [h2]; rfl)) s04
    show (if decide (V.ref p2 = V.non) = true then _ else _)
    rw [decide_eq_false (fun h => nomatch h), if_neg (by decide)]
    refine ⟨_, rfl, rfl, _, rfl, ?_⟩
    rcases d3 with ⟨p3, r3, rfl, h3, e3⟩ | ⟨rfl, h3⟩
    rotate_left
    · show (if decide (V.non = V.non) = true then _ else _)
      rw [decide_eq_true rfl, if_pos rfl]
      show (if true = true then _ else _)
      rw [if_pos rfl]
      exact q2 G4 (no (by rw [h2, h3]; rfl)) s04
    show (if decide (V.ref p3 = V.non) = true then _ else _)
    rw [decide_eq_false (fun h => nomatch h), if_neg (by decide)]
    have sq4 : SqL K G4 l ([w0, w1, w2, w3, w4, w5, w6].map V.str) := .inl (.inl el4)
    have big5 : 100000 ≤ sizeLine := by decide
    have arg : ∀ {y : Str}, y.length ≤ 4000 → NameArg K G4 (.str y) := fun {y} h => .inl ⟨y, rfl, by omega⟩
    refine ⟨_, rfl, l, _, _, .str w1, rfl, rfl, sq4, rfl, .str w1, rfl, arg (wl w1 (by simp)), _, rfl, ?_⟩
    cases n1 : nameB w1 with
    | false =>
      have en : nameV (.str w1) = false := n1
      rw [en]
      show (if true = true then _ else _)
      rw [if_pos rfl]
      show (if true = true then _ else _)
      rw [if_pos rfl]
      exact q2 G4 (by rw [n1, if_neg (fun h => nomatch h.1)]) s04
    | true =>
      have en : nameV (.str w1) = true := n1
      rw [en]
      show (if (!true) = true then _ else _)
      rw [if_neg (by decide)]
      refine ⟨_, rfl, l, _, _, .str w6, rfl, rfl, sq4, rfl, .str w6, rfl, arg (wl w6 (by simp)), _, rfl, ?_⟩
      cases n6 : nameB w6 with
      | false =>
        have en : nameV (.str w6) = false := n6
        rw [en]
        show (if true = true then _ else _)
        rw [if_pos rfl]
        exact q2 G4 (by rw [n6, if_neg (fun h => nomatch h.2)]) s04
      | true =>
        have en : nameV (.str w6) = true := n6
        rw [en]
        show (if (!true) = true then _ else _)
        rw [if_neg (by decide)]
        rw [n1, n6, if_pos ⟨rfl, rfl⟩, h2, h3] at q1'
        refine ⟨_, rfl, l, _, _, .str w1, rfl, rfl, sq4, rfl, _, rfl, by show 3 ≤ sizeLine; omega, fun t1 m1 => ?_⟩
        have u1 := same_new (o := .tup [V.str "page", .str w1, .ref p2]) (Same.refl G4) m1
        have f1 : (upd G4 t1 (.tup [V.str "page", .str w1, .ref p2])) t1 = some (.tup [V.str "page", .str w1, .ref p2]) := upd_same
        generalize upd G4 t1 (.tup [V.str "page", .str w1, .ref p2]) = G5 at u1 f1
        refine ⟨_, rfl, _, rfl, l, _, _, .str w6, rfl, rfl, .inl (.inl (u1 _ _ el4)), rfl, by show 2 ≤ sizeLine; omega, fun t2 m2 => ?_⟩
        have u2 := same_new (o := .tup [V.ref p3, .str w6]) (Same.refl G5) m2
        have f2 : (upd G5 t2 (.tup [V.ref p3, .str w6])) t2 = some (.tup [V.ref p3, .str w6]) := upd_same
        generalize upd G5 t2 (.tup [V.ref p3, .str w6]) = G6 at u2 f2
        refine ⟨by show 2 ≤ sizeLine; omega, fun t3 m3 => ?_⟩
        have u3 := same_new (o := .tup [V.ref t1, .ref t2]) (Same.refl G6) m3
        refine q1' t3 ⟨w1, r2, r3, w6⟩ _ rfl (fun b o e => u3 _ _ (u2 _ _ (u1 _ _ (s04 _ _ e)))) ⟨t1, t2, p2, p3, upd_same, u3 _ _ (u2 _ _ f1), u3 _ _ f2, u3 _ _ (u2 _ _ (u1 _ _ e2)), u3 _ _ (u2 _ _ (u1 _ _ e3))⟩
end
end Kl

set_option maxRecDepth 100000
set_option maxHeartbeats 4000000
namespace Kl
open PySem PySem.Spec PyProof.Rows L2 Gx Mx
section
variable {P : Program} {w : World} {K : PySem.W.Frag} {mg : Str → Option Value} {base : Heap}
/-! ### Page.from_line -/
def spFL (K : PySem.W.Frag) (C CP : Addr) : Sp := fun vs H Q E => ∃ z : Str, vs = [.ref C, V.str z] ∧ Asc z ∧ z.length ≤ 4000 ∧ (∀ x g H', parseP z = some g → Same H H' → PageAt K C H' x g → Q (.ref x) H') ∧
  ∀ dd H', parseP z = none → Same H H' → H' dd = some (.xd [("number", .non)]) → E (.ref CP) (some dd) H'
theorem ok_fl {C CP fI f : Addr} {fd fdI : FuncData} (F : Fun K "from_line" "Page.from_line" s_Page_from_line f fd) (T : Top K mg) (TC : Cl_Page K mg C) (TX : XT_ParseError K mg CP fI) (FX : Fun K "__init__" "ParseError.__init__" s_ParseError_init fI fdI) :
    FnOk P w K mg base (L2.CX P w) 7 f fd ["cls", "line"] (spFL K C CP) := by
  have cp : Cal P w K mg base 6 "page_line" ["line"] spPL := (T.d_page_line.cal fun f fd F => ok_pl F T).mono (by decide)
  have kI : CalI P w K mg base C 5 ["self", "note", "pool", "made", "after"] (spPInit K C) := by
    obtain ⟨f, fd, m, F, b⟩ := TC.made
    exact ⟨f, fd, m, ok_pinit F T TC, b⟩
  refine F.okX sc_Page_from_line (fun vs H Q E h => ?_) (fun cdv A outer s H vs Q E hr h => ?_)
  · obtain ⟨z, rfl, _⟩ := h
    rfl
  · obtain ⟨z, rfl, ha, hz, q1, q2⟩ := h
    refine ⟨_, pss_cons (ps_set (i := 2) sc_Page_from_line.nd rfl (.inl rfl) (pe_cal cp hr (by rfl) (pa_cons (pv 1) pa_nil)))
      (pss_cons (ps_if (pt_cmpR op_isN (pv 2) pe_non (nomark _)) (pss_one (ps_raiseX rfl PySem.F.excBase_ValueError TX (init_ParseError TX FX) hr (takes_of rfl rfl rfl rfl) (pa_cons pe_non pa_nil) (by rfl))) pss_nil)
      (pss_one (ps_ret (pe_makeL (i := 0) kI hr rfl (by first | exact .inl rfl | exact .inr (.inl rfl) | exact .inr (.inr rfl)) (pa_cons (pe_ix ix_tup (pe_ix ix_tup (pv 2) pe_int (fun _ _ => rfl)) pe_int (fun _ _ => rfl)) (pa_cons (pe_ix ix_tup (pe_ix ix_tup (pv 2) pe_int (fun _ _ => rfl)) pe_int (fun _ _ => rfl))
        (pa_cons (pe_ix ix_tup (pe_ix ix_tup (pv 2) pe_int (fun _ _ => rfl)) pe_int (fun _ _ => rfl)) (pa_cons (pe_ix ix_tup (pe_ix ix_tup (pv 2) pe_int (fun _ _ => rfl)) pe_int (fun _ _ => rfl)) pa_nil)))))))), ?_⟩
    refine ⟨_, rfl, z, rfl, ha, hz, fun t g H1 hpa s1 ht => ?_, fun H1 hpa s1 => ?_⟩
    rotate_left
    · refine ⟨_, rfl, rfl, _, rfl, ?_⟩
      show (if decide (V.non = V.non) = true then _ else _)
      rw [decide_eq_true rfl, if_pos rfl]
      exact ⟨.non, rfl, fun dd nd => q2 dd _ hpa (same_new s1 nd) upd_same⟩
    refine ⟨_, rfl, rfl, _, rfl, ?_⟩
    show (if decide (V.ref t = V.non) = true then _ else _)
    rw [decide_eq_false (fun h => nomatch h), if_neg (by decide)]
    obtain ⟨t1, t2, pp, mp, e0, e1, e2, e3, e4⟩ := ht.h
    have ok := parse_ok hpa
    refine ⟨rfl, _, rfl, t, _, _, .ref t1, rfl, rfl, .inl (.inl e0), rfl, t1, _, _, .str g.note, rfl, rfl, .inl (.inl e1), rfl, _, rfl, t, _, _, .ref t1, rfl, rfl, .inl (.inl e0), rfl, t1, _, _, .ref pp, rfl, rfl, .inl (.inl e1), rfl,
      _, rfl, t, _, _, .ref t2, rfl, rfl, .inl (.inl e0), rfl, t2, _, _, .ref mp, rfl, rfl, .inl (.inl e2), rfl, _, rfl, t, _, _, .ref t2, rfl, rfl, .inl (.inl e0), rfl, t2, _, _, .str g.after, rfl, rfl, .inl (.inl e2), rfl, fun x dx nx ndx nxx => ?_⟩
    have k0 : ∀ b o, H1 b = some o → (upd (upd H1 dx (.own x)) x (.ins C dx [])) b = some o := fun b o e => by
      rw [upd_ne (ne_of_none e nx), upd_ne (ne_of_none e ndx)]
      exact e
    refine ⟨x, dx, pp, mp, g, rfl, upd_same, .inl (.inl (k0 _ _ e3)), .inl (.inl (k0 _ _ e4)), ok, fun H2 hP keep => ⟨rfl, ?_⟩⟩
    exact q1 x g H2 hpa (fun b o e => keep b o (ne_of_none (s1 _ _ e) nx) (k0 _ _ (s1 _ _ e))) hP
end
end Kl

set_option maxRecDepth 100000
set_option maxHeartbeats 4000000
namespace Kl
open PySem PySem.Spec PyProof.Rows L2 Gx Mx
/-! ### parts taken out of a pool -/
theorem idx_no {ps : List Str} {t : Str} {m : Nat} (h : m < ps.idxOf t) : ps[m]? ≠ some t := by
  intro e
  obtain ⟨hm, e⟩ := List.getElem?_eq_some_iff.mp e
  have n : (ps[m] == t) = false := List.not_of_lt_findIdx (p := (· == t)) h
  rw [e, beq_self_eq_true] at n
  cases n
theorem idx_at {ps : List Str} {t : Str} (h : t ∈ ps) : ps[ps.idxOf t]? = some t := by
  have hl := List.idxOf_lt_length_of_mem h
  rw [List.getElem?_eq_getElem hl]
  exact congrArg some (List.getElem_idxOf hl)
def outS (r : List Str) (p : Str) : List Str := r.eraseIdx (r.idxOf p)
def takeAll : List Str → List Str → Option (List Str)
  | r, [] => some r
  | r, p :: ps => if p ∈ r then takeAll (outS r p) ps else none
def leftM : List Str → List (List Str) → Option (List Str)
  | r, [] => some r
  | r, m :: ms => if m = [] then none else (takeAll r m).bind fun r' => leftM r' ms
theorem take_app : ∀ (xs : List Str) (r ys : List Str), takeAll r (xs ++ ys) = (takeAll r xs).bind fun r' => takeAll r' ys
  | [], r, ys => rfl
  | x :: xs, r, ys => by
    show (if x ∈ r then takeAll (outS r x) (xs ++ ys) else none) = (if x ∈ r then takeAll (outS r x) xs else none).bind _
    by_cases c : x ∈ r
    · rw [if_pos c, if_pos c, take_app xs]
    · rw [if_neg c, if_neg c]
      rfl
theorem left_app : ∀ (xs : List (List Str)) (r : List Str) (ys : List (List Str)), leftM r (xs ++ ys) = (leftM r xs).bind fun r' => leftM r' ys
  | [], r, ys => rfl
  | x :: xs, r, ys => by
    show (if x = [] then none else (takeAll r x).bind fun r' => leftM r' (xs ++ ys)) = (if x = [] then none else (takeAll r x).bind fun r' => leftM r' xs).bind _
    by_cases c : x = []
    · rw [if_pos c, if_pos c]
      rfl
    · rw [if_neg c, if_neg c]
      cases takeAll r x with
      | none => rfl
      | some r' => exact left_app xs r' ys
theorem take_bad {r r' ps : List Str} {j : Nat} {p : Str} (h : takeAll r (ps.take j) = some r') (hp : ps[j]? = some p) (n : p ∉ r') : takeAll r ps = none := by
  have e : ps = ps.take j ++ (p :: ps.drop (j + 1)) := by
    obtain ⟨hl, e⟩ := List.getElem?_eq_some_iff.mp hp
    rw [← e, ← List.drop_eq_getElem_cons hl, List.take_append_drop]
  rw [e, take_app, h]
  show (if p ∈ r' then _ else none) = none
  rw [if_neg n]
theorem take_go {r r' ps : List Str} {j : Nat} {p : Str} (h : takeAll r (ps.take j) = some r') (hp : ps[j]? = some p) (n : p ∈ r') : takeAll r (ps.take (j + 1)) = some (outS r' p) := by
  rw [List.take_add_one, hp, take_app, h]
  show (if p ∈ r' then _ else none) = _
  rw [if_pos n]
  rfl
theorem left_bad {r r' : List Str} {ms : List (List Str)} {j : Nat} {m : List Str} (h : leftM r (ms.take j) = some r') (hm : ms[j]? = some m) (n : m = [] ∨ takeAll r' m = none) : leftM r ms = none := by
  have e : ms = ms.take j ++ (m :: ms.drop (j + 1)) := by
    obtain ⟨hl, e⟩ := List.getElem?_eq_some_iff.mp hm
    rw [← e, ← List.drop_eq_getElem_cons hl, List.take_append_drop]
  rw [e, left_app, h]
  show (if m = [] then none else (takeAll r' m).bind _) = none
  rcases n with n | n
  · rw [if_pos n]
  · rw [n]
    split <;> rfl
theorem left_go {r r' r2 : List Str} {ms : List (List Str)} {j : Nat} {m : List Str} (h : leftM r (ms.take j) = some r') (hm : ms[j]? = some m) (n : m ≠ []) (e : takeAll r' m = some r2) : leftM r (ms.take (j + 1)) = some r2 := by
  rw [List.take_add_one, hm, left_app, h]
  show (if m = [] then none else (takeAll r' m).bind fun r => leftM r []) = _
  rw [if_neg n, e]
  rfl
theorem take_len : ∀ (ps : List Str) {r r' : List Str}, takeAll r ps = some r' → r'.length ≤ r.length ∧ ∀ z ∈ r', z ∈ r
  | [], r, r', h => by cases h; exact ⟨Nat.le_refl _, fun z hz => hz⟩
  | p :: ps, r, r', h => by
    have h : (if p ∈ r then takeAll (outS r p) ps else none) = some r' := h
    split at h
    · obtain ⟨a, b⟩ := take_len ps h
      refine ⟨Nat.le_trans a (List.length_eraseIdx_le _ _), fun z hz => List.mem_of_mem_eraseIdx (b z hz)⟩
    · cases h
section
variable {P : Program} {w : World} {K : PySem.W.Frag} {mg : Str → Option Value} {base : Heap}
/-! ### _law_without -/
def spWo (K : PySem.W.Frag) : Sp := fun vs H Q _ => ∃ (p q : Addr) (r ps : List Str), vs = [V.ref p, V.ref q] ∧ SqT K H p (r.map V.str) ∧ SqT K H q (ps.map V.str) ∧ r.length ≤ 100 ∧ ps.length ≤ 100 ∧
  (∀ t r' H', takeAll r ps = some r' → Same H H' → H' t = some (.tup (r'.map V.str)) → Q (.ref t) H') ∧ (∀ H', takeAll r ps = none → Same H H' → Q .non H')
theorem ok_wt {f : Addr} {fd : FuncData} (F : Fun K "_law_without" "_law_without" s_law_without f fd) (T : Top K mg) : FnOk P w K mg base CX0 1 f fd ["_law_pool", "_law_parts"] (spWo K) := by
  refine F.ok sc_law_without (fun vs H Q E h => ?_) (fun cdv A outer s H vs Q E hr h => ?_)
  · obtain ⟨p, q, r, ps, rfl, _⟩ := h
    rfl
  · obtain ⟨p, q, r, ps, rfl, hp, hq, l1, l2, q1, q2⟩ := h
    refine ⟨_, pss_cut (ps_set (i := 2) sc_law_without.nd rfl (.inl rfl) (pe_callTy call_list_of (by rfl) T.b_list (by decide +kernel) (pa_cons (pv 0) pa_nil)))
      (pss_cut (ps_for PassesOwn.never rfl (pi_tup (pv 1)) (pg_name (i := 3) sc_law_without.nd rfl (.inl rfl))
        (pss_cons (ps_if (pt_cmpR op_notIn_seq (pv 3) (pv 2) (by rfl)) (pss_one (ps_ret pe_non)) pss_nil)
        (pss_one (ps_expr (pe_bm PySem.F.plainAttrs_list PySem.F.slot_list_remove PySem.F.type_list_remove mt_removeS (pv 2) (pa_cons (pv 3) pa_nil))))))
      (pss_one (ps_ret (pe_callTy call_tuple_of (by rfl) T.b_tuple (by decide +kernel) (pa_cons (pv 2) pa_nil))))), ?_⟩
    refine ⟨fun σ' G => ∃ l : Addr, σ' = [some (.ref p), some (.ref q), some (.ref l), none] ∧ G l = some (.lst (r.map V.str)) ∧ H l = none ∧ Same H G, ?_, ?_⟩
    · exact ⟨_, rfl, p, _, rfl, .inr hp, fun l nl => ⟨l, rfl, upd_same, nl, same_new (Same.refl H) nl⟩⟩
    rintro σ' G ⟨l, rfl, el, nl, s0⟩
    refine ⟨fun σ' G' => ∃ (y3 : Option V) (r' : List Str), σ' = [some (.ref p), some (.ref q), some (.ref l), y3] ∧ G' l = some (.lst (r'.map V.str)) ∧ takeAll r ps = some r' ∧ Same H G', ?_, ?_⟩
    · refine ⟨_, rfl, q, rfl, ⟨_, sqT_st s0 hq⟩, ?_⟩
      refine for_it (walk_tup (K := K) (a := q) (xs := ps.map V.str)) (fun j σ' G' => ∃ (y3 : Option V) (r' : List Str), σ' = [some (.ref p), some (.ref q), some (.ref l), y3] ∧ G' l = some (.lst (r'.map V.str)) ∧ takeAll r (ps.take j) = some r' ∧ Same H G')
        ⟨none, r, rfl, el, rfl, s0⟩ (fun j σ' G' _ h => by obtain ⟨_, _, _, _, _, sm⟩ := h; exact sqT_st sm hq) (fun j u σ' Gx G' hj h hy => ?_) (fun σ' G' h => ?_)
      rotate_left
      · obtain ⟨y3, r', e, h1, h2, h3⟩ := h
        rw [List.length_map, List.take_length] at h2
        exact ⟨y3, r', e, h1, h2, h3⟩
      obtain ⟨y3, r', rfl, eL, ht, sm⟩ := h
      obtain ⟨rfl, hu⟩ := hy
      have hu : (ps.map V.str)[j]? = some u := hu
      rw [List.getElem?_map] at hu
      obtain ⟨y, hy, rfl⟩ := Option.map_eq_some_iff.mp hu
      refine ⟨_, rfl, _, rfl, l, _, rfl, .inl (.inl (.inl eL)), rfl, flat_strs' r', _, rfl, ?_⟩
      rw [inV_strs]
      by_cases c : y ∈ r'
      · rw [decide_eq_true c]
        show (if (!true) = true then _ else _)
        rw [if_neg (by decide)]
        refine ⟨_, rfl, ⟨.inl ⟨rfl, _, .inl (.inl eL)⟩, ?_⟩⟩
        exact ⟨_, rfl, l, r', y, r'.idxOf y, rfl, rfl, eL, idx_at c, fun m hm => idx_no hm, _, outS r' y, rfl, upd_same, take_go ht hy c, fun b o e => by rw [upd_ne (ne_of_none e nl)]; exact sm _ _ e⟩
      · rw [decide_eq_false c]
        show (if (!false) = true then _ else _)
        rw [if_pos (by decide)]
        exact q2 G' (take_bad ht hy c) sm
    rintro σ' G1 ⟨y3, r', rfl, eL, ht, sm⟩
    refine ⟨_, rfl, l, _, rfl, .inl ⟨.inl (.inl eL), fun tq ntq => ?_⟩⟩
    exact q1 tq r' _ ht (same_new sm ntq) upd_same
/-! ### _left -/
def spLeft (K : PySem.W.Frag) : Sp := fun vs H Q _ => ∃ (p l : Addr) (r : List Str) (LL : List (Addr × List Str)), vs = [V.ref p, V.ref l] ∧ SqT K H p (r.map V.str) ∧ H l = some (.lst (LL.map fun q => V.ref q.1)) ∧ (∀ q ∈ LL, SqT K H q.1 (q.2.map V.str)) ∧
  (∀ t r' H', leftM r (LL.map (·.2)) = some r' → Same H H' → H' t = some (.tup (r'.map V.str)) → Q (.ref t) H') ∧ (∀ H', leftM r (LL.map (·.2)) = none → Same H H' → Q .non H')
theorem ok_left {f : Addr} {fd : FuncData} (F : Fun K "_left" "_left" s_left f fd) (T : Top K mg) : FnOk P w K mg base CX0 1 f fd ["pool", "makings"] (spLeft K) := by
  refine F.ok sc_left (fun vs H Q E h => ?_) (fun cdv A outer s H vs Q E hr h => ?_)
  · obtain ⟨p, l, r, LL, rfl, _⟩ := h
    rfl
  · obtain ⟨p, m, r, LL, rfl, hp, hm, hT, q1, q2⟩ := h
    refine ⟨_, pss_cut (ps_set (i := 2) sc_left.nd rfl (.inl rfl) (pe_callTy call_list_of (by rfl) T.b_list (by decide +kernel) (pa_cons (pv 0) pa_nil)))
      (pss_cut (ps_for PassesOwn.never rfl (pi_list (pv 1)) (pg_name (i := 3) sc_left.nd rfl (.inl rfl))
        (pss_cons (ps_if (pt_not (pt_truth (pv 3) (fun _ => rfl))) (pss_one (ps_ret pe_non)) pss_nil)
        (pss_one (ps_for PassesOwn.never rfl (pi_tup (pv 3)) (pg_name (i := 4) sc_left.nd rfl (.inl rfl))
          (pss_cons (ps_if (pt_cmpR op_notIn_seq (pv 4) (pv 2) (by rfl)) (pss_one (ps_ret pe_non)) pss_nil)
          (pss_one (ps_expr (pe_bm PySem.F.plainAttrs_list PySem.F.slot_list_remove PySem.F.type_list_remove mt_removeS (pv 2) (pa_cons (pv 4) pa_nil)))))))))
      (pss_one (ps_ret (pe_callTy call_tuple_of (by rfl) T.b_tuple (by decide +kernel) (pa_cons (pv 2) pa_nil))))), ?_⟩
    refine ⟨fun σ' G => ∃ l : Addr, σ' = [some (.ref p), some (.ref m), some (.ref l), none, none] ∧ G l = some (.lst (r.map V.str)) ∧ H l = none ∧ Same H G, ?_, ?_⟩
    · exact ⟨_, rfl, p, _, rfl, .inr hp, fun l nl => ⟨l, rfl, upd_same, nl, same_new (Same.refl H) nl⟩⟩
    rintro σ' G ⟨l, rfl, el, nl, s0⟩
    refine ⟨fun σ' G' => ∃ (y3 y4 : Option V) (r' : List Str), σ' = [some (.ref p), some (.ref m), some (.ref l), y3, y4] ∧ G' l = some (.lst (r'.map V.str)) ∧ leftM r (LL.map (·.2)) = some r' ∧ Same H G', ?_, ?_⟩
    · refine ⟨_, rfl, m, rfl, ⟨_, .inl (.inl (s0 _ _ hm))⟩, ?_⟩
      refine for_it (walk_list (K := K) (a := m) (xs := LL.map fun q => V.ref q.1)) (fun j σ' G' => ∃ (y3 y4 : Option V) (r' : List Str), σ' = [some (.ref p), some (.ref m), some (.ref l), y3, y4] ∧ G' l = some (.lst (r'.map V.str)) ∧ leftM r ((LL.map (·.2)).take j) = some r' ∧ Same H G')
        ⟨none, none, r, rfl, el, rfl, s0⟩ (fun j σ' G' _ h => by obtain ⟨_, _, _, _, _, _, sm⟩ := h; exact .inl (.inl (sm _ _ hm))) (fun j u σ' Gx G' hj h hy => ?_) (fun σ' G' h => ?_)
      rotate_left
      · obtain ⟨y3, y4, r', e, h1, h2, h3⟩ := h
        rw [List.length_map, List.take_of_length_le (by rw [List.length_map]; exact Nat.le_refl _)] at h2
        exact ⟨y3, y4, r', e, h1, h2, h3⟩
      obtain ⟨y3, y4, r', rfl, eL, ht, sm⟩ := h
      obtain ⟨rfl, hu⟩ := hy
      have hu : (LL.map fun q => V.ref q.1)[j]? = some u := hu
      rw [List.getElem?_map] at hu
      obtain ⟨q0, hq0, rfl⟩ := Option.map_eq_some_iff.mp hu
      have hq2 : (LL.map (·.2))[j]? = some q0.2 := by rw [List.getElem?_map, hq0]; rfl
      have hs0 := hT q0 (List.mem_of_getElem? hq0)
      refine ⟨_, rfl, !(q0.2.map V.str).isEmpty, .inr (.inl ⟨_, sqT_st sm hs0, rfl⟩), ?_⟩
      by_cases cE : q0.2 = []
      · rw [cE]
        show (if (!(!true)) = true then _ else _)
        rw [if_pos (by decide)]
        exact q2 G' (left_bad ht hq2 (.inl cE)) sm
      have e0 : (q0.2.map V.str).isEmpty = false := by
        cases h : q0.2 with
        | nil => exact absurd h cE
        | cons a b => rfl
      rw [e0]
      show (if (!(!false)) = true then _ else _)
      rw [if_neg (by decide)]
      refine ⟨_, rfl, q0.1, rfl, ⟨_, sqT_st sm hs0⟩, ?_⟩
      refine for_it (walk_tup (K := K) (a := q0.1) (xs := q0.2.map V.str)) (fun k σ' G' => ∃ (y4 : Option V) (r2 : List Str), σ' = [some (.ref p), some (.ref m), some (.ref l), some (.ref q0.1), y4] ∧ G' l = some (.lst (r2.map V.str)) ∧ takeAll r' (q0.2.take k) = some r2 ∧ Same H G')
        ⟨y4, r', rfl, eL, rfl, sm⟩ (fun j σ' G' _ h => by obtain ⟨_, _, _, _, _, sm⟩ := h; exact sqT_st sm hs0) (fun k u σ' Gx G2 hk h hy => ?_) (fun σ' G2 h => ?_)
      rotate_left
      · obtain ⟨y4, r2, rfl, h1, h2, h3⟩ := h
        rw [List.length_map, List.take_length] at h2
        exact ⟨_, _, r2, rfl, h1, left_go ht hq2 cE h2, h3⟩
      obtain ⟨y4, r2, rfl, eL2, ht2, sm2⟩ := h
      obtain ⟨rfl, hu⟩ := hy
      have hu : (q0.2.map V.str)[k]? = some u := hu
      rw [List.getElem?_map] at hu
      obtain ⟨y, hy, rfl⟩ := Option.map_eq_some_iff.mp hu
      refine ⟨_, rfl, _, rfl, l, _, rfl, .inl (.inl (.inl eL2)), rfl, flat_strs' r2, _, rfl, ?_⟩
      rw [inV_strs]
      by_cases c : y ∈ r2
      · rw [decide_eq_true c]
        show (if (!true) = true then _ else _)
        rw [if_neg (by decide)]
        refine ⟨_, rfl, ⟨.inl ⟨rfl, _, .inl (.inl eL2)⟩, ?_⟩⟩
        exact ⟨_, rfl, l, r2, y, r2.idxOf y, rfl, rfl, eL2, idx_at c, fun m hm => idx_no hm, _, outS r2 y, rfl, upd_same, take_go ht2 hy c, fun b o e => by rw [upd_ne (ne_of_none e nl)]; exact sm2 _ _ e⟩
      · rw [decide_eq_false c]
        show (if (!false) = true then _ else _)
        rw [if_pos (by decide)]
        exact q2 G2 (left_bad ht hq2 (.inr (take_bad ht2 hy c))) sm2
    rintro σ' G1 ⟨y3, y4, r', rfl, eL, ht, sm⟩
    refine ⟨_, rfl, l, _, rfl, .inl ⟨.inl (.inl eL), fun tq ntq => ?_⟩⟩
    exact q1 tq r' _ ht (same_new sm ntq) upd_same
end
end Kl

set_option maxRecDepth 100000
set_option maxHeartbeats 4000000
namespace Gx
open PySem PySem.Spec PyProof.Rows L2 SeqAt Mx
open AutoSeq1 (wpAny_loadPart')
/-! ### a dict is no text; data and dicts in a tuple -/
theorem str_eq_dict (b : Str) (u : Tok) (l : Addr) (dd : Option Addr) (sl : Array (Option Value)) (es : Array DictEntry) (ep : Nat) :
    Meets (Builtin.«str.__eq__» ⟨[.str b u, .ref l], []⟩) (fun _ R s => s.heap.get? l = some { cls := .type "dict", dict := dd, data := .dict es ep, slots := sl } ∧ R (.ok (.ret .notImplemented)) s) :=
  .of_wp fun prog w A R s h => by obtain ⟨hp, g, d, tk, os⟩ := s; obtain ⟨hl, h⟩ := h; wp_walk using wpAny_loadPart' hl, wpAny_load hl; exact ⟨_, rfl, h⟩
theorem dict_eq_str {prog : Program} {w : World} {A : Around} {E : Value → Shared → Prop} {s : Shared} {Q : Value → Shared → Prop} {a : Addr} {b : Str} {u : Tok} (da : s.TypeIs (.ref a) "dict") (h : Q .notImplemented s) :
    wpAny (model prog w) A (call (.builtin "dict.__eq__") [.ref a, .str b u]) Q E s := by
  refine wpAny_call_entry PySem.F.slot_dict_eq da PySem.F.entry_dict_eq ?_ (PySem.F.args_dict_eq_2 _ _)
  show wpAny _ _ (Builtin.Dict.dictSlotArgs "__eq__" ⟨[.ref a, .str b u], []⟩ >>= _) _ _ s
  refine wpAny_bind ?_
  unfold Builtin.Dict.dictSlotArgs
  refine wpAny_bind (wpAny_notOrdered_dict da ?_)
  show wpAny _ _ (pure (Value.ref a, Value.str b u)) _ _ s
  refine wpAny_pure ?_
  refine wpAny_bind (wpAny_isInstance (T := "str") (typeIs_str s b u) PySem.F.sub_str_dict ?_)
  simp only [Bool.not_false, if_true]
  exact wpAny_bind (wpAny_rule (wpAny_bind (wpAny_pure (wpAny_pure ⟨_, rfl, h⟩))))
section
variable {A : Around} {s : Shared}
theorem eqAt_str_dict {l : Addr} {ob : Obj} (b : Str) (u : Tok) (hl : s.heap.get? l = some ob) (hc : ob.cls = .type "dict") {es : Array DictEntry} {ep : Nat} (hde : ob.data = .dict es ep) (hu : A.units < cLine) : EqAt A s (.str b u) (.ref l) false := fun prog w E Q h => by
  unfold eqBool
  refine wpAny_holding ?_
  refine wpAny_ite_split (fun hab => absurd (eq_of_beq hab) nofun) (fun _ => ?_)
  obtain ⟨cls2, dd2, data2, sl2⟩ := ob
  simp only at hc hde
  subst hc hde
  refine wpAny_bind ?_
  exact rc_eq_decline_or (k := false) (typeIs_str s b u) ⟨_, hl, rfl⟩ (by decide) F.sub_dict_str F.slot_str_eq F.slot_dict_eq_refl
    (fun _ hq => call_meets F.slot_str_eq (typeIs_str s b u) F.entry_str_eq (F.args_str_eq_2 _ _) (str_eq_dict b u l dd2 sl2 es ep) ⟨hl, hq⟩)
    (fun _ hq => dict_eq_str ⟨_, hl, rfl⟩ hq)
    (fun _ hq => wpAny_of_eq (rfl : isSame (.str b u) (.ref l) = pure false) hq) (.inr hu) (wpAny_truthy_bool h)
end
section
variable {X : Cx}
theorem vals_mem : ∀ {zs : List Str} {its : List Value} {y : Value}, Vals (zs.map V.str) its → y ∈ its → ∃ z t, y = .str z t
  | [], _, _, .nil, h => nomatch h
  | z :: zs, _, y, .cons r t, h => by
    rcases List.mem_cons.mp h with rfl | h
    · obtain ⟨tk, e⟩ := r
      exact ⟨z, tk, e⟩
    · exact vals_mem t h
/-- x in a tuple of texts: data that are not deep, or a dict -/
def rInTx (K : PySem.W.Frag) : R2 := fun x y H Q => ∃ (p : Addr) (zs : List Str), y = .ref p ∧ SqT K H p (zs.map V.str) ∧ (∀ z ∈ zs, PyData.strOk z = true) ∧
  ((∃ d, Dp K H x d ∧ d.canLay0 = true ∧ d.depth ≤ 10 ∧ Q (.bl ((tD zs).any fun z => PyData.eqv z d)) H) ∨ ∃ a kvs, x = .ref a ∧ H a = some (.dK kvs) ∧ Q (.bl false) H)
theorem op_inTx (hu : X.A.units + 64 < cLine) : OpR X (compareOp .In) (rInTx X.K) := by
  intro pins s σ H x y v u Q I rx ry h
  obtain ⟨p, zs, rfl, hp, ok, h⟩ := h
  rcases h with ⟨d, hd, sd, dp, q⟩ | ⟨a, kvs, rfl, ea, q⟩
  · obtain ⟨as, r1⟩ := Dp.reads I d x v hd rx
    obtain ⟨bs, r2⟩ := Dp.reads I (.tuple (tD zs)) (.ref p) u (.tup hp (dp_texts zs)) ry
    exact SeqAt.in_tuple_reads r2 r1 (canLay_texts zs ok) sd (by omega) ⟨.bl _, H, I, rfl, q⟩
  · cases rx
    cases ry
    obtain ⟨its, rv, pl, hz⟩ := I.tuple hp
    obtain ⟨_, _, vs, _, hd⟩ := dk_of I.hok ea
    obtain ⟨ob, hb, hD⟩ := Heap.dictOf_iff.mp hd
    obtain ⟨es, ep, ex, ed, _⟩ := hD
    have hcb : ob.cls = .type "dict" := ex.1
    refine SeqAt.in_tupleAt (fun _ => false) pl (fun y hy => ?_) ⟨.bl false, H, I, ?_, q⟩
    · rw [List.mem_toArray] at hy
      obtain ⟨z, t, rfl⟩ := vals_mem rv hy
      exact eqAt_str_dict z t hb hcb ed (by show X.A.units + 1 < cLine; omega)
    · show Value.bool _ = Value.bool false
      rw [Array.any_eq_false' |>.mpr (fun _ _ => by simp)]
end
end Gx

set_option maxRecDepth 100000
set_option maxHeartbeats 4000000
namespace Kl
open PySem PySem.Spec PyProof.Rows L2 Gx Mx
section
variable {P : Program} {w : World} {K : PySem.W.Frag} {mg : Str → Option Value} {base : Heap}
/-! ### in, [..], len, str -/
def spKHas (K : PySem.W.Frag) (C : Addr) : Sp := fun vs H Q _ => ∃ (x md : Addr) (leaf : Str) (M : Mak) (ns : List Str) (v : V), vs = [V.ref x, v] ∧ KindsAt C H x md leaf M ns ∧ (∀ z ∈ ns, PyData.strOk z = true) ∧
  ((∃ d, Dp K H v d ∧ d.canLay0 = true ∧ d.depth ≤ 10 ∧ Q (.bl ((tD ns).any fun z => PyData.eqv z d)) H) ∨ ∃ a kvs, v = .ref a ∧ H a = some (.dK kvs) ∧ Q (.bl false) H)
theorem ok_khas {C f : Addr} {fd : FuncData} (F : Fun K "__contains__" "Kinds.__contains__" s_Kinds_contains f fd) (T : Top K mg) (TC : Cl_Kinds K mg C) : FnOk P w K mg base CX0 1 f fd ["self", "value"] (spKHas K C) := by
  refine F.ok sc_Kinds_contains (fun vs H Q E h => ?_) (fun cdv A outer s H vs Q E hr h => ?_)
  · obtain ⟨x, md, leaf, M, ns, v, rfl, _⟩ := h
    rfl
  · obtain ⟨x, md, leaf, M, ns, v, rfl, ⟨dx, nt, kvs, hx, hd, hM, hn⟩, ok, q⟩ := h
    have hu := hu_of hr
    refine ⟨_, pss_one (ps_ret (pe_cmpR (op_inTx hr.units) (pv 1) (pe_fld (pv 0) rfl) (by rfl))), ?_⟩
    exact ⟨_, rfl, _, rfl, x, C, dx, _, _, rfl, hx, TC.cl, TC.n_names, kf_names _ _ _, nt, ns, rfl, .inl (.inl hn), ok, q⟩
def spKGet (C : Addr) : Sp := fun vs H Q _ => ∃ (x md : Addr) (leaf : Str) (M : Mak) (ns : List Str) (z : Str), vs = [V.ref x, .str z] ∧ KindsAt C H x md leaf M ns ∧ z ∈ ns ∧
  ∀ p H', Same H H' → ((∃ ps, lookM M z = some ps ∧ TupZ H' p (ps.map V.str)) ∨ (lookM M z = none ∧ H' p = some (.tup []))) → Q (.ref p) H'
theorem ok_kget {C f : Addr} {fd : FuncData} (F : Fun K "__getitem__" "Kinds.__getitem__" s_Kinds_getitem f fd) (T : Top K mg) (TC : Cl_Kinds K mg C) : FnOk P w K mg base CX0 1 f fd ["self", "name"] (spKGet C) := by
  refine F.ok sc_Kinds_getitem (fun vs H Q E h => ?_) (fun cdv A outer s H vs Q E hr h => ?_)
  · obtain ⟨x, md, leaf, M, ns, z, rfl, _⟩ := h
    rfl
  · obtain ⟨x, md, leaf, M, ns, z, rfl, ⟨dx, nt, kvs, hx, hd, hM, hn⟩, hz, q⟩ := h
    have hu := hu_of hr
    refine ⟨_, pss_cons (ps_if (pt_cmpR op_notIn_seq (pv 1) (pe_fld (pv 0) rfl) (by rfl)) (pss_one ps_never) pss_nil)
      (pss_one (ps_ret (pe_dget2 hu (pe_fld (pv 0) rfl) (pv 1) (pe_tup pa_nil) (by constructor <;> rfl)))), ?_⟩
    refine ⟨_, rfl, _, rfl, x, C, dx, _, _, rfl, hx, TC.cl, TC.n_names, kf_names _ _ _, nt, _, rfl, .inr (.inl (.inl hn)), rfl, flat_strs' ns, _, rfl, ?_⟩
    have e : inV (V.str z) (ns.map V.str) = true := by rw [inV_strs, decide_eq_true hz]
    simp only [e, if_true, Bool.not_true, Bool.false_eq_true, if_false]
    refine ⟨_, rfl, x, C, dx, _, _, rfl, hx, TC.cl, TC.n_makings, kf_mak _ _ _, md, rfl, .inl ⟨kvs, .inl hd⟩, _, rfl, Nat.zero_le _, fun p np => ?_⟩
    have s1 : Same H (upd H p (.tup [])) := same_new (Same.refl H) np
    have hd1 := s1 _ _ hd
    rcases hM.get z with ⟨e1, e2⟩ | ⟨ps, a, e1, e2, e3⟩
    · refine ⟨none, .inl ⟨kvs, Sum.inr z, .inl hd1, rfl, e2.symm⟩, ?_⟩
      exact q p _ s1 (.inr ⟨e1, upd_same⟩)
    · refine ⟨some (.ref a), .inl ⟨kvs, Sum.inr z, .inl hd1, rfl, e2.symm⟩, ?_⟩
      exact q a _ s1 (.inl ⟨ps, e1, e3.mono s1⟩)
end
end Kl

set_option maxRecDepth 100000
set_option maxHeartbeats 4000000
namespace Kl
open PySem PySem.Spec PyProof.Rows L2 Gx Mx
theorem any_mem (ns : List Str) (z : Str) : ((tD ns).any fun y => PyData.eqv y (.str z)) = decide (z ∈ ns) := by
  unfold tD
  rw [List.any_map, Bool.eq_iff_iff, List.any_eq_true, decide_eq_true_eq]
  constructor
  · rintro ⟨y, hy, e⟩
    have e : PyData.eqv (.str y) (.str z) = true := e
    have e2 : (y == z) = true := e
    rw [← eq_of_beq e2]
    exact hy
  · intro h
    refine ⟨z, h, ?_⟩
    show (z == z) = true
    exact beq_self_eq_true z
abbrev partsM (M : Mak) (g : Pg) : List (List Str) := g.made.map fun z => (lookM M z).getD []
theorem take_sn {α : Type} {l : List α} {i : Nat} {x : α} (h : l[i]? = some x) : l.take (i + 1) = l.take i ++ [x] := by
  rw [List.take_add_one, h]
  rfl
theorem all_in {ns zs : List Str} : ((zs.map fun z => decide (z ∈ ns)).all id) = decide (∀ z ∈ zs, z ∈ ns) := by
  rw [Bool.eq_iff_iff, List.all_eq_true, decide_eq_true_eq]
  constructor
  · intro h z hz
    exact of_decide_eq_true (h _ (List.mem_map.mpr ⟨z, hz, rfl⟩))
  · rintro h b hb
    obtain ⟨z, hz, rfl⟩ := List.mem_map.mp hb
    exact decide_eq_true (h z hz)
section
variable {P : Program} {w : World} {K : PySem.W.Frag} {mg : Str → Option Value} {base : Heap}
/-! ### Page.left -/
def spPLeft (K : PySem.W.Frag) (C CK Co : Addr) : Sp := fun vs H Q E => ∃ (x kx md : Addr) (leaf : Str) (M : Mak) (ns : List Str) (g : Pg), vs = [V.ref x, .ref kx] ∧ PageAt K C H x g ∧ PgOk g ∧ KindsAt CK H kx md leaf M ns ∧ (∀ z ∈ ns, PyData.strOk z = true) ∧
  (∀ t r' H', (∀ z ∈ g.pool ++ g.made, z ∈ ns) → leftM g.pool (partsM M g) = some r' → Same H H' → H' t = some (.tup (r'.map V.str)) → Q (.ref t) H') ∧
  (∀ H', ¬ ((∀ z ∈ g.pool ++ g.made, z ∈ ns) ∧ leftM g.pool (partsM M g) ≠ none) → Same H H' → E (.ref Co) none H')
theorem ok_pleft {C CK Co f : Addr} {fd : FuncData} (F : Fun K "left" "Page.left" s_Page_left f fd) (T : Top K mg) (TC : Cl_Page K mg C) (TK : Cl_Kinds K mg CK) (XO : XPln K mg "InvalidOperation" "ValueError.__new__" "ValueError.__init__" [.type "ValueError", .type "Exception", .type "BaseException", .type "object"] Co) (XC : XCls K Co) :
    FnOk P w K mg base (L2.CX P w) 4 f fd ["self", "kinds"] (spPLeft K C CK Co) := by
  have kHas : CalM P w K mg base CK "__contains__" 1 ["self", "value"] (spKHas K CK) := TK.m_contains.cal fun f fd F => ok_khas F T TK
  have kGet : CalM P w K mg base CK "__getitem__" 1 ["self", "name"] (spKGet CK) := TK.m_getitem.cal fun f fd F => ok_kget F T TK
  have cl : Cal P w K mg base 3 "_left" ["pool", "makings"] (spLeft K) := (T.d_left.cal fun f fd F => ok_left F T).mono (by decide)
  refine F.okX sc_Page_left (fun vs H Q E h => ?_) (fun cdv A outer s H vs Q E hr h => ?_)
  · obtain ⟨x, kx, md, leaf, M, ns, g, rfl, _⟩ := h
    rfl
  · obtain ⟨x, kx, md, leaf, M, ns, g, rfl, hP, hg, hK, ok, q1, q2⟩ := h
    refine ⟨_, pss_cons (ps_if (pt_not (pt_val (pe_callB call_isi (by rfl) T.b_isinstance (by decide +kernel) (pa_cons (pv 1) (pa_cons (pe_glob (v := .ref CK) (by rfl) TK.gC rfl) pa_nil))))) (pss_one ps_never) pss_nil)
      (pss_cut (ps_if (pt_not (pt_val (pe_callB (cr_all rfl) (by rfl) T.b_all (by decide +kernel) (pa_cons (pe_lc (own := [("name", 3)]) (g := gName 3) (tt := tYes) rfl sc_Page_left.nd (pi_tup (pe_tup (StX.pa_star (pe_fld (pv 0) rfl) (StX.pa_star (pe_fld (pv 0) rfl) pa_nil))))
            (blkOk_by (N := ["self", "kinds", "rest", "name"]) (sc := defScope s_Page_left) (by decide +kernel)) (fun _ _ _ _ _ => pg_name (i := 3) sc_Page_left.nd rfl (.inl rfl)) (fun _ _ _ _ _ => pts_nil) (fun _ _ _ _ _ => pe_cmpR (op_inM kHas (hr.mono (by decide))) (pv 3) (pv 1) (by rfl))) pa_nil))))
          (pss_one (ps_raise rfl (takes_of rfl rfl rfl rfl) (pmk_P PySem.F.excBase_ValueError XO XC (pa_cons pe_str pa_nil) (by rfl)))) pss_nil)
      (pss_cut (ps_set (i := 2) sc_Page_left.nd rfl (.inl rfl) (pe_cal cl hr (by rfl) (pa_cons (pe_fld (pv 0) rfl) (pa_cons (pe_lc (own := [("name", 3)]) (g := gName 3) (tt := tYes) rfl sc_Page_left.nd (pi_tup (pe_fld (pv 0) rfl))
            (blkOk_by (N := ["self", "kinds", "rest", "name"]) (sc := defScope s_Page_left) (by decide +kernel)) (fun _ _ _ _ _ => pg_name (i := 3) sc_Page_left.nd rfl (.inl rfl)) (fun _ _ _ _ _ => pts_nil) (fun _ _ _ _ _ => pe_ixM kGet (hr.mono (by decide)) (pv 1) (pv 3) (fun _ _ => rfl))) pa_nil))))
      (pss_cons (ps_if (pt_cmpR op_isN (pv 2) pe_non (nomark _)) (pss_one (ps_raise rfl (takes_of rfl rfl rfl rfl) (pmk_P PySem.F.excBase_ValueError XO XC (pa_cons pe_str pa_nil) (by rfl)))) pss_nil)
      (pss_one (ps_ret (pv 2)))))), ?_⟩
    have big : 100000 ≤ sizeLine := by decide
    have okG : g.pool.length ≤ 8 ∧ g.made.length ≤ 2 := ⟨good_len hg.p, good_len hg.m⟩
    have stN : ∀ z ∈ g.pool ++ g.made, PyData.strOk z = true := fun z hz => names_low (by
      rcases List.mem_append.mp hz with h | h
      · exact good_names hg.p z h
      · exact good_names hg.m z h)
    -- isinstance
    obtain ⟨dk, nt, kvs, hk, hk2⟩ := id hK
    refine ⟨_, rfl, _, _, .ref CK, .ref CK, true, rfl, .own CK, .base (.ins hk TK.cl TK.ca TK.cg TK.ct TK.ob), TK.kit, true, rfl, ?_⟩
    show (if (!true) = true then _ else _)
    rw [if_neg (by decide)]
    -- all are kinds
    obtain ⟨dx, pp, mp, hx, hp, hm⟩ := id hP
    refine ⟨fun σ' G => σ' = [some (.ref x), some (.ref kx), none, none] ∧ Same H G ∧ ∀ z ∈ g.pool ++ g.made, z ∈ ns, ?_, ?_⟩
    · refine ⟨_, rfl, x, C, dx, _, _, rfl, hx, TC.cl, TC.n_pool, pf_pool _ _ _ _, pp, g.pool.map V.str, rfl, .inl hp, _, rfl, x, C, dx, _, _, rfl, hx, TC.cl, TC.n_made, pf_made _ _ _ _, mp, g.made.map V.str, rfl, .inl hm, ?_⟩
      refine ⟨by rw [List.length_append, List.length_append, List.length_map, List.length_map]; show _ + (_ + 0) ≤ _; omega, fun tp ntp => ?_⟩
      rw [List.append_nil, ← List.map_append]
      have s1 : Same H (upd H tp (.tup ((g.pool ++ g.made).map V.str))) := same_new (Same.refl H) ntp
      have et : (upd H tp (.tup ((g.pool ++ g.made).map V.str))) tp = some (.tup ((g.pool ++ g.made).map V.str)) := upd_same
      generalize upd H tp (.tup ((g.pool ++ g.made).map V.str)) = H1 at s1 et
      refine ⟨tp, rfl, ⟨_, .inl (.inl et)⟩, fun D hD => ?_⟩
      refine lc_it (g := gName 3) (tt := tYes) (vs := [3]) (walk_tup (K := K) (a := tp) (xs := (g.pool ++ g.made).map V.str)) (fun j G' => G' D = some (.lst ((((g.pool ++ g.made).take j).map fun z => decide (z ∈ ns)).map V.bl)) ∧ Same H1 G')
        ⟨upd_same, same_new (Same.refl H1) hD⟩ (fun j G' _ h => .inl (.inl (h.2 _ _ et))) (fun j u Gx G' hj h hy => ?_) (fun G' h => ?_)
      · obtain ⟨eD, sm⟩ := h
        obtain ⟨rfl, hu2⟩ := hy
        obtain ⟨z, hz, rfl⟩ := at_texts hu2
        have hKg := (hK.same s1).same sm
        obtain ⟨dk, nt, kvs, hk, hk2⟩ := id hKg
        refine ⟨rfl, _, rfl, _, rfl, kx, dk, _, rfl, hk, kx, md, leaf, M, ns, .str z, rfl, hKg, ok, .inl ⟨.str z, .str _, stN z (List.mem_of_getElem? hz), by show 0 ≤ 10; omega, ?_⟩⟩
        rw [any_mem]
        refine ⟨_, rfl, _, eD, ?_, ?_, fun b o e => by rw [upd_ne (ne_of_none e hD)]; exact sm b o e⟩
        · rw [List.length_map, List.length_map, List.length_take, List.length_append]
          omega
        · rw [upd_same, take_sn hz, List.map_append, List.map_append]
          rfl
      · obtain ⟨eD, sm⟩ := h
        rw [List.length_map, List.take_length] at eD
        refine ⟨D, _, rfl, .inl (.inl eD), ?_⟩
        refine ⟨_, rfl, ?_⟩
        rw [all_in]
        by_cases c : ∀ z ∈ g.pool ++ g.made, z ∈ ns
        · rw [decide_eq_true c]
          show (if (!true) = true then _ else _)
          rw [if_neg (by decide)]
          exact ⟨rfl, fun b o e => sm _ _ (s1 _ _ e), c⟩
        · rw [decide_eq_false c]
          show (if (!false) = true then _ else _)
          rw [if_pos (by decide)]
          exact ⟨by decide, q2 _ (fun h => c h.1) fun b o e => sm _ _ (s1 _ _ e)⟩
    rintro σ' G ⟨rfl, s0, hin⟩
    -- what is left
    refine ⟨fun σ' G' => (∃ t r', leftM g.pool (partsM M g) = some r' ∧ σ' = [some (.ref x), some (.ref kx), some (.ref t), none] ∧ G' t = some (.tup (r'.map V.str)) ∧ Same H G') ∨ (leftM g.pool (partsM M g) = none ∧ σ' = [some (.ref x), some (.ref kx), some .non, none] ∧ Same H G'), ?_, ?_⟩
    · refine ⟨_, rfl, x, C, dx, _, _, rfl, s0 _ _ hx, TC.cl, TC.n_pool, pf_pool _ _ _ _, _, rfl, x, C, dx, _, _, rfl, s0 _ _ hx, TC.cl, TC.n_made, pf_made _ _ _ _, mp, rfl, ⟨_, sqT_st s0 hm⟩, fun D hD => ?_⟩
      refine lc_it (g := gName 3) (tt := tYes) (vs := [3]) (walk_tup (K := K) (a := mp) (xs := g.made.map V.str)) (fun j G' => ∃ LL : List (Addr × List Str), G' D = some (.lst (LL.map fun q => V.ref q.1)) ∧ LL.map (·.2) = (g.made.take j).map (fun z => (lookM M z).getD []) ∧ (∀ q ∈ LL, SqT K G' q.1 (q.2.map V.str) ∧ q.1 ≠ D) ∧ Same G G')
        ⟨[], upd_same, rfl, nofun, same_new (Same.refl G) hD⟩ (fun j G' _ h => by obtain ⟨_, _, _, _, sm⟩ := h; exact sqT_st sm (sqT_st s0 hm)) (fun j u Gx G' hj h hy => ?_) (fun G' h => ?_)
      · obtain ⟨LL, eD, eL, hT, sm⟩ := h
        obtain ⟨rfl, hu2⟩ := hy
        obtain ⟨z, hz, rfl⟩ := at_texts hu2
        have hKg := (hK.same s0).same sm
        obtain ⟨dk, nt, kvs, hk, hk2⟩ := id hKg
        refine ⟨rfl, _, rfl, _, rfl, kx, dk, _, rfl, hk, kx, md, leaf, M, ns, z, rfl, hKg, hin z (List.mem_append.mpr (.inr (List.mem_of_getElem? hz))), fun p G2 s2 hp2 => ?_⟩
        have hl : LL.length = min j g.made.length := by
          have := congrArg List.length eL
          rw [List.length_map, List.length_map, List.length_take] at this
          exact this
        have eD2 := s2 _ _ eD
        have hpt : SqT K G2 p (((lookM M z).getD []).map V.str) ∧ p ≠ D := by
          rcases hp2 with ⟨ps, e, h⟩ | ⟨e, h⟩
          · rw [e]
            exact ⟨h.sq, fun c => by
              obtain ⟨ob, _, h⟩ := h
              rw [c, eD2] at h
              cases h⟩
          · rw [e]
            exact ⟨.inl (.inl h), fun c => by rw [c, eD2] at h; cases h⟩
        have kp : ∀ {y : Addr} {xs : List V}, y ≠ D → SqT K G2 y xs → SqT K (upd G2 D (.lst (LL.map (fun q => V.ref q.1) ++ [V.ref p]))) y xs := fun {y xs} ny h => by
          rcases h with (h | ⟨o, h⟩) | h
          · exact .inl (.inl (by rw [upd_ne ny]; exact h))
          · exact .inl (.inr ⟨o, by rw [upd_ne ny]; exact h⟩)
          · exact .inr h
        refine ⟨_, eD2, by rw [List.length_map, hl]; omega, LL ++ [(p, (lookM M z).getD [])], ?_, ?_, ?_, fun b o e => by rw [upd_ne (ne_of_none e hD)]; exact s2 _ _ (sm b o e)⟩
        · rw [upd_same, List.map_append]
          rfl
        · rw [List.map_append, eL, take_sn hz, List.map_append]
          rfl
        · intro q hq
          rcases List.mem_append.mp hq with hq | hq
          · exact ⟨kp (hT q hq).2 (sqT_st s2 (hT q hq).1), (hT q hq).2⟩
          · rw [List.mem_singleton.mp hq]
            exact ⟨kp hpt.2 hpt.1, hpt.2⟩
      · obtain ⟨LL, eD, eL, hT, sm⟩ := h
        rw [List.length_map, List.take_length] at eL
        have sg : Same H G' := fun b o e => sm _ _ (s0 _ _ e)
        refine ⟨pp, D, g.pool, LL, rfl, sqT_st sg hp, eD, fun q hq => (hT q hq).1, fun t r' G3 e s3 et => ?_, fun G3 e s3 => ?_⟩
        · rw [eL] at e
          exact .inl ⟨t, r', e, rfl, et, fun b o e => s3 _ _ (sg _ _ e)⟩
        · rw [eL] at e
          exact .inr ⟨e, rfl, fun b o e => s3 _ _ (sg _ _ e)⟩
    rintro σ' G1 (⟨t, r', e, rfl, et, s1⟩ | ⟨e, rfl, s1⟩)
    · refine ⟨_, rfl, rfl, _, rfl, ?_⟩
      show (if decide (V.ref t = V.non) = true then _ else _)
      rw [decide_eq_false (fun h => nomatch h), if_neg (by decide)]
      exact ⟨_, rfl, q1 t r' G1 hin e s1 et⟩
    · refine ⟨_, rfl, rfl, _, rfl, ?_⟩
      show (if decide (V.non = V.non) = true then _ else _)
      rw [decide_eq_true rfl, if_pos rfl]
      exact ⟨by decide, q2 G1 (fun h => h.2 e) s1⟩
end
end Kl

set_option maxRecDepth 100000
set_option maxHeartbeats 4000000
namespace Kl
open PySem PySem.Spec PyProof.Rows L2 Gx Mx
abbrev one (c : Nat) : Str := ⟨#[c]⟩
theorem lt_a (c : Nat) : decide ([c] < ([97] : List Nat)) = decide (c < 97) := by
  rw [decide_eq_decide]
  constructor
  · intro h
    cases h with
    | cons h => cases h
    | rel h => exact h
  · exact fun h => .rel h
theorem gt_z (c : Nat) : decide (([122] : List Nat) < [c]) = decide (122 < c) := by
  rw [decide_eq_decide]
  constructor
  · intro h
    cases h with
    | cons h => cases h
    | rel h => exact h
  · exact fun h => .rel h
/-- what is no small letter -/
def oddS (cs : List Nat) : List Str := (cs.filter fun c => !isLow c).map one
theorem odd_nil (cs : List Nat) : decide (oddS cs = []) = cs.all isLow := by
  unfold oddS
  rw [Bool.eq_iff_iff, decide_eq_true_eq, List.map_eq_nil_iff, List.filter_eq_nil_iff, List.all_eq_true]
  constructor
  · intro h c hc
    have := h c hc
    simpa using this
  · intro h c hc
    rw [h c hc]
    decide
/-- the digit with a text -/
def cutD (z : Str) : List Str := if z = "0" then [] else Txt.split z "+"
theorem parse_cut (m : Nat) (z : Str) : parseM m z = if goodM m (cutD z) = true then some (cutD z) else none := by
  unfold parseM cutD
  by_cases h : z = "0"
  · rw [if_pos h, if_pos h]
    have : goodM m [] = true := decide_eq_true (Nat.zero_le m) ▸ rfl
    rw [if_pos this]
  · rw [if_neg h, if_neg h]
theorem cut_len (z : Str) : (cutD z).length ≤ z.length + 2 ∧ ∀ y ∈ cutD z, y.length ≤ z.length := by
  unfold cutD
  split
  · exact ⟨Nat.zero_le _, nofun⟩
  · exact ⟨split_le z "+", fun y hy => split_short (by decide +kernel) hy⟩
theorem cut_asc {z : Str} (h : Asc z) : ∀ y ∈ cutD z, Asc y := by
  unfold cutD
  split
  · exact nofun
  · exact fun y hy => asc_split h hy
section
variable {P : Program} {w : World} {K : PySem.W.Frag} {mg : Str → Option Value} {base : Heap}
/-! ### _law_digit_text, _law_digit -/
def spDT (K : PySem.W.Frag) : Sp := fun vs H Q _ => ∃ (p : Addr) (q : List Str), vs = [V.ref p] ∧ SqT K H p (q.map V.str) ∧ goodM 20 q = true ∧ ∀ H', Same H H' → Q (.str (textD q)) H'
theorem ok_dt {f : Addr} {fd : FuncData} (F : Fun K "_law_digit_text" "_law_digit_text" s_law_digit_text f fd) (T : Top K mg) : FnOk P w K mg base CX0 1 f fd ["_law_digit_here"] (spDT K) := by
  refine F.ok sc_law_digit_text (fun vs H Q E h => ?_) (fun cdv A outer s H vs Q E hr h => ?_)
  · obtain ⟨p, q, rfl, _⟩ := h
    rfl
  · obtain ⟨p, q, rfl, hp, hg, hQ⟩ := h
    refine ⟨_, pss_one (ps_ret (pe_ifExp (pt_cmpR (op_neD hr.units) (pv 0) (pe_tup pa_nil) (by rfl)) (pe_join pe_str (pv 0)) pe_str)), ?_⟩
    refine ⟨_, rfl, Nat.zero_le _, fun t nt => ?_⟩
    have s1 := same_new (o := .tup []) (Same.refl H) nt
    refine ⟨.tuple (tD q), .tuple (tD []), .tup (sqT_st s1 hp) (dp_texts _), .tup (.inl (.inl upd_same)) (dp_texts []), shaped_textsT (good_ok hg), shaped_textsT (fun z hz => nomatch hz), ?_⟩
    rw [PyData.eqv, eqv_texts]
    refine ⟨_, rfl, ?_⟩
    unfold textD at hQ
    by_cases c : q = []
    · rw [decide_eq_true c]
      rw [if_pos c] at hQ
      show (if (!true) = true then _ else _)
      rw [if_neg (by decide)]
      exact hQ _ s1
    · rw [decide_eq_false c]
      rw [if_neg c] at hQ
      show (if (!false) = true then _ else _)
      rw [if_pos (by decide)]
      have l20 := good_len hg
      have ls := sum_by fun z hz => name_len (good_names hg z hz)
      have e1 : ("+" : Str).length = 1 := rfl
      have big : 1000 ≤ sizeLine := by decide
      exact ⟨⟨_, rfl⟩, _, rfl, _, p, q, rfl, rfl, .inr (sqT_st s1 hp), by rw [e1]; omega, hQ _ s1⟩
def spDG : Sp := fun vs H Q _ => ∃ z : Str, vs = [V.str z] ∧ z.length ≤ 4000 ∧ ∀ t H', Same H H' → H' t = some (.tup ((cutD z).map V.str)) → Q (.ref t) H'
theorem ok_dg {f : Addr} {fd : FuncData} (F : Fun K "_law_digit" "_law_digit" s_law_digit f fd) (T : Top K mg) : FnOk P w K mg base CX0 1 f fd ["_law_text"] spDG := by
  refine F.ok sc_law_digit (fun vs H Q E h => ?_) (fun cdv A outer s H vs Q E hr h => ?_)
  · obtain ⟨z, rfl, _⟩ := h
    rfl
  · obtain ⟨z, rfl, hz, q⟩ := h
    refine ⟨_, pss_one (ps_ret (pe_ifExp (pt_cmpR op_ne (pv 0) pe_str (nomark _)) (pe_callTy call_tuple_of (by rfl) T.b_tuple (by decide +kernel) (pa_cons (pe_split (pv 0) pe_str) pa_nil)) (pe_tup pa_nil))), ?_⟩
    have big : 100000 ≤ sizeLine := by decide
    unfold cutD at q
    refine ⟨_, rfl, rfl, _, rfl, ite2 (fun c => ?_) (fun c => ?_)⟩
    · have ez : z ≠ "0" := fun h => by
        rw [h] at c
        exact absurd c (by decide +kernel)
      rw [if_neg ez] at q
      refine ⟨_, rfl, ⟨_, rfl⟩, z, _, rfl, rfl, rfl, by omega, fun l nl => ?_⟩
      have s1 := same_new (o := .lst ((Txt.split z "+").map V.str)) (Same.refl H) nl
      refine ⟨l, _, rfl, .inl ⟨.inl (.inl upd_same), fun t nt => ?_⟩⟩
      exact q t _ (same_new s1 nt) upd_same
    · have ez : z = "0" := by
        by_cases h : z = "0"
        · exact h
        · exact absurd (show (!decide (V.str z = V.str "0")) = true by rw [decide_eq_false (fun e => h (V.str.inj e))]; rfl) c
      rw [if_pos ez] at q
      exact ⟨Nat.zero_le _, fun p np => q p _ (same_new (Same.refl H) np) upd_same⟩
/-! ### _law_is_names -/
def spIN (K : PySem.W.Frag) : Sp := fun vs H Q _ => ∃ (p : Addr) (q : List Str) (m : Nat), vs = [V.ref p, V.int (m : Nat)] ∧ SqT K H p (q.map V.str) ∧ (∀ z ∈ q, Asc z ∧ z.length ≤ 5000) ∧ q.length ≤ 5000 ∧ ∀ H', Same H H' → Q (.bl (goodM m q)) H'
abbrev NIN : List Str := ["_law_value", "_law_most", "_law_name", "_law_sign"]
theorem ok_in {f : Addr} {fd : FuncData} (F : Fun K "_law_is_names" "_law_is_names" s_law_is_names f fd) (T : Top K mg) : FnOk P w K mg base CX0 1 f fd ["_law_value", "_law_most"] (spIN K) := by
  refine F.ok sc_law_is_names (fun vs H Q E h => ?_) (fun cdv A outer s H vs Q E hr h => ?_)
  · obtain ⟨p, q, m, rfl, _⟩ := h
    rfl
  · obtain ⟨p, q, m, rfl, hp, hq, hl, hQ⟩ := h
    refine ⟨_, pss_cut (ps_for PassesOwn.never rfl (pi_tup (pv 0)) (pg_name (i := 2) sc_law_is_names.nd rfl (.inl rfl))
        (pss_one (ps_if (PW.pt (pw_or (pt_not (pt_chain op_lt op_lt pe_int (pe_callB call_len_str (by rfl) T.b_len PySem.boot_len (pa_cons (pv 2) pa_nil)) pe_int))
          (pw_or1 (pt_cmpR (op_neD hr.units) (pe_lc (own := [("_law_sign", 3)]) (g := gName 3) rfl sc_law_is_names.nd (pi_str (pv 2)) (blkOk_by (N := NIN) (sc := defScope s_law_is_names) (by decide +kernel))
        (fun _ _ _ _ _ => pg_name (i := 3) sc_law_is_names.nd rfl (.inl rfl)) (fun _ _ _ _ _ => pts_one (pt_not (pt_chain op_le_str op_le_str pe_str (pv 3) pe_str))) (fun _ _ _ _ _ => pv 3)) (pe_lst pa_nil) (by rfl))))) (pss_one (ps_ret pe_bl)) pss_nil)))
      (pss_one (ps_ret (pe_and (pe_cmpR op_le (pe_callB call_len_seq (by rfl) T.b_len PySem.boot_len (pa_cons (pv 0) pa_nil)) (pv 1) (nomark _))
        (pe_one (pe_cmpR (op_eqD hr.units) (pe_callTy call_list_of (by rfl) T.b_list (by decide +kernel) (pa_cons (pv 0) pa_nil)) (pe_callB cr_sortedTS (by rfl) T.b_sorted (by decide +kernel) (pa_cons (pv 0) pa_nil)) (nomark _)))))), ?_⟩
    have big : 100000 ≤ sizeLine := by decide
    refine ⟨fun σ' G => ∃ (y2 : Option V), σ' = [some (.ref p), some (.int (m : Nat)), y2, none] ∧ Same H G ∧ q.all nameB = true, ?_, ?_⟩
    · refine ⟨_, rfl, p, rfl, ⟨_, hp⟩, ?_⟩
      refine for_it (walk_tup (K := K) (a := p) (xs := q.map V.str)) (fun j σ' G => ∃ (y2 : Option V), σ' = [some (.ref p), some (.int (m : Nat)), y2, none] ∧ Same H G ∧ (q.take j).all nameB = true)
        ⟨none, rfl, Same.refl H, rfl⟩ (fun j σ' G _ h => by obtain ⟨_, _, sm, _⟩ := h; exact sqT_st sm hp) (fun j u σ' Gx G hj h hy => ?_) (fun σ' G h => ?_)
      rotate_left
      · obtain ⟨y2, e, sm, h2⟩ := h
        rw [List.length_map, List.take_length] at h2
        exact ⟨y2, e, sm, h2⟩
      obtain ⟨y2, rfl, sm, hall⟩ := h
      obtain ⟨rfl, hu⟩ := hy
      have hu : (q.map V.str)[j]? = some u := hu
      rw [List.getElem?_map] at hu
      obtain ⟨z, hzj, rfl⟩ := Option.map_eq_some_iff.mp hu
      have hm := List.mem_of_getElem? hzj
      obtain ⟨ha, hzl⟩ := hq z hm
      have hs : z.length ≤ sizeLine := by omega
      have bad : nameB z = false → ∀ H', Same G H' → Q (.bl false) H' := fun hn H' s => by
        have := hQ H' fun b o e => s _ _ (sm _ _ e)
        have e : goodM m q = false := by
          unfold goodM
          have : q.all nameB = false := by
            cases c : q.all nameB with
            | false => rfl
            | true => rw [List.all_eq_true.mp c z hm] at hn; cases hn
          rw [this, Bool.false_and, Bool.and_false]
        rw [e] at this
        exact this
      have good : nameB z = true → (q.take (j + 1)).all nameB = true := fun hn => by
        rw [take_sn hzj, List.all_append, hall]
        show (true && (nameB z && true)) = true
        rw [hn]
        rfl
      have hn0 : nameB z = ((decide (1 ≤ z.cps.size) && decide (z.cps.size ≤ 8)) && z.cps.toList.all isLow) := rfl
      have hl : z.length = z.cps.size := rfl
      refine ⟨_, rfl, z, rfl, hs, _, _, rfl, rfl, _, rfl, ite2 (fun e => ?_) (fun e => ?_)⟩
      rotate_left
      · have : ¬ (1 ≤ z.cps.size) := fun h => e (decide_eq_true (by omega))
        rw [decide_eq_false this] at hn0
        exact ⟨_, rfl, bad hn0 G (Same.refl G)⟩
      have h1 : 1 ≤ z.length := by have := of_decide_eq_true e; omega
      rw [decide_eq_true (show 1 ≤ z.cps.size from h1), Bool.true_and] at hn0
      clear e
      refine ⟨_, _, rfl, rfl, _, rfl, ?_⟩
      have e9 : decide ((z.length : Int) < 9) = decide (z.cps.size ≤ 8) := by
        rw [decide_eq_decide]
        omega
      rw [e9]
      cases hb2 : decide (z.cps.size ≤ 8) with
      | false =>
        rw [hb2, Bool.false_and] at hn0
        exact bad hn0 G (Same.refl G)
      | true =>
        rw [hb2, Bool.true_and] at hn0
        show (if (!true) = true then _ else _)
        rw [if_neg (by decide)]
        refine ⟨_, rfl, z, rfl, fun D hD => ?_⟩
        refine lc_it (g := gName 3) (vs := [3]) (walk_str (z := z)) (fun j G' => G' D = some (.lst ((oddS (z.cps.toList.take j)).map V.str)) ∧ Same G G')
          ⟨upd_same, same_new (Same.refl G) hD⟩ (fun j G' _ hP => True.intro) (fun j v Gx G' hj hP hy => ?_) (fun G' hP => ?_)
        · obtain ⟨eD, sm'⟩ := hP
          obtain ⟨rfl, c, hc, rfl⟩ := hy
          have hc2 : z.cps.toList[j]? = some c := by rw [Array.getElem?_toList]; exact hc
          have hm : c ∈ z.cps.toList := List.mem_of_getElem? hc2
          have et : oddS (z.cps.toList.take (j + 1)) = oddS (z.cps.toList.take j) ++ (if isLow c = true then [] else [one c]) := by
            unfold oddS
            rw [take_sn hc2, List.filter_append, List.map_append]
            congr 1
            rw [List.filter_cons, List.filter_nil]
            cases isLow c <;> rfl
          have go : ∀ {b : Bool}, b = !isLow c → (if b = true then ∃ acc, G' D = some (.lst acc) ∧ acc.length < sizeLine ∧ ((upd G' D (.lst (acc ++ [V.str (one c)]))) D = some (.lst ((oddS (z.cps.toList.take (j + 1))).map V.str)) ∧ Same G (upd G' D (.lst (acc ++ [V.str (one c)])))) else G' D = some (.lst ((oddS (z.cps.toList.take (j + 1))).map V.str)) ∧ Same G G') := fun {b} eb => by
            rw [eb, et]
            cases isLow c with
            | true =>
              rw [if_neg (by decide), if_pos rfl, List.append_nil]
              exact ⟨eD, sm'⟩
            | false =>
              rw [if_pos (by decide), if_neg (by decide)]
              refine ⟨_, eD, ?_, ?_, fun b o e => by rw [upd_ne (ne_of_none e hD)]; exact sm' b o e⟩
              · rw [List.length_map]
                have : (oddS (z.cps.toList.take j)).length ≤ j := by
                  unfold oddS
                  rw [List.length_map]
                  exact Nat.le_trans (List.length_filter_le _ _) (by rw [List.length_take]; omega)
                have hj' : j < z.cps.size := hj
                omega
              · rw [upd_same, List.map_append]
                rfl
          have e1 : ("a" : Str).cps.toList = [97] := by decide +kernel
          have e2 : ("z" : Str).cps.toList = [122] := by decide +kernel
          have lo : (97 ≤ c ∧ c ≤ 122) ↔ isLow c = true := (decide_eq_true_iff (p := 97 ≤ c ∧ c ≤ 122)).symm
          refine ⟨rfl, _, rfl, _, _, rfl, rfl, _, rfl, ?_⟩
          rw [e1]
          show (if (!decide ([c] < ([97] : List Nat))) = true then _ else _)
          rw [lt_a]
          by_cases h1 : c < 97
          · rw [decide_eq_true h1, if_neg (by decide)]
            have g := go (b := true) (by
              cases h : isLow c with
              | false => rfl
              | true => have := lo.mpr h; omega)
            rw [if_pos rfl] at g
            exact ⟨_, rfl, _, rfl, g⟩
          · rw [decide_eq_false h1, if_pos (by decide)]
            refine ⟨_, _, rfl, rfl, _, rfl, ?_⟩
            rw [e2]
            show (if (!(!decide (([122] : List Nat) < [c]))) = true then _ else _)
            rw [gt_z]
            by_cases h2 : 122 < c
            · have g := go (b := true) (by
                cases h : isLow c with
                | false => rfl
                | true => have := lo.mpr h; omega)
              rw [if_pos rfl] at g
              rw [decide_eq_true h2, if_pos (by decide)]
              exact ⟨_, rfl, g⟩
            · have g := go (b := false) (by rw [lo.mp (by omega)]; rfl)
              rw [if_neg (by decide)] at g
              rw [decide_eq_false h2, if_neg (by decide)]
              exact g
        · obtain ⟨eD, sm'⟩ := hP
          rw [List.take_of_length_le (by rw [Array.length_toList]; exact Nat.le_refl _)] at eD
          refine ⟨Nat.zero_le _, fun l nl => ?_⟩
          have s1 := same_new (o := .lst []) (Same.refl G') nl
          have ok : ∀ y ∈ oddS z.cps.toList, PyData.strOk y = true := fun y hy => by
            unfold oddS at hy
            obtain ⟨c, hc, rfl⟩ := List.mem_map.mp hy
            have hc2 := ha c (List.mem_filter.mp hc).1
            exact asc_ok fun d hd => by
              rw [List.mem_singleton.mp (show d ∈ [c] from hd)]
              exact hc2
          refine ⟨.list (tD (oddS z.cps.toList)), .list (tD []), .lst (.inl (.inl (s1 _ _ eD))) (dp_texts _), .lst (.inl (.inl upd_same)) (dp_texts []), shaped_texts ok, shaped_texts nofun, ?_⟩
          rw [PyData.eqv, eqv_texts, odd_nil]
          refine ⟨_, rfl, ?_⟩
          have s2 : Same G (upd G' l (.lst [])) := fun b o e => s1 _ _ (sm' b o e)
          cases hc : z.cps.toList.all isLow with
          | false =>
            rw [hc] at hn0
            show (if (!false) = true then _ else _)
            rw [if_pos (by decide)]
            exact bad hn0 _ s2
          | true =>
            rw [hc] at hn0
            show (if (!true) = true then _ else _)
            rw [if_neg (by decide)]
            exact ⟨_, rfl, fun b o e => s2 _ _ (sm b o e), good hn0⟩
    rintro σ' G ⟨y2, rfl, sm, hall⟩
    have hg : goodM m q = (decide (((q.length : Nat) : Int) ≤ (m : Nat)) && sortedS q) := by
      unfold goodM
      rw [hall, Bool.true_and, show decide (((q.length : Nat) : Int) ≤ (m : Nat)) = decide (q.length ≤ m) by rw [decide_eq_decide]; omega]
    rw [hg] at hQ
    refine ⟨_, rfl, p, _, rfl, .inr (sqT_st sm hp), _, rfl, _, _, rfl, rfl, ?_⟩
    rw [List.length_map]
    refine ⟨_, rfl, ?_⟩
    by_cases c : ((q.length : Nat) : Int) ≤ (m : Nat)
    rotate_left
    · rw [decide_eq_false c, Bool.false_and] at hQ
      rw [decide_eq_false c, if_neg (by decide)]
      exact hQ G sm
    rw [decide_eq_true c, Bool.true_and] at hQ
    rw [decide_eq_true c, if_pos rfl]
    have ok : ∀ z ∈ q, PyData.strOk z = true := fun z hz => asc_ok (hq z hz).1
    refine ⟨_, rfl, p, _, rfl, .inr (sqT_st sm hp), fun l nl => ?_⟩
    have s1 := same_new (o := .lst (q.map V.str)) (Same.refl G) nl
    have el : (upd G l (.lst (q.map V.str))) l = some (.lst (q.map V.str)) := upd_same
    generalize upd G l (.lst (q.map V.str)) = G1 at s1 el
    refine ⟨_, rfl, p, q, rfl, sqT_st s1 (sqT_st sm hp), by omega, fun ys l2 hperm hsrt nl2 => ?_⟩
    have s2 := same_new (o := .lst (ys.map V.str)) (Same.refl G1) nl2
    refine ⟨.list (tD q), .list (tD ys), .lst (.inl (.inl (s2 _ _ el))) (dp_texts _), .lst (.inl (.inl upd_same)) (dp_texts _), shaped_texts ok, shaped_texts (fun z hz => ok z (hperm.mem_iff.mp hz)), ?_⟩
    rw [PyData.eqv, eqv_texts, eq_sorted_iff hperm hsrt]
    exact hQ _ fun b o e => s2 _ _ (s1 _ _ (sm b o e))
end
end Kl

set_option maxRecDepth 100000
set_option maxHeartbeats 4000000
/-! ### own rules: t[a:b], t + u of tuples, whichever objects they are -/
namespace Kl
open PySem PySem.Spec PyProof.Rows L2 Gx Mx
def rSlS (K : PySem.W.Frag) : V → Option Int → Option Int → Hp → VK → Prop := fun x lo hi H Q => ∃ a xs, x = .ref a ∧ SqT K H a xs ∧ ∀ p G, Same H G → SqT K G p (cutV xs lo hi) → Q (.ref p) G
theorem cut_whole {xs : List V} {lo hi : Option Int} (h : HT.sIx xs.length 0 lo = 0 ∧ HT.sIx xs.length xs.length hi = xs.length) : cutV xs lo hi = xs := by
  unfold cutV
  rw [h.1, h.2, List.drop_zero, Nat.sub_zero, List.take_length]
theorem sl_tupS {X : Cx} : SlR X (rSlS X.K) := by
  intro pins s σ H x v vl vu lo hi sl Q I rx hs pl pu h
  obtain ⟨a, xs, rfl, ea, q⟩ := h
  exact sl_tupA pins s σ H _ v vl vu lo hi sl Q I rx hs pl pu ⟨a, xs, rfl, ea, fun hw => q a H (Same.refl H) (by rw [cut_whole hw]; exact ea), fun _ p np => q p _ (same_new (Same.refl H) np) (.inl (.inl upd_same))⟩
def rCatS (K : PySem.W.Frag) : R2 := fun x y H Q => ∃ a b xs ys, x = .ref a ∧ y = .ref b ∧ SqT K H a xs ∧ SqT K H b ys ∧ xs.length + ys.length ≤ sizeLine ∧ ∀ p G, Same H G → SqT K G p (xs ++ ys) → Q (.ref p) G
theorem op_catS {X : Cx} : OpR X (binaryOp .Add) (rCatS X.K) := by
  intro pins s σ H x y v u Q I rx ry h
  obtain ⟨a, b, xs, ys, rfl, rfl, ha, hb, hz, q⟩ := h
  refine op_catA pins s σ H _ _ v u Q I rx ry ⟨a, b, xs, ys, rfl, rfl, ha, hb, hz, fun e => q b H (Same.refl H) (by rw [e]; exact hb), fun _ e => q a H (Same.refl H) (by rw [e, List.append_nil]; exact ha), fun _ _ p np => q p _ (same_new (Same.refl H) np) (.inl (.inl upd_same))⟩
end Kl

set_option maxRecDepth 100000
set_option maxHeartbeats 4000000
namespace Kl
open PySem PySem.Spec PyProof.Rows L2 Gx Mx
theorem good_one (z : Str) : goodM 1 [z] = nameB z := by
  unfold goodM
  show (true && ((nameB z && true) && sortedS [z])) = _
  have : sortedS [z] = true := rfl
  rw [this, Bool.and_true, Bool.and_true, Bool.true_and]
/-- the four parts of a page stand at t -/
def PartsAt (K : PySem.W.Frag) (H : Hp) (t : Addr) (g : Pg) : Prop := ∃ pp mp, SqT K H t [.str g.note, .ref pp, .ref mp, .str g.after] ∧ SqT K H pp (g.pool.map V.str) ∧ SqT K H mp (g.made.map V.str)
theorem PartsAt.same {K : PySem.W.Frag} {H H' : Hp} {t : Addr} {g : Pg} (h : PartsAt K H t g) (s : Same H H') : PartsAt K H' t g := by
  obtain ⟨pp, mp, a, b, c⟩ := h
  exact ⟨pp, mp, sqT_st s a, sqT_st s b, sqT_st s c⟩
section
variable {P : Program} {w : World} {K : PySem.W.Frag} {mg : Str → Option Value} {base : Heap}
/-! ### _law_page_in -/
def spPI (K : PySem.W.Frag) : Sp := fun vs H Q _ => ∃ z : Str, vs = [V.str z] ∧ Asc z ∧ z.length ≤ 4000 ∧ (∀ t g H', parseP z = some g → Same H H' → PartsAt K H' t g → Q (.ref t) H') ∧ (∀ H', parseP z = none → Same H H' → Q .non H')
theorem ok_pi {f : Addr} {fd : FuncData} (F : Fun K "_law_page_in" "_law_page_in" s_law_page_in f fd) (T : Top K mg) : FnOk P w K mg base CX0 2 f fd ["_law_line"] (spPI K) := by
  have cd : Cal P w K mg base 1 "_law_digit" ["_law_text"] spDG := T.d_law_digit.cal fun f fd F => ok_dg F T
  have cn : Cal P w K mg base 1 "_law_is_names" ["_law_value", "_law_most"] (spIN K) := T.d_law_is_names.cal fun f fd F => ok_in F T
  refine F.ok sc_law_page_in (fun vs H Q E h => ?_) (fun cdv A outer s H vs Q E hr h => ?_)
  · obtain ⟨z, rfl, _⟩ := h
    rfl
  · obtain ⟨z, rfl, ha, hz, q1, q2⟩ := h
    refine ⟨_, pss_cut (ps_set (i := 1) sc_law_page_in.nd rfl (.inl rfl) (pe_split (pv 0) pe_str))
      (pss_cons (ps_if (PW.pt (pw_or (pt_cmpR op_ne (pe_callB call_len_seq (by rfl) T.b_len PySem.boot_len (pa_cons (pv 1) pa_nil)) pe_int (nomark _))
          (pw_or1 (pt_cmpR (op_neD hr.units) (pe_lst (pa_cons (pe_ix ix_list (pv 1) pe_int (fun _ _ => rfl)) (pa_cons (pe_ix ix_list (pv 1) pe_int (fun _ _ => rfl)) (pa_cons (pe_ix ix_list (pv 1) pe_int (fun _ _ => rfl)) pa_nil)))) (pe_lst (pa_cons pe_str (pa_cons pe_str (pa_cons pe_str pa_nil)))) (by rfl))))) (pss_one (ps_ret pe_non)) pss_nil)
      (pss_cut (ps_set (i := 2) sc_law_page_in.nd rfl (.inl rfl) (pe_tup (pa_cons (pe_ix ix_list (pv 1) pe_int (fun _ _ => rfl)) (pa_cons (pe_cal cd hr (by rfl) (pa_cons (pe_ix ix_list (pv 1) pe_int (fun _ _ => rfl)) pa_nil)) (pa_cons (pe_cal cd hr (by rfl) (pa_cons (pe_ix ix_list (pv 1) pe_int (fun _ _ => rfl)) pa_nil)) (pa_cons (pe_ix ix_list (pv 1) pe_int (fun _ _ => rfl)) pa_nil))))))
      (pss_cut (ps_if (PW.pt (pw_or (pt_not (pt_val (pe_cal cn hr (by rfl) (pa_cons (pe_slice sl_tupS (pv 2) po_none (po_some pe_int)) (pa_cons pe_int pa_nil)))))
          (pw_or1 (pt_not (pt_val (pe_cal cn hr (by rfl) (pa_cons (pe_slice sl_tupS (pv 2) (po_some pe_int) po_none) (pa_cons pe_int pa_nil)))))))) (pss_one (ps_ret pe_non)) pss_nil)
      (pss_one (ps_ret (pe_ifExp (PW.pt (pw_and (pt_val (pe_cal cn hr (by rfl) (pa_cons (pe_ix ix_tup (pv 2) pe_int (fun _ _ => rfl)) (pa_cons pe_int pa_nil)))) (pw_and1 (pt_val (pe_cal cn hr (by rfl) (pa_cons (pe_ix ix_tup (pv 2) pe_int (fun _ _ => rfl)) (pa_cons pe_int pa_nil))))))) (pv 2) pe_non)))))), ?_⟩
    have big : 10000 ≤ sizeLine := by decide
    have wl : ∀ y ∈ Txt.split z " ", y.length ≤ 4000 := fun y hy => Nat.le_trans (split_short (by decide +kernel) hy) hz
    have wa : ∀ y ∈ Txt.split z " ", Asc y := fun y hy => asc_split ha hy
    have hp : parseP z = parseW (Txt.split z " ") := rfl
    rw [hp] at q2
    have q1' : ∀ t g H', parseW (Txt.split z " ") = some g → Same H H' → PartsAt K H' t g → Q (.ref t) H' := q1
    clear q1 hp
    refine ⟨fun σ' G => ∃ l : Addr, σ' = [some (.str z), some (.ref l), none] ∧ G l = some (.lst ((Txt.split z " ").map V.str)) ∧ Same H G, ?_, ?_⟩
    · exact ⟨_, rfl, ⟨_, rfl⟩, z, _, rfl, rfl, rfl, by omega, fun l nl => ⟨l, rfl, upd_same, same_new (Same.refl H) nl⟩⟩
    generalize Txt.split z " " = ws at wl wa q1' q2
    rintro σ' G ⟨l, rfl, el, s1⟩
    refine ⟨_, rfl, l, _, rfl, .inl (.inl (.inl el)), rfl, _, rfl, ?_⟩
    rw [List.length_map]
    by_cases c7 : ws.length = 7
    rotate_left
    · have e : decide (V.int ((ws.length : Nat) : Int) = V.int 7) = false := decide_eq_false fun h => c7 (by have := V.int.inj h; omega)
      rw [e]
      show (if true = true then _ else _)
      rw [if_pos rfl]
      show (if true = true then _ else _)
      rw [if_pos rfl]
      exact q2 G (parse_not c7) s1
    obtain ⟨w0, w1, w2, w3, w4, w5, w6, rfl⟩ := seven c7
    show (if (!decide (V.int 7 = V.int 7)) = true then _ else _)
    rw [decide_eq_true rfl, if_neg (by decide)]
    have sq : SqL K G l ([w0, w1, w2, w3, w4, w5, w6].map V.str) := .inl (.inl el)
    refine ⟨_, rfl, l, _, _, .str w0, rfl, rfl, sq, rfl, _, rfl, l, _, _, .str w3, rfl, rfl, sq, rfl, _, rfl, l, _, _, .str w5, rfl, rfl, sq, rfl, by show 3 ≤ sizeLine; omega, fun t nt => ?_⟩
    have s2 := same_new (o := .lst [V.str w0, .str w3, .str w5]) (Same.refl G) nt
    have et : (upd G t (.lst [V.str w0, .str w3, .str w5])) t = some (.lst ([w0, w3, w5].map V.str)) := upd_same
    generalize upd G t (.lst [V.str w0, .str w3, .str w5]) = G2 at s2 et
    refine ⟨by show 3 ≤ sizeLine; omega, fun t2 nt2 => ?_⟩
    have s3 := same_new (o := .lst [V.str "page", .str "to", .str "then"]) (Same.refl G2) nt2
    have et2 : (upd G2 t2 (.lst [V.str "page", .str "to", .str "then"])) t2 = some (.lst (SIG.map V.str)) := upd_same
    generalize upd G2 t2 (.lst [V.str "page", .str "to", .str "then"]) = G3 at s3 et2
    have ok3 : ∀ y ∈ [w0, w3, w5], PyData.strOk y = true := fun y hy => by
      simp only [List.mem_cons, List.not_mem_nil, or_false] at hy
      rcases hy with rfl | rfl | rfl <;> exact asc_ok (wa _ (by simp))
    refine ⟨.list (tD [w0, w3, w5]), .list (tD SIG), .lst (.inl (.inl (s3 _ _ et))) (dp_texts _), .lst (.inl (.inl et2)) (dp_texts _), shaped_texts ok3, by decide +kernel, ?_⟩
    rw [PyData.eqv, eqv_texts]
    refine ⟨_, rfl, ?_⟩
    have s13 : Same H G3 := fun b o e => s3 _ _ (s2 _ _ (s1 _ _ e))
    by_cases c3 : [w0, w3, w5] = SIG
    rotate_left
    · rw [decide_eq_false c3]
      show (if (!false) = true then _ else _)
      rw [if_pos (by decide)]
      refine q2 G3 ?_ s13
      show readW w0 w1 w2 w3 w4 w5 w6 = none
      unfold readW
      rw [if_neg fun h => c3 (by rw [h.1, h.2.1, h.2.2])]
    rw [decide_eq_true c3]
    show (if (!true) = true then _ else _)
    rw [if_neg (by decide)]
    have c3' : w0 = "page" ∧ w3 = "to" ∧ w5 = "then" := by
      obtain ⟨a, b⟩ := List.cons.inj c3
      obtain ⟨b, c⟩ := List.cons.inj b
      obtain ⟨c, _⟩ := List.cons.inj c
      exact ⟨a, b, c⟩
    have hW : parseW [w0, w1, w2, w3, w4, w5, w6] = if nameB w1 = true ∧ nameB w6 = true then ((parseM 8 w2).bind fun p => (parseM 2 w4).map fun m => (⟨w1, p, m, w6⟩ : Pg)) else none := by
      show readW w0 w1 w2 w3 w4 w5 w6 = _
      unfold readW
      rw [if_pos c3']
    rw [hW, parse_cut, parse_cut] at q1' q2
    have el3 := s3 _ _ (s2 _ _ el)
    clear hW c3 ok3 et et2 sq
    have hl2 := wl w2 (by simp)
    have hl4 := wl w4 (by simp)
    have a2 := cut_asc (wa w2 (by simp))
    have a4 := cut_asc (wa w4 (by simp))
    have a1 := wa w1 (by simp)
    have a6 := wa w6 (by simp)
    have l2 := cut_len w2
    have l4 := cut_len w4
    -- what is found
    refine ⟨fun σ' G' => ∃ (t pp mp : Addr), σ' = [some (.str z), some (.ref l), some (.ref t)] ∧ G' t = some (.tup [.str w1, .ref pp, .ref mp, .str w6]) ∧ G' pp = some (.tup ((cutD w2).map V.str)) ∧ G' mp = some (.tup ((cutD w4).map V.str)) ∧ Same H G', ?_, ?_⟩
    · refine ⟨_, rfl, l, _, _, .str w1, rfl, rfl, .inl (.inl el3), rfl, _, rfl, l, _, _, .str w2, rfl, rfl, .inl (.inl el3), rfl, w2, rfl, hl2, fun pp G4 s4 ep => ?_⟩
      refine ⟨_, rfl, l, _, _, .str w4, rfl, rfl, .inl (.inl (s4 _ _ el3)), rfl, w4, rfl, hl4, fun mp G5 s5 em => ?_⟩
      refine ⟨_, rfl, l, _, _, .str w6, rfl, rfl, .inl (.inl (s5 _ _ (s4 _ _ el3))), rfl, by show 4 ≤ sizeLine; omega, fun t nt => ?_⟩
      have s6 := same_new (o := .tup [V.str w1, .ref pp, .ref mp, .str w6]) (Same.refl G5) nt
      exact ⟨t, pp, mp, rfl, upd_same, s6 _ _ (s5 _ _ ep), s6 _ _ em, fun b o e => s6 _ _ (s5 _ _ (s4 _ _ (s13 _ _ e)))⟩
    rintro σ' G4 ⟨t, pp, mp, rfl, et, ep, em, s04⟩
    generalize cutD w2 = c2 at a2 l2 ep q1' q2
    generalize cutD w4 = c4 at a4 l4 em q1' q2
    -- the notes
    refine ⟨fun σ' G' => σ' = [some (.str z), some (.ref l), some (.ref t)] ∧ Same G4 G' ∧ nameB w1 = true ∧ nameB w6 = true, ?_, ?_⟩
    · refine ⟨_, rfl, _, rfl, t, _, rfl, .inl (.inl et), fun p1 G5 s5 e5 => ?_⟩
      refine ⟨p1, [w1], 1, rfl, e5, fun y hy => by rw [List.mem_singleton.mp hy]; exact ⟨a1, Nat.le_trans (wl w1 (by simp)) (by decide)⟩, by show 1 ≤ 5000; decide, fun G6 s6 => ⟨_, rfl, ?_⟩⟩
      rw [good_one]
      have s46 : Same G4 G6 := fun b o e => s6 _ _ (s5 _ _ e)
      cases n1 : nameB w1 with
      | false =>
        show (if true = true then _ else _)
        rw [if_pos rfl]
        exact q2 G6 (by rw [if_neg (fun h => by rw [n1] at h; cases h.1)]) fun b o e => s46 _ _ (s04 _ _ e)
      | true =>
        show (if (!true) = true then _ else _)
        rw [if_neg (by decide)]
        refine ⟨_, rfl, _, rfl, t, _, rfl, .inl (.inl (s46 _ _ et)), fun p2 G7 s7 e7 => ?_⟩
        refine ⟨p2, [w6], 1, rfl, e7, fun y hy => by rw [List.mem_singleton.mp hy]; exact ⟨a6, Nat.le_trans (wl w6 (by simp)) (by decide)⟩, by show 1 ≤ 5000; decide, fun G8 s8 => ⟨_, rfl, ?_⟩⟩
        rw [good_one]
        have s48 : Same G4 G8 := fun b o e => s8 _ _ (s7 _ _ (s46 _ _ e))
        cases n6 : nameB w6 with
        | false =>
          show (if (!false) = true then _ else _)
          rw [if_pos (by decide)]
          exact q2 G8 (by rw [if_neg (fun h => by rw [n6] at h; cases h.2)]) fun b o e => s48 _ _ (s04 _ _ e)
        | true =>
          show (if (!true) = true then _ else _)
          rw [if_neg (by decide)]
          exact ⟨rfl, s48, rfl, rfl⟩
    rintro σ' G5 ⟨rfl, s45, n1, n6⟩
    rw [if_pos ⟨n1, n6⟩] at q1' q2
    have et5 := s45 _ _ et
    refine ⟨_, rfl, t, _, _, .ref pp, rfl, rfl, .inl (.inl et5), rfl, pp, c2, 8, rfl, .inl (.inl (s45 _ _ ep)), fun y hy => ⟨a2 y hy, Nat.le_trans (l2.2 y hy) (by omega)⟩, by omega, fun G6 s6 => ⟨_, rfl, ?_⟩⟩
    cases g2 : goodM 8 c2 with
    | false =>
      rw [if_neg (by decide)]
      show (if false = true then _ else _)
      rw [if_neg (by decide)]
      rw [g2] at q2
      exact q2 G6 rfl fun b o e => s6 _ _ (s45 _ _ (s04 _ _ e))
    | true =>
      rw [if_pos rfl]
      rw [g2, if_pos rfl] at q1' q2
      refine ⟨_, rfl, t, _, _, .ref mp, rfl, rfl, .inl (.inl (s6 _ _ et5)), rfl, mp, c4, 2, rfl, .inl (.inl (s6 _ _ (s45 _ _ em))), fun y hy => ⟨a4 y hy, Nat.le_trans (l4.2 y hy) (by omega)⟩, by omega, fun G7 s7 => ⟨_, rfl, ?_⟩⟩
      cases g4 : goodM 2 c4 with
      | false =>
        show (if false = true then _ else _)
        rw [if_neg (by decide)]
        rw [g4] at q2
        exact q2 G7 rfl fun b o e => s7 _ _ (s6 _ _ (s45 _ _ (s04 _ _ e)))
      | true =>
        show (if true = true then _ else _)
        rw [if_pos rfl]
        rw [g4, if_pos rfl] at q1'
        exact ⟨_, rfl, q1' t ⟨w1, c2, c4, w6⟩ G7 rfl (fun b o e => s7 _ _ (s6 _ _ (s45 _ _ (s04 _ _ e)))) ⟨pp, mp, .inl (.inl (s7 _ _ (s6 _ _ et5))), .inl (.inl (s7 _ _ (s6 _ _ (s45 _ _ ep)))), .inl (.inl (s7 _ _ (s6 _ _ (s45 _ _ em))))⟩⟩
end
end Kl

set_option maxRecDepth 100000
set_option maxHeartbeats 4000000
namespace Kl
open PySem PySem.Spec PyProof.Rows L2 Gx Mx
section
variable {P : Program} {w : World} {K : PySem.W.Frag} {mg : Str → Option Value} {base : Heap}
theorem call_reprK {X : Cx} (hk : X.K = K) (g : Gd X.A) (hu : X.A.units + 64 < cLine) : CallR X (.builtin "repr") (rRepr K) := by
  subst hk
  exact call_reprD g hu
/-! ### _law_read -/
def spRead (K : PySem.W.Frag) : Sp := fun vs H Q _ => ∃ z : Str, vs = [V.str z] ∧ Asc z ∧ z.length ≤ 4000 ∧ (∀ t g H', parseP z = some g → Same H H' → PartsAt K H' t g → Q (.ref t) H') ∧ (∀ H', parseP z = none → Same H H' → Q (.str "parse None") H')
theorem ok_read {C CP fI f : Addr} {fd fdI : FuncData} (F : Fun K "_law_read" "_law_read" s_law_read f fd) (T : Top K mg) (TC : Cl_Page K mg C) (TX : XT_ParseError K mg CP fI) (FX : Fun K "__init__" "ParseError.__init__" s_ParseError_init fI fdI) :
    FnG P w K mg base CX0 8 f fd ["_law_line"] (spRead K) := by
  have cf : CalQ P w K mg base C "from_line" 7 ["cls", "line"] (spFL K C CP) := TC.k_from_line.cal fun f fd F => ok_fl F T TC TX FX
  have c1 : CalP P w K mg base C "note" 1 (spPNote K C) := TC.p_note.cal fun f fd F => ok_pnote F TC
  have c2 : CalP P w K mg base C "pool" 1 (spPPool K C) := TC.p_pool.cal fun f fd F => ok_ppool F TC
  have c3 : CalP P w K mg base C "made" 1 (spPMade K C) := TC.p_made.cal fun f fd F => ok_pmade F TC
  have c4 : CalP P w K mg base C "after" 1 (spPAfter K C) := TC.p_after.cal fun f fd F => ok_pafter F TC
  refine okG F sc_law_read (fun vs H Q E h => ?_) (fun cdv A outer s H vs Q E hg hr h => ?_)
  · obtain ⟨z, rfl, _⟩ := h
    rfl
  · obtain ⟨z, rfl, ha, hz, q1, q2⟩ := h
    refine ⟨_, pss_cut (ps_try_as (c := .ref CP) (i := 2) (n := "e") rfl rfl sc_law_read.nd rfl rfl ⟨by rfl, by decide, .inl TX.gC⟩ takes_none5
      (fun W pn xe tk hp => pss_one (ps_set (i := 1) sc_law_read.nd rfl (.inl rfl) (pe_cmX (pe_glob (v := .ref C) (by rfl) TC.gC rfl) cf hr (fun σ => passAt tk σ) (pa_cons (pv 0) pa_nil))))
      (fun a oe cls d pn hz hf => pss_one (ps_ret (pe_op op_add_str pe_str (pe_callB (call_reprK (K := K) (by exact rfl) (by exact hg) (by exact hr.units)) (by rfl) T.b_repr (by decide +kernel) (pa_cons (pe_byX TX hz hf (pv 2)) pa_nil))))))
      (pss_one (ps_ret (pe_tup (pa_cons (pe_propC (pv 1) TC.cl c1 (hr.mono (by decide)) rfl) (pa_cons (pe_propC (pv 1) TC.cl c2 (hr.mono (by decide)) rfl) (pa_cons (pe_propC (pv 1) TC.cl c3 (hr.mono (by decide)) rfl) (pa_cons (pe_propC (pv 1) TC.cl c4 (hr.mono (by decide)) rfl) pa_nil))))))), ?_⟩
    refine ⟨fun σ' G => ∃ (x : Addr) (g : Pg), σ' = [some (.str z), some (.ref x), none] ∧ Same H G ∧ PageAt K C G x g ∧ parseP z = some g, ?_, ?_⟩
    · refine ⟨rfl, _, rfl, z, rfl, ha, hz, fun x g H' hp s hP => ?_, fun dd H' hp s ed => ?_⟩
      · exact ⟨x, g, rfl, s, hP, hp⟩
      · refine ⟨true, TX.te, fun _ a na => ?_, fun h => by cases h⟩
        refine ⟨_, rfl, rfl, rfl, dd, .non, rfl, ed, .non, .none, rfl, .non, rfl, rfl, by decide, by decide, _, _, rfl, rfl, by decide +kernel, ?_⟩
        have e : ("parse " : Str) ++ PyData.shown .none = "parse None" := by decide +kernel
        rw [e]
        exact q2 H' hp s
    rintro σ' G ⟨x, g, rfl, s, hP, hp⟩
    obtain ⟨dx, pp, mp, hx, hpp, hmm⟩ := id hP
    refine ⟨_, rfl, x, dx, _, rfl, hx, x, g, rfl, hP, _, rfl, x, dx, _, rfl, hx, x, g, rfl, hP, fun p2 h2 => ?_⟩
    refine ⟨_, rfl, x, dx, _, rfl, hx, x, g, rfl, hP, fun p3 h3 => ?_⟩
    refine ⟨_, rfl, x, dx, _, rfl, hx, x, g, rfl, hP, by show 4 ≤ sizeLine; decide, fun t nt => ?_⟩
    have s2 := same_new (o := .tup [.str g.note, .ref p2, .ref p3, .str g.after]) (Same.refl G) nt
    exact q1 t g _ hp (fun b o e => s2 _ _ (s _ _ e)) ⟨p2, p3, .inl (.inl upd_same), sqT_st s2 h2, sqT_st s2 h3⟩
end
end Kl

set_option maxRecDepth 100000
set_option maxHeartbeats 4000000
/-! ### sorted of a long list of texts -/
namespace Gx
open PySem PySem.Spec PyProof.Rows L2
section
variable {X : Cx}
def rSortedLS (K : PySem.W.Frag) : List V → Hp → VK → Prop := fun vs H Q => ∃ (a : Addr) (xs : List Str), vs = [V.ref a] ∧ SqL K H a (xs.map V.str) ∧ xs.length ≤ 100000 ∧
  ∀ (ys : List Str) (p : Addr), ys.Perm xs → sortedS ys = true → H p = none → Q (.ref p) (upd H p (.lst (ys.map V.str)))
theorem cr_sortedLS : CallR X (.builtin "sorted") (rSortedLS X.K) := by
  intro pins s σ H vs us Q I r h
  obtain ⟨a, xs, rfl, ht, hz, q⟩ := h
  obtain ⟨its, rv, ⟨o, n, ho, hc, _, hd⟩, _⟩ := I.list ht
  rw [Vals.ref1 r]
  have hln : xs.length = its.length := by
    have e := rv.length
    rw [List.length_map] at e
    exact e
  have hS : StrsAre its xs := rv.strs
  have hL : its.length ≤ sizeLine := Nat.le_trans (by omega) (show 100000 ≤ sizeLine by decide)
  refine Calls.call_function_entry kind_sorted plain_sorted entry_sorted (args_sorted1 _) ?_
  unfold Builtin.«sorted»
  refine wpAny_bind (m := checkCount "sorted" 1 1 _) (wpAny_pure ?_)
  refine wpAny_bind (wpAny_collect_seq a (.inl rfl) ho hc hd (fun h' hk => ?_) (by rw [List.size_toArray]; exact hL))
  have I1 : Inv _ pins σ H { s with heap := h' } := I.kept (t' := s.toks) hk
  rw [List.toList_toArray]
  refine wpAny_bind (wpAny_newList ?_ hL)
  have hoL : (h'.push (seqObj "list" its.toArray 0)).get? h'.objs.size = some (seqObj "list" its.toArray 0) := Heap.get?_push_size _ rfl
  show wpAny _ _ _ _ _ { s with heap := h'.push (seqObj "list" its.toArray 0) }
  refine wpAny_bind (wpAny_holding (wpAny_call_entry slot_list_sort ⟨_, hoL, rfl⟩ entry_list_sort
    (list_sort_treeKAny strKind_oneLt (s := { s with heap := h'.push (seqObj "list" its.toArray 0) }) hoL hS.keysOf (fun v₁ v₂ rest e => keyKind_strs (by rw [← e]; exact hS)) hL fun st' hp hs => ⟨_, rfl, ?_⟩) (args_list_sort _)))
  obtain ⟨ys, g1, g2, g3⟩ := sorted_out_str hS hp hs
  obtain ⟨e', he'⟩ := sortedHeap_at (vs := its) (out := (arrOf st').map (·.2)) hoL
  have hlen : (ys.map V.str).length ≤ sizeLine := by
    rw [List.length_map, g2.length_eq, hln]
    exact hL
  refine wpAny_pure ⟨_, rfl, .ref h'.objs.size, upd H h'.objs.size (.lst (ys.map V.str)), I1.laid (t' := s.toks) (fun b u e => ?_) (Nat.le_refl _)
    (show ObjOk X.prog X.w _ _ _ (.lst (ys.map V.str)) from ⟨hlen, ((arrOf st').map (·.2)).toList, e', vals_of_strs g1, by rw [Array.toArray_toList]; exact he'⟩), rfl, q ys _ g2 g3 (I1.hok.fresh (Nat.le_refl _))⟩
  have hb : b < h'.objs.size := Heap.lt_size e
  rw [sortedHeap_old (Nat.ne_of_lt hb) (by rw [size_push']; exact Nat.lt_succ_of_lt hb)]
  exact Heap.get?_push_of_some _ e
end
end Gx

set_option maxRecDepth 100000
set_option maxHeartbeats 4000000
namespace Kl
open PySem PySem.Spec PyProof.Rows L2 Gx Mx
theorem sl_listK {X : Cx} {K : PySem.W.Frag} (hk : X.K = K) : SlR X (rSlL K) := by
  subst hk
  exact sl_list
abbrev NM8 : List Str := ["a", "ab", "b", "zz", "to", "then", "page", "zzzzzzzz"]
abbrev NM4 : List Str := ["a", "ab", "b", "zz"]
theorem nm8_name : ∀ z ∈ NM8, nameB z = true := by decide +kernel
theorem nm4_name : ∀ z ∈ NM4, nameB z = true := by decide +kernel
theorem nm4_cut : cutV (NM8.map V.str) none (some 4) = NM4.map V.str := rfl
theorem good_by {m : Nat} {q : List Str} (h : q.length ≤ m) (s : sortedS q = true) (n : ∀ z ∈ q, nameB z = true) : goodM m q = true := by
  unfold goodM
  rw [decide_eq_true h, s, List.all_eq_true.mpr n]
  rfl
/-- what stands while a page is drawn -/
structure DPc (H : Hp) (d l : Addr) (G : Hp) : Prop where
  el : G l = some (.lst (NM8.map V.str))
  nl : l ≠ d
  sx : SameX d H G
  hd : DiceAt G d
section
variable {P : Program} {w : World} {K : PySem.W.Frag} {mg : Str → Option Value} {base : Heap}
/-! ### _law_drawn_page -/
/-- a page of the law's names -/
structure PgN (g : Pg) : Prop where
  ok : PgOk g
  p4 : ∀ z ∈ g.pool, z ∈ NM4
  m4 : ∀ z ∈ g.made, z ∈ NM4
def spDP (K : PySem.W.Frag) : Sp := fun vs H Q _ => ∃ d : Addr, vs = [V.ref d] ∧ DiceAt H d ∧ ∀ t g H', SameX d H H' → DiceAt H' d → PgN g → PartsAt K H' t g → Q (.ref t) H'
abbrev NDP : List Str := ["_law_dice_here", "_law_names", "_law_pool", "_law_made", "_law_turn"]
theorem ok_dp {f : Addr} {fd : FuncData} (F : Fun K "_law_drawn_page" "_law_drawn_page" s_law_drawn_page f fd) (T : Top K mg) : FnOk P w K mg base CX0 3 f fd ["_law_dice_here"] (spDP K) := by
  have cr : Cal P w K mg base 2 "_law_roll" ["_law_dice_here", "_law_total"] spRoll := (T.d_law_roll.cal fun f fd F => ok_roll F T).mono (by decide)
  have cp : Cal P w K mg base 2 "_law_pick" ["_law_dice_here", "_law_items"] (spPick K) := T.d_law_pick.cal fun f fd F => ok_pick F T
  refine F.ok sc_law_drawn_page (fun vs H Q E h => ?_) (fun cdv A outer s H vs Q E hr h => ?_)
  · obtain ⟨d, rfl, _⟩ := h
    rfl
  · obtain ⟨d, rfl, hd, q⟩ := h
    refine ⟨_, pss_cut (ps_set (i := 1) sc_law_drawn_page.nd rfl (.inr rfl) (pe_lst (pa_cons pe_str (pa_cons pe_str (pa_cons pe_str (pa_cons pe_str (pa_cons pe_str (pa_cons pe_str (pa_cons pe_str (pa_cons pe_str pa_nil))))))))))
      (pss_cut (ps_set (i := 2) sc_law_drawn_page.nd rfl (.inl rfl) (pe_callB cr_sortedLS (by rfl) T.b_sorted (by decide +kernel) (pa_cons (pe_lc (own := [("_law_turn", 4)]) (g := gName 4) (tt := tYes) rfl sc_law_drawn_page.nd
          (pi_range1 (by rfl) T.b_range (pa_cons (pe_cal cr hr (by rfl) (pa_cons (pv 0) (pa_cons pe_int pa_nil))) pa_nil)) (blkOk_by (N := NDP) (sc := defScope s_law_drawn_page) (by decide +kernel)) (fun _ _ _ _ _ => pg_name (i := 4) sc_law_drawn_page.nd rfl (.inl rfl)) (fun _ _ _ _ _ => pts_nil)
          (fun _ _ _ _ _ => pe_cal cp hr (by rfl) (pa_cons (pv 0) (pa_cons (pe_slice (sl_listK (K := K) (by exact rfl)) (pv 1) po_none (po_some pe_int)) pa_nil)))) pa_nil)))
      (pss_cut (ps_set (i := 3) sc_law_drawn_page.nd rfl (.inl rfl) (pe_callB cr_sortedLS (by rfl) T.b_sorted (by decide +kernel) (pa_cons (pe_lc (own := [("_law_turn", 4)]) (g := gName 4) (tt := tYes) rfl sc_law_drawn_page.nd
          (pi_range1 (by rfl) T.b_range (pa_cons (pe_cal cr hr (by rfl) (pa_cons (pv 0) (pa_cons pe_int pa_nil))) pa_nil)) (blkOk_by (N := NDP) (sc := defScope s_law_drawn_page) (by decide +kernel)) (fun _ _ _ _ _ => pg_name (i := 4) sc_law_drawn_page.nd rfl (.inl rfl)) (fun _ _ _ _ _ => pts_nil)
          (fun _ _ _ _ _ => pe_cal cp hr (by rfl) (pa_cons (pv 0) (pa_cons (pe_slice (sl_listK (K := K) (by exact rfl)) (pv 1) po_none (po_some pe_int)) pa_nil)))) pa_nil)))
      (pss_one (ps_ret (pe_tup (pa_cons (pe_cal cp hr (by rfl) (pa_cons (pv 0) (pa_cons (pv 1) pa_nil))) (pa_cons (pe_callTy call_tuple_of (by rfl) T.b_tuple (by decide +kernel) (pa_cons (pv 2) pa_nil))
        (pa_cons (pe_callTy call_tuple_of (by rfl) T.b_tuple (by decide +kernel) (pa_cons (pv 3) pa_nil)) (pa_cons (pe_cal cp hr (by rfl) (pa_cons (pv 0) (pa_cons (pv 1) pa_nil))) pa_nil))))))))), ?_⟩
    have big : 1000 ≤ sizeLine := by decide
    refine ⟨fun σ' G => ∃ l : Addr, σ' = [some (.ref d), some (.ref l), none, none, none] ∧ DPc H d l G ∧ H l = none, ?_, ?_⟩
    · refine ⟨by show 8 ≤ sizeLine; omega, fun l nl => ⟨l, rfl, ⟨upd_same, dice_ne hd nl, (SameX.refl d H).new nl, dice_upd hd (dice_ne hd nl)⟩, nl⟩⟩
    rintro σ' G0 ⟨l, rfl, c0, nlH⟩
    refine ⟨fun σ' G => ∃ (p0 : Addr) (q0 : List Str), σ' = [some (.ref d), some (.ref l), some (.ref p0), none, none] ∧ DPc H d l G ∧ G p0 = some (.lst (q0.map V.str)) ∧ H p0 = none ∧ p0 ≠ d ∧ q0.length ≤ 8 ∧ sortedS q0 = true ∧ (∀ z ∈ q0, z ∈ NM4), ?_, ?_⟩
    · refine ⟨_, rfl, d, 9, rfl, c0.hd, by decide, by decide, fun r x b c h0 h1 => ?_⟩
      have c1 : DPc H d l (upd G0 d (.lst [.int x, .int b, .int c])) := ⟨by rw [upd_ne c0.nl]; exact c0.el, c0.nl, c0.sx.atd, dice_new x b c⟩
      generalize upd G0 d (.lst [.int x, .int b, .int c]) = H1 at c1
      refine ⟨_, rfl, by omega, by omega, fun D hD => ?_⟩
      have nDd := dice_ne c1.hd hD
      have nDH : H D = none := c1.sx.free nDd hD
      have nDl : D ≠ l := fun e => by rw [e, c1.el] at hD; cases hD
      refine lc_range (lo := 0) (fun j H2 => ∃ zs : List Str, H2 D = some (.lst (zs.map V.str)) ∧ zs.length = j ∧ (∀ z ∈ zs, z ∈ NM4) ∧ DPc H d l H2)
        ⟨[], upd_same, rfl, nofun, ⟨by rw [upd_ne nDl.symm]; exact c1.el, c1.nl, c1.sx.new hD, dice_upd c1.hd nDd⟩⟩ (fun j H2 hj hP => ?_) (fun H2 hP => ?_)
      · obtain ⟨zs, ez, el, e1, c2⟩ := hP
        refine ⟨rfl, ?_⟩
        refine ⟨_, rfl, _, rfl, _, rfl, l, _, rfl, .inl (.inl c2.el), fun p np => ?_⟩
        have npd := dice_ne c2.hd np
        refine ⟨d, .ref p, NM4.map V.str, rfl, dice_upd c2.hd npd, .inl ⟨p, rfl, npd, .inl (.inl (.inl (by rw [upd_same]; rfl)))⟩, by decide, by decide, fun v x b c hv => ?_⟩
        obtain ⟨z, hz, rfl⟩ := List.mem_map.mp hv
        have nDp : D ≠ p := fun e => by rw [← e, ez] at np; cases np
        have npl : l ≠ p := fun e => by rw [← e, c2.el] at np; cases np
        refine ⟨zs.map V.str, by rw [upd_ne nDd, upd_ne nDp]; exact ez, by rw [List.length_map]; omega, zs ++ [z], ?_, by rw [List.length_append, el]; rfl, fun y hy => ?_, ⟨?_, c2.nl, ?_, ?_⟩⟩
        · rw [upd_same, List.map_append]
          rfl
        · rcases List.mem_append.mp hy with hy | hy
          · exact e1 y hy
          · rw [List.mem_singleton.mp hy]
            exact hz
        · rw [upd_ne nDl.symm, upd_ne c2.nl, upd_ne npl]
          exact c2.el
        · exact ((c2.sx.new np).atd).at nDH
        · exact dice_upd (dice_new x b c) nDd
      · obtain ⟨zs, ez, el, e1, c2⟩ := hP
        refine ⟨D, zs, rfl, .inl (.inl ez), by omega, fun ys p hperm hsrt np => ?_⟩
        have npd := dice_ne c2.hd np
        have npl : l ≠ p := fun e => by rw [← e, c2.el] at np; cases np
        exact ⟨p, ys, rfl, ⟨by rw [upd_ne npl]; exact c2.el, c2.nl, c2.sx.new np, dice_upd c2.hd npd⟩, upd_same, c2.sx.free npd np, npd, by rw [hperm.length_eq]; omega, hsrt, fun z hz => e1 z (hperm.mem_iff.mp hz)⟩
    rintro σ' G1 ⟨p0, q0, rfl, c1, ep0, np0H, np0d, l0, s0, m0⟩
    refine ⟨fun σ' G => ∃ (p1 : Addr) (q1 : List Str), σ' = [some (.ref d), some (.ref l), some (.ref p0), some (.ref p1), none] ∧ DPc H d l G ∧ G p1 = some (.lst (q1.map V.str)) ∧ H p1 = none ∧ p1 ≠ d ∧ q1.length ≤ 2 ∧ sortedS q1 = true ∧ (∀ z ∈ q1, z ∈ NM4) ∧ G p0 = some (.lst (q0.map V.str)), ?_, ?_⟩
    · refine ⟨_, rfl, d, 3, rfl, c1.hd, by decide, by decide, fun r x b c h0 h1 => ?_⟩
      have c1 : DPc H d l (upd G1 d (.lst [.int x, .int b, .int c])) := ⟨by rw [upd_ne c1.nl]; exact c1.el, c1.nl, c1.sx.atd, dice_new x b c⟩
      have ep1 : (upd G1 d (.lst [.int x, .int b, .int c])) p0 = some (.lst (q0.map V.str)) := by rw [upd_ne np0d]; exact ep0
      generalize upd G1 d (.lst [.int x, .int b, .int c]) = H1 at c1 ep1
      refine ⟨_, rfl, by omega, by omega, fun D hD => ?_⟩
      have nDd := dice_ne c1.hd hD
      have nDH : H D = none := c1.sx.free nDd hD
      have nDl : D ≠ l := fun e => by rw [e, c1.el] at hD; cases hD
      refine lc_range (lo := 0) (fun j H2 => ∃ zs : List Str, H2 D = some (.lst (zs.map V.str)) ∧ zs.length = j ∧ (∀ z ∈ zs, z ∈ NM4) ∧ DPc H d l H2 ∧ H2 p0 = some (.lst (q0.map V.str)))
        ⟨[], upd_same, rfl, nofun, ⟨by rw [upd_ne nDl.symm]; exact c1.el, c1.nl, c1.sx.new hD, dice_upd c1.hd nDd⟩, by rw [upd_ne (ne_of_none ep1 hD)]; exact ep1⟩ (fun j H2 hj hP => ?_) (fun H2 hP => ?_)
      · obtain ⟨zs, ez, el, e1, c2, ep2⟩ := hP
        refine ⟨rfl, ?_⟩
        refine ⟨_, rfl, _, rfl, _, rfl, l, _, rfl, .inl (.inl c2.el), fun p np => ?_⟩
        have npd := dice_ne c2.hd np
        refine ⟨d, .ref p, NM4.map V.str, rfl, dice_upd c2.hd npd, .inl ⟨p, rfl, npd, .inl (.inl (.inl (by rw [upd_same]; rfl)))⟩, by decide, by decide, fun v x b c hv => ?_⟩
        obtain ⟨z, hz, rfl⟩ := List.mem_map.mp hv
        have nDp : D ≠ p := fun e => by rw [← e, ez] at np; cases np
        have npl : l ≠ p := fun e => by rw [← e, c2.el] at np; cases np
        refine ⟨zs.map V.str, by rw [upd_ne nDd, upd_ne nDp]; exact ez, by rw [List.length_map]; omega, zs ++ [z], ?_, by rw [List.length_append, el]; rfl, fun y hy => ?_, ⟨?_, c2.nl, ?_, ?_⟩, by rw [upd_ne (ne_of_none ep1 hD), upd_ne np0d, upd_ne (ne_of_none ep2 np)]; exact ep2⟩
        · rw [upd_same, List.map_append]
          rfl
        · rcases List.mem_append.mp hy with hy | hy
          · exact e1 y hy
          · rw [List.mem_singleton.mp hy]
            exact hz
        · rw [upd_ne nDl.symm, upd_ne c2.nl, upd_ne npl]
          exact c2.el
        · exact ((c2.sx.new np).atd).at nDH
        · exact dice_upd (dice_new x b c) nDd
      · obtain ⟨zs, ez, el, e1, c2, ep2⟩ := hP
        refine ⟨D, zs, rfl, .inl (.inl ez), by omega, fun ys p hperm hsrt np => ?_⟩
        have npd := dice_ne c2.hd np
        have npl : l ≠ p := fun e => by rw [← e, c2.el] at np; cases np
        exact ⟨p, ys, rfl, ⟨by rw [upd_ne npl]; exact c2.el, c2.nl, c2.sx.new np, dice_upd c2.hd npd⟩, upd_same, c2.sx.free npd np, npd, by rw [hperm.length_eq]; omega, hsrt, fun z hz => e1 z (hperm.mem_iff.mp hz), by rw [upd_ne (ne_of_none ep2 np)]; exact ep2⟩
    rintro σ' G2 ⟨p1, q1, rfl, c2, ep1, np1H, np1d, l1, s1, m1, ep0⟩
    refine ⟨_, rfl, _, rfl, d, .ref l, NM8.map V.str, rfl, c2.hd, .inl ⟨l, rfl, c2.nl, .inl (.inl (.inl c2.el))⟩, by decide, by decide, fun v x b c hv => ?_⟩
    obtain ⟨n, hn, rfl⟩ := List.mem_map.mp hv
    have sx3 : SameX d H (upd G2 d (.lst [.int x, .int b, .int c])) := c2.sx.atd
    have hd3 : DiceAt (upd G2 d (.lst [.int x, .int b, .int c])) d := dice_new x b c
    have el3 : (upd G2 d (.lst [.int x, .int b, .int c])) l = some (.lst (NM8.map V.str)) := by rw [upd_ne c2.nl]; exact c2.el
    have e03 : (upd G2 d (.lst [.int x, .int b, .int c])) p0 = some (.lst (q0.map V.str)) := by rw [upd_ne np0d]; exact ep0
    have e13 : (upd G2 d (.lst [.int x, .int b, .int c])) p1 = some (.lst (q1.map V.str)) := by rw [upd_ne np1d]; exact ep1
    generalize upd G2 d (.lst [.int x, .int b, .int c]) = G3 at sx3 hd3 el3 e03 e13
    refine ⟨_, rfl, p0, _, rfl, .inl ⟨.inl (.inl e03), fun t0 nt0 => ?_⟩⟩
    have u4 := same_new (o := .tup (q0.map V.str)) (Same.refl G3) nt0
    have e4 : (upd G3 t0 (.tup (q0.map V.str))) t0 = some (.tup (q0.map V.str)) := upd_same
    have hd4 := dice_upd (o := .tup (q0.map V.str)) hd3 (dice_ne hd3 nt0)
    generalize upd G3 t0 (.tup (q0.map V.str)) = G4 at u4 e4 hd4
    refine ⟨_, rfl, p1, _, rfl, .inl ⟨.inl (.inl (u4 _ _ e13)), fun t1 nt1 => ?_⟩⟩
    have u5 := same_new (o := .tup (q1.map V.str)) (Same.refl G4) nt1
    have e5 : (upd G4 t1 (.tup (q1.map V.str))) t1 = some (.tup (q1.map V.str)) := upd_same
    have hd5 := dice_upd (o := .tup (q1.map V.str)) hd4 (dice_ne hd4 nt1)
    generalize upd G4 t1 (.tup (q1.map V.str)) = G5 at u5 e5 hd5
    have el5 := u5 _ _ (u4 _ _ el3)
    have e45 := u5 _ _ e4
    refine ⟨_, rfl, _, rfl, d, .ref l, NM8.map V.str, rfl, hd5, .inl ⟨l, rfl, c2.nl, .inl (.inl (.inl el5))⟩, by decide, by decide, fun v x b c hv => ?_⟩
    obtain ⟨a, ha, rfl⟩ := List.mem_map.mp hv
    refine ⟨by show 4 ≤ sizeLine; omega, fun t nt => ?_⟩
    have sx5 : SameX d H G5 := fun b o n e => u5 _ _ (u4 _ _ (sx3 b o n e))
    have hd6 : DiceAt (upd G5 d (.lst [.int x, .int b, .int c])) d := dice_new x b c
    have n0d : t0 ≠ d := dice_ne hd3 nt0
    have n1d : t1 ≠ d := dice_ne hd4 nt1
    refine q t ⟨n, q0, q1, a⟩ _ ((sx5.atd).new nt) (dice_upd hd6 (dice_ne hd6 nt)) ⟨⟨nm8_name n hn, good_by l0 s0 fun z hz => nm4_name z (m0 z hz), good_by l1 s1 fun z hz => nm4_name z (m1 z hz), nm8_name a ha⟩, m0, m1⟩ ⟨t0, t1, .inl (.inl upd_same), .inl (.inl ?_), .inl (.inl ?_)⟩
    · have e6 : (upd G5 d (.lst [.int x, .int b, .int c])) t0 = some (.tup (q0.map V.str)) := by rw [upd_ne n0d]; exact e45
      rw [upd_ne (ne_of_none e6 nt)]
      exact e6
    · have e6 : (upd G5 d (.lst [.int x, .int b, .int c])) t1 = some (.tup (q1.map V.str)) := by rw [upd_ne n1d]; exact e5
      rw [upd_ne (ne_of_none e6 nt)]
      exact e6
end
end Kl

set_option maxRecDepth 100000
set_option maxHeartbeats 4000000
namespace Kl
open PySem PySem.Spec PyProof.Rows L2 Gx Mx
/-! ### a text bent -/
theorem cut_to (z : Str) (r : Nat) : (cutS z none (some ((r : Nat) : Int))).cps.toList = z.cps.toList.take r := by
  unfold cutS
  rw [HT.sIx_nat, HT.sIx_none, List.drop_zero, Nat.sub_zero]
  show List.take (min r z.length) z.cps.toList = _
  have hl : z.length = z.cps.toList.length := (Array.length_toList ..).symm
  rw [hl]
  by_cases h : r ≤ z.cps.toList.length
  · rw [Nat.min_eq_left h]
  · rw [Nat.min_eq_right (by omega), List.take_length, List.take_of_length_le (by omega)]
theorem cut_from (z : Str) (r : Nat) : (cutS z (some ((r : Nat) : Int)) none).cps.toList = z.cps.toList.drop r := by
  unfold cutS
  rw [HT.sIx_nat, HT.sIx_none]
  show List.take (z.length - min r z.length) (z.cps.toList.drop (min r z.length)) = _
  have hl : z.length = z.cps.toList.length := (Array.length_toList ..).symm
  rw [hl]
  by_cases h : r ≤ z.cps.toList.length
  · rw [Nat.min_eq_left h, List.take_of_length_le (by rw [List.length_drop]; exact Nat.le_refl _)]
  · rw [Nat.min_eq_right (by omega), List.drop_of_length_le (Nat.le_refl _), List.drop_of_length_le (by omega), List.take_nil]
def cutL (ws : List Str) (lo hi : Option Int) : List Str := (ws.drop (HT.sIx ws.length 0 lo)).take (HT.sIx ws.length ws.length hi - HT.sIx ws.length 0 lo)
theorem cutV_map (ws : List Str) (lo hi : Option Int) : cutV (ws.map V.str) lo hi = (cutL ws lo hi).map V.str := by
  unfold cutV cutL
  rw [List.length_map, List.map_take, List.map_drop]
theorem cutL_sub (ws : List Str) (lo hi : Option Int) : (cutL ws lo hi).Sublist ws := (List.take_sublist _ _).trans (List.drop_sublist _ _)
theorem sub_sum {A B : List Str} (h : A.Sublist B) : (A.map (·.length)).sum ≤ (B.map (·.length)).sum := by
  induction h with
  | slnil => exact Nat.le_refl _
  | cons a _ ih =>
    rw [List.map_cons, List.sum_cons]
    omega
  | cons_cons a _ ih =>
    rw [List.map_cons, List.map_cons, List.sum_cons, List.sum_cons]
    omega
theorem of_join {y : Str} {c : Nat} : ∀ {l : List Str}, c ∈ (Str.join y l).cps.toList → c ∈ y.cps.toList ∨ ∃ w ∈ l, c ∈ w.cps.toList
  | [], h => by cases h
  | [a], h => .inr ⟨a, List.mem_cons_self, h⟩
  | a :: b :: r, h => by
    have h : c ∈ (a ++ y ++ Str.join y (b :: r)).cps.toList := h
    rw [cps_app', cps_app', List.mem_append, List.mem_append] at h
    rcases h with (h | h) | h
    · exact .inr ⟨a, List.mem_cons_self, h⟩
    · exact .inl h
    · rcases of_join h with h | ⟨w, hw, h⟩
      · exact .inl h
      · exact .inr ⟨w, List.mem_cons_of_mem _ hw, h⟩
/-- a text of signs below 128, of at most n of them -/
structure Tz (n : Nat) (z : Str) : Prop where
  a : Asc z
  l : z.length ≤ n
theorem asc_app {a b : Str} (ha : Asc a) (hb : Asc b) : Asc (a ++ b) := fun c hc => by
  rw [cps_app', List.mem_append] at hc
  rcases hc with h | h
  · exact ha c h
  · exact hb c h
theorem asc_cut {z y : Str} (h : Asc z) (e : ∀ c ∈ y.cps.toList, c ∈ z.cps.toList) : Asc y := fun c hc => h c (e c hc)
theorem asc_by {z : Str} (h : ∀ c ∈ z.cps.toList, c < 128) : Asc z := h
theorem tz_join {n : Nat} {z : Str} {L : List Str} (hz : Tz n z) (h1 : ∀ w ∈ L, Asc w) (h2 : (L.map (·.length)).sum ≤ 3 * n + 3) (h3 : L.length ≤ 0 + 2 * n + 5) (h4 : (L.map (·.length)).sum + L.length ≤ 3 * n + 10) : Tz (3 * n + 10) (Txt.join " " L) := by
  refine ⟨fun c hc => ?_, ?_⟩
  · rw [TL.join_eq] at hc
    rcases of_join hc with h | ⟨w, hw, h⟩
    · have : ∀ c ∈ (" " : Str).cps.toList, c < 128 := by decide +kernel
      exact this c h
    · exact h1 w hw c h
  · rw [TL.join_eq]
    have h5 := StrLaws.join_length_le " " L
    have h6 : (" " : Str).length = 1 := by decide +kernel
    rw [h6] at h5
    omega
abbrev SGN : List Str := ["a", "+", "+a", "0", " ", "z", "A", "+0", "\n", "a+"]
theorem sgn_ok : ∀ z ∈ SGN, z.length ≤ 2 ∧ ∀ c ∈ z.cps.toList, c < 128 := by decide +kernel
section
variable {P : Program} {w : World} {K : PySem.W.Frag} {mg : Str → Option Value} {base : Heap}
/-! ### _law_bent -/
def spBent : Sp := fun vs H Q _ => ∃ (d : Addr) (z : Str) (n : Nat), vs = [V.ref d, V.str z] ∧ DiceAt H d ∧ Tz n z ∧ n ≤ 1000 ∧ ∀ (z' : Str) H', Tz (3 * n + 10) z' → SameX d H H' → DiceAt H' d → Q (.str z') H'
theorem ok_bent {f : Addr} {fd : FuncData} (F : Fun K "_law_bent" "_law_bent" s_law_bent f fd) (T : Top K mg) : FnOk P w K mg base CX0 3 f fd ["_law_dice_here", "_law_line"] spBent := by
  have cr : Cal P w K mg base 2 "_law_roll" ["_law_dice_here", "_law_total"] spRoll := (T.d_law_roll.cal fun f fd F => ok_roll F T).mono (by decide)
  have cp : Cal P w K mg base 2 "_law_pick" ["_law_dice_here", "_law_items"] (spPick K) := T.d_law_pick.cal fun f fd F => ok_pick F T
  refine F.ok sc_law_bent (fun vs H Q E h => ?_) (fun cdv A outer s H vs Q E hr h => ?_)
  · obtain ⟨d, z, n, rfl, _⟩ := h
    rfl
  · obtain ⟨d, z, n, rfl, hd, hz, hn, q⟩ := h
    refine ⟨_, pss_cut (ps_par (i := 2) (j := 3) rfl sc_law_bent.nd rfl rfl (by decide) rfl rfl (pa_cons (pe_split (pv 1) pe_str) (pa_cons (pe_cal cr hr (by rfl) (pa_cons (pv 0) (pa_cons (pe_op op_add (pe_callB call_len_str (by rfl) T.b_len PySem.boot_len (pa_cons (pv 1) pa_nil)) pe_int) pa_nil))) pa_nil)) (by kernel_rfl))
      (pss_cut (ps_par (i := 4) (j := 5) rfl sc_law_bent.nd rfl rfl (by decide) rfl rfl (pa_cons (pe_cal cr hr (by rfl) (pa_cons (pv 0) (pa_cons (pe_callB call_len_seq (by rfl) T.b_len PySem.boot_len (pa_cons (pv 2) pa_nil)) pa_nil))) (pa_cons (pe_cal cr hr (by rfl) (pa_cons (pv 0) (pa_cons pe_int pa_nil))) pa_nil)) (by kernel_rfl))
      (pss_cut (ps_if (pt_cmpR op_eq (pv 5) pe_int (nomark _)) (pss_one (ps_ret (pe_join pe_str (pe_op op_cat (pe_slice sl_list (pv 2) po_none (po_some (pv 4))) (pe_slice sl_list (pv 2) (po_some (pe_op op_add (pv 4) pe_int)) po_none))))) pss_nil)
      (pss_cut (ps_if (pt_cmpR op_eq (pv 5) pe_int (nomark _)) (pss_one (ps_ret (pe_join pe_str (pe_op op_cat (pe_op op_cat (pe_slice sl_list (pv 2) po_none (po_some (pv 4))) (pe_lst (pa_cons (pe_cal cp hr (by rfl) (pa_cons (pv 0) (pa_cons (pv 2) pa_nil))) pa_nil)))
          (pe_slice sl_list (pv 2) (po_some (pe_op op_add (pv 4) (pv 5))) po_none))))) pss_nil)
      (pss_cut (ps_if (pt_cmpR op_eq (pv 5) pe_int (nomark _)) (pss_one (ps_ret (pe_op op_add_str (pe_slice sl_str (pv 1) po_none (po_some (pv 3))) (pe_slice sl_str (pv 1) (po_some (pe_op op_add (pv 3) pe_int)) po_none)))) pss_nil)
      (pss_cut (ps_set (i := 6) sc_law_bent.nd rfl (.inl rfl) (pe_cal cp hr (by rfl) (pa_cons (pv 0) (pa_cons (pe_lst (pa_cons pe_str (pa_cons pe_str (pa_cons pe_str (pa_cons pe_str (pa_cons pe_str (pa_cons pe_str (pa_cons pe_str (pa_cons pe_str (pa_cons pe_str (pa_cons pe_str pa_nil))))))))))) pa_nil))))
      (pss_one (ps_ret (pe_op op_add_str (pe_op op_add_str (pe_slice sl_str (pv 1) po_none (po_some (pv 3))) (pv 6)) (pe_slice sl_str (pv 1) (po_some (pe_op op_add (pv 3) (pe_callTy call_int1 (by rfl) T.b_int (by decide +kernel) (pa_cons (pe_cmpR op_eq (pv 5) pe_int (nomark _)) pa_nil)))) po_none))))))))), ?_⟩
    have big : 100000 ≤ sizeLine := by decide
    have hzl := hz.l
    have hzs : z.length ≤ sizeLine := by omega
    have l1 : ((z.length : Nat) : Int) + 1 = ((z.length + 1 : Nat) : Int) := by omega
    have hsum := split_sum (z := z) (y := " ") (by decide +kernel)
    have hpos := split_pos z " "
    have hasc : ∀ y ∈ Txt.split z " ", Asc y := fun y hy => asc_split hz.a hy
    have hlen : ∀ y ∈ Txt.split z " ", y.length ≤ n := fun y hy => Nat.le_trans (split_short (by decide +kernel) hy) hzl
    refine ⟨fun σ' G => ∃ (l : Addr) (at_ : Nat), σ' = [some (.ref d), some (.str z), some (.ref l), some (.int (at_ : Nat)), none, none, none] ∧ G l = some (.lst ((Txt.split z " ").map V.str)) ∧ l ≠ d ∧ SameX d H G ∧ DiceAt G d, ?_, ?_⟩
    · refine ⟨_, rfl, ⟨_, rfl⟩, z, _, rfl, rfl, rfl, by omega, fun l nl => ?_⟩
      have nld := dice_ne hd nl
      have e1 : (upd H l (.lst ((Txt.split z " ").map V.str))) l = some (.lst ((Txt.split z " ").map V.str)) := upd_same
      have sx1 : SameX d H (upd H l (.lst ((Txt.split z " ").map V.str))) := (SameX.refl d H).new nl
      have hd1 := dice_upd (o := .lst ((Txt.split z " ").map V.str)) hd nld
      generalize upd H l (.lst ((Txt.split z " ").map V.str)) = H1 at e1 sx1 hd1
      refine ⟨_, rfl, _, rfl, z, rfl, hzs, _, _, rfl, rfl, d, _, rfl, hd1, by omega, by rw [l1]; exact log2_small (by omega), fun r x b c h0 h1 => ?_⟩
      obtain ⟨k, rfl⟩ := Int.eq_ofNat_of_zero_le h0
      exact ⟨_, _, rfl, l, k, rfl, by rw [upd_ne nld]; exact e1, nld, sx1.atd, dice_new x b c⟩
    generalize Txt.split z " " = ws at hsum hpos hasc hlen
    rintro σ' G0 ⟨l, at_, rfl, el0, nld, sx0, hd0⟩
    refine ⟨fun σ' G => ∃ (sp way : Nat), σ' = [some (.ref d), some (.str z), some (.ref l), some (.int (at_ : Nat)), some (.int (sp : Nat)), some (.int (way : Nat)), none] ∧ G l = some (.lst (ws.map V.str)) ∧ SameX d H G ∧ DiceAt G d, ?_, ?_⟩
    · refine ⟨_, rfl, _, rfl, l, _, rfl, .inl (.inl (.inl el0)), d, _, rfl, hd0, by rw [List.length_map]; omega, by rw [List.length_map]; exact log2_small (by omega), fun r x b c h0 h1 => ?_⟩
      obtain ⟨sp, rfl⟩ := Int.eq_ofNat_of_zero_le h0
      refine ⟨_, rfl, d, _, rfl, dice_new x b c, by decide, by decide, fun r x b c h2 h3 => ?_⟩
      obtain ⟨way, rfl⟩ := Int.eq_ofNat_of_zero_le h2
      exact ⟨_, _, rfl, sp, way, rfl, by rw [upd_ne nld, upd_ne nld]; exact el0, (sx0.atd).atd, dice_new x b c⟩
    rintro σ' G ⟨sp, way, rfl, el, sx, hdG⟩
    have sums : ∀ (A B : List Str), A.Sublist ws → B.Sublist ws → ((A ++ B).map (·.length)).sum ≤ 2 * n + 2 ∧ (A ++ B).length ≤ 2 * n + 4 ∧ ((A ++ B).map (·.length)).sum + (A ++ B).length ≤ 2 * n + 4 := fun A B hA hB => by
      have i1 := sub_sum hA
      have i2 := sub_sum hB
      have i3 := hA.length_le
      have i4 := hB.length_le
      rw [List.map_append, List.sum_append, List.length_append]
      omega
    have e1 : (" " : Str).length = 1 := by decide +kernel
    refine ⟨fun σ' G' => σ' = [some (.ref d), some (.str z), some (.ref l), some (.int (at_ : Nat)), some (.int (sp : Nat)), some (.int (way : Nat)), none] ∧ G = G', ?_, ?_⟩
    · refine ⟨_, rfl, rfl, _, rfl, ite2 (fun c => ?_) (fun c => ⟨rfl, rfl⟩)⟩
      refine ⟨⟨_, rfl⟩, _, rfl, _, rfl, _, rfl, l, _, rfl, .inl (.inl el), fun p1 np1 => ?_⟩
      rw [cutV_map]
      have u1 := same_new (o := .lst ((cutL ws none (some (sp : Nat))).map V.str)) (Same.refl G) np1
      have f1 : (upd G p1 (.lst ((cutL ws none (some (sp : Nat))).map V.str))) p1 = some (.lst ((cutL ws none (some (sp : Nat))).map V.str)) := upd_same
      have hd1 := dice_upd (o := .lst ((cutL ws none (some (sp : Nat))).map V.str)) hdG (dice_ne hdG np1)
      generalize upd G p1 (.lst ((cutL ws none (some (sp : Nat))).map V.str)) = G1 at u1 f1 hd1
      refine ⟨_, rfl, _, rfl, _, _, rfl, rfl, _, rfl, l, _, rfl, .inl (.inl (u1 _ _ el)), fun p2 np2 => ?_⟩
      rw [cutV_map]
      generalize hi : ((sp : Nat) : Int) + 1 = i2
      have u2 := same_new (o := .lst ((cutL ws (some i2) none).map V.str)) (Same.refl G1) np2
      have f2 : (upd G1 p2 (.lst ((cutL ws (some i2) none).map V.str))) p2 = some (.lst ((cutL ws (some i2) none).map V.str)) := upd_same
      have hd2 := dice_upd (o := .lst ((cutL ws (some i2) none).map V.str)) hd1 (dice_ne hd1 np2)
      generalize upd G1 p2 (.lst ((cutL ws (some i2) none).map V.str)) = G2 at u2 f2 hd2
      have hA := cutL_sub ws none (some ((sp : Nat) : Int))
      have hB := cutL_sub ws (some i2) none
      generalize cutL ws none (some ((sp : Nat) : Int)) = A at hA f1
      generalize cutL ws (some i2) none = B at hB f2
      obtain ⟨j1, j2, j3⟩ := sums A B hA hB
      refine ⟨p1, p2, _, _, rfl, rfl, u2 _ _ f1, f2, ?_, fun p3 np3 => ?_⟩
      · rw [List.length_append] at j2
        rw [List.length_map, List.length_map]
        omega
      rw [← List.map_append]
      refine ⟨_, p3, A ++ B, rfl, rfl, .inl (.inl (.inl upd_same)), by rw [e1]; omega, ?_⟩
      refine q _ _ (tz_join hz (fun w hw => ?_) (by omega) (by omega) (by omega)) ?_ (dice_upd hd2 (dice_ne hd2 np3))
      · rcases List.mem_append.mp hw with h | h
        · exact hasc w (hA.subset h)
        · exact hasc w (hB.subset h)
      · exact (sx.trans (SameX.of fun b o e => u2 _ _ (u1 _ _ e))).new np3
    rintro σ' G' ⟨rfl, rfl⟩
    refine ⟨fun σ' G' => σ' = [some (.ref d), some (.str z), some (.ref l), some (.int (at_ : Nat)), some (.int (sp : Nat)), some (.int (way : Nat)), none] ∧ G = G', ?_, ?_⟩
    · refine ⟨_, rfl, rfl, _, rfl, ite2 (fun c => ?_) (fun c => ⟨rfl, rfl⟩)⟩
      refine ⟨⟨_, rfl⟩, _, rfl, _, rfl, _, rfl, l, _, rfl, .inl (.inl el), fun p1 np1 => ?_⟩
      rw [cutV_map]
      have u1 := same_new (o := .lst ((cutL ws none (some (sp : Nat))).map V.str)) (Same.refl G) np1
      have f1 : (upd G p1 (.lst ((cutL ws none (some (sp : Nat))).map V.str))) p1 = some (.lst ((cutL ws none (some (sp : Nat))).map V.str)) := upd_same
      have hd1 := dice_upd (o := .lst ((cutL ws none (some (sp : Nat))).map V.str)) hdG (dice_ne hdG np1)
      have np1d := dice_ne hdG np1
      generalize upd G p1 (.lst ((cutL ws none (some (sp : Nat))).map V.str)) = G1 at u1 f1 hd1
      refine ⟨_, rfl, _, rfl, d, .ref l, ws.map V.str, rfl, hd1, .inl ⟨l, rfl, nld, .inl (.inl (.inl (u1 _ _ el)))⟩, ?_, by rw [List.length_map]; omega, fun v x b c hv => ?_⟩
      · intro h
        have := congrArg List.length h
        rw [List.length_map] at this
        exact absurd this (Nat.ne_of_gt hpos)
      obtain ⟨y, hy, rfl⟩ := List.mem_map.mp hv
      have sx2 : SameX d H (upd G1 d (.lst [.int x, .int b, .int c])) := (sx.trans (SameX.of u1)).atd
      have hd2 : DiceAt (upd G1 d (.lst [.int x, .int b, .int c])) d := dice_new x b c
      have f2 : (upd G1 d (.lst [.int x, .int b, .int c])) p1 = some (.lst ((cutL ws none (some (sp : Nat))).map V.str)) := by rw [upd_ne np1d]; exact f1
      have el2 : (upd G1 d (.lst [.int x, .int b, .int c])) l = some (.lst (ws.map V.str)) := by rw [upd_ne nld]; exact u1 _ _ el
      generalize upd G1 d (.lst [.int x, .int b, .int c]) = G2 at sx2 hd2 f2 el2
      refine ⟨by show 1 ≤ sizeLine; omega, fun p2 np2 => ?_⟩
      have u3 := same_new (o := .lst [V.str y]) (Same.refl G2) np2
      have f3 : (upd G2 p2 (.lst [V.str y])) p2 = some (.lst [V.str y]) := upd_same
      have hd3 := dice_upd (o := .lst [V.str y]) hd2 (dice_ne hd2 np2)
      generalize upd G2 p2 (.lst [V.str y]) = G3 at u3 f3 hd3
      have hA := cutL_sub ws none (some ((sp : Nat) : Int))
      generalize cutL ws none (some ((sp : Nat) : Int)) = A at hA f2
      have iA := sub_sum hA
      have kA := hA.length_le
      refine ⟨p1, p2, _, _, rfl, rfl, u3 _ _ f2, f3, by rw [List.length_map]; show _ + 1 ≤ sizeLine; omega, fun p3 np3 => ?_⟩
      have e4 : A.map V.str ++ [V.str y] = (A ++ [y]).map V.str := by rw [List.map_append]; rfl
      rw [e4]
      have u4 := same_new (o := .lst ((A ++ [y]).map V.str)) (Same.refl G3) np3
      have f4 : (upd G3 p3 (.lst ((A ++ [y]).map V.str))) p3 = some (.lst ((A ++ [y]).map V.str)) := upd_same
      have hd4 := dice_upd (o := .lst ((A ++ [y]).map V.str)) hd3 (dice_ne hd3 np3)
      generalize upd G3 p3 (.lst ((A ++ [y]).map V.str)) = G4 at u4 f4 hd4
      refine ⟨_, rfl, _, rfl, _, rfl, _, _, rfl, rfl, _, rfl, l, _, rfl, .inl (.inl (u4 _ _ (u3 _ _ el2))), fun p4 np4 => ?_⟩
      rw [cutV_map]
      generalize hi : ((sp : Nat) : Int) + ((way : Nat) : Int) = i2
      have u5 := same_new (o := .lst ((cutL ws (some i2) none).map V.str)) (Same.refl G4) np4
      have f5 : (upd G4 p4 (.lst ((cutL ws (some i2) none).map V.str))) p4 = some (.lst ((cutL ws (some i2) none).map V.str)) := upd_same
      have hd5 := dice_upd (o := .lst ((cutL ws (some i2) none).map V.str)) hd4 (dice_ne hd4 np4)
      generalize upd G4 p4 (.lst ((cutL ws (some i2) none).map V.str)) = G5 at u5 f5 hd5
      have hB := cutL_sub ws (some i2) none
      generalize cutL ws (some i2) none = B at hB f5
      have iB := sub_sum hB
      have kB := hB.length_le
      have hy2 := hlen y hy
      have jl : (A ++ [y] ++ B).length = A.length + 1 + B.length := by rw [List.length_append, List.length_append, List.length_singleton]
      have js : ((A ++ [y] ++ B).map (·.length)).sum = (A.map (·.length)).sum + y.length + (B.map (·.length)).sum := by
        rw [List.map_append, List.map_append, List.sum_append, List.sum_append]
        rfl
      refine ⟨p3, p4, _, _, rfl, rfl, u5 _ _ f4, f5, ?_, fun p5 np5 => ?_⟩
      · rw [List.length_map, List.length_map, List.length_append, List.length_singleton]
        omega
      rw [← List.map_append]
      refine ⟨_, p5, A ++ [y] ++ B, rfl, rfl, .inl (.inl (.inl upd_same)), by rw [e1]; omega, ?_⟩
      refine q _ _ (tz_join hz (fun w hw => ?_) (by omega) (by omega) (by omega)) ?_ (dice_upd hd5 (dice_ne hd5 np5))
      · rcases List.mem_append.mp hw with h | h
        · rcases List.mem_append.mp h with h | h
          · exact hasc w (hA.subset h)
          · rw [List.mem_singleton.mp h]
            exact hasc y hy
        · exact hasc w (hB.subset h)
      · exact (sx2.trans (SameX.of fun b o e => u5 _ _ (u4 _ _ (u3 _ _ e)))).new np5
    rintro σ' G' ⟨rfl, rfl⟩
    have lt : (cutS z none (some ((at_ : Nat) : Int))).length ≤ z.length := by
      show (cutS z none (some ((at_ : Nat) : Int))).cps.size ≤ z.cps.size
      rw [← Array.length_toList, cut_to, ← Array.length_toList, List.length_take]
      omega
    have lf : ∀ k : Nat, (cutS z (some ((k : Nat) : Int)) none).length ≤ z.length := fun k => by
      show (cutS z (some ((k : Nat) : Int)) none).cps.size ≤ z.cps.size
      rw [← Array.length_toList, cut_from, ← Array.length_toList, List.length_drop]
      omega
    have at1 : Asc (cutS z none (some ((at_ : Nat) : Int))) := asc_cut hz.a fun c hc => by rw [cut_to] at hc; exact List.mem_of_mem_take hc
    have af1 : ∀ k : Nat, Asc (cutS z (some ((k : Nat) : Int)) none) := fun k => asc_cut hz.a fun c hc => by rw [cut_from] at hc; exact List.mem_of_mem_drop hc
    have lt2 := lt
    refine ⟨fun σ' G' => σ' = [some (.ref d), some (.str z), some (.ref l), some (.int (at_ : Nat)), some (.int (sp : Nat)), some (.int (way : Nat)), none] ∧ G = G', ?_, ?_⟩
    · refine ⟨_, rfl, rfl, _, rfl, ite2 (fun c => ?_) (fun c => ⟨rfl, rfl⟩)⟩
      have lf1 := lf (at_ + 1)
      have r1 : ((at_ : Nat) : Int) + 1 = ((at_ + 1 : Nat) : Int) := by omega
      have o := q (cutS z none (some ((at_ : Nat) : Int)) ++ cutS z (some ((at_ + 1 : Nat) : Int)) none) G ⟨asc_app at1 (af1 _), by rw [Str.length_append]; omega⟩ sx hdG
      rw [← r1] at o lf1
      exact ⟨_, rfl, _, rfl, _, rfl, z, rfl, hzs, _, rfl, _, rfl, _, _, rfl, rfl, _, rfl, z, rfl, hzs, _, _, rfl, rfl, by omega, o⟩
    rintro σ' G' ⟨rfl, rfl⟩
    refine ⟨fun σ' G' => ∃ y ∈ SGN, σ' = [some (.ref d), some (.str z), some (.ref l), some (.int (at_ : Nat)), some (.int (sp : Nat)), some (.int (way : Nat)), some (.str y)] ∧ SameX d H G' ∧ DiceAt G' d, ?_, ?_⟩
    · refine ⟨_, rfl, by show 10 ≤ sizeLine; omega, fun p np => ?_⟩
      have npd := dice_ne hdG np
      refine ⟨d, .ref p, SGN.map V.str, rfl, dice_upd hdG npd, .inl ⟨p, rfl, npd, .inl (.inl (.inl upd_same))⟩, by decide, by decide, fun v x b c hv => ?_⟩
      obtain ⟨y, hy, rfl⟩ := List.mem_map.mp hv
      exact ⟨y, hy, rfl, (sx.new np).atd, dice_new x b c⟩
    rintro σ' G' ⟨y, hy, rfl, sx2, hd2⟩
    obtain ⟨yl, ya⟩ := sgn_ok y hy
    have e2 : ∃ k : Nat, ((at_ : Nat) : Int) + (if decide (V.int ((way : Nat) : Int) = V.int 3) = true then 1 else 0) = ((k : Nat) : Int) := by
      split
      · exact ⟨at_ + 1, by omega⟩
      · exact ⟨at_, by omega⟩
    obtain ⟨k, ek⟩ := e2
    have lf1 := lf k
    have o := q (cutS z none (some ((at_ : Nat) : Int)) ++ y ++ cutS z (some ((k : Nat) : Int)) none) G' ⟨asc_app (asc_app at1 ya) (af1 _), by rw [Str.length_append, Str.length_append]; omega⟩ sx2 hd2
    rw [← ek] at o lf1
    exact ⟨_, rfl, _, rfl, _, rfl, z, rfl, hzs, _, rfl, _, _, rfl, rfl, by omega, _, rfl, _, rfl, _, rfl, rfl, .inr ⟨_, rfl, _, _, rfl, rfl, _, rfl, z, rfl, hzs, _, _, rfl, rfl, by rw [Str.length_append]; omega, o⟩⟩
end
end Kl

set_option maxRecDepth 100000
set_option maxHeartbeats 4000000
namespace Kl
open PySem PySem.Spec PyProof.Rows L2 Gx Mx
theorem pf_left (n : Str) (pp mp : Addr) (a : Str) : List.lookup ("left" : Str) (pf n pp mp a) = none := by
  have h1 : (("left" : Str) == "_note") = false := by decide +kernel
  have h2 : (("left" : Str) == "_pool") = false := by decide +kernel
  have h3 : (("left" : Str) == "_made") = false := by decide +kernel
  have h4 : (("left" : Str) == "_after") = false := by decide +kernel
  simp [List.lookup, h1, h2, h3, h4]
section
variable {P : Program} {w : World} {K : PySem.W.Frag} {mg : Str → Option Value} {base : Heap}
/-! ### _law_line_of -/
def spLO (K : PySem.W.Frag) : Sp := fun vs H Q _ => ∃ (t : Addr) (g : Pg), vs = [V.ref t] ∧ PartsAt K H t g ∧ PgOk g ∧ ∀ H', Same H H' → Q (.str (lineP g)) H'
theorem ok_lo {f : Addr} {fd : FuncData} (F : Fun K "_law_line_of" "_law_line_of" s_law_line_of f fd) (T : Top K mg) : FnOk P w K mg base CX0 2 f fd ["_law_parts"] (spLO K) := by
  have cd : Cal P w K mg base 1 "_law_digit_text" ["_law_digit_here"] (spDT K) := T.d_law_digit_text.cal fun f fd F => ok_dt F T
  refine F.ok sc_law_line_of (fun vs H Q E h => ?_) (fun cdv A outer s H vs Q E hr h => ?_)
  · obtain ⟨t, g, rfl, _⟩ := h
    rfl
  · obtain ⟨t, g, rfl, ⟨pp, mp, et, ep, em⟩, hg, q⟩ := h
    refine ⟨_, pss_cut (ps_par (i := 1) (j := 2) rfl sc_law_line_of.nd rfl rfl (by decide) rfl rfl (pa_cons (pe_cal cd hr (by rfl) (pa_cons (pe_ix ix_tup (pv 0) pe_int (fun _ _ => rfl)) pa_nil)) (pa_cons (pe_cal cd hr (by rfl) (pa_cons (pe_ix ix_tup (pv 0) pe_int (fun _ _ => rfl)) pa_nil)) pa_nil)) (by kernel_rfl))
      (pss_one (ps_ret (pe_join pe_str (pe_lst (pa_cons pe_str (pa_cons (pe_ix ix_tup (pv 0) pe_int (fun _ _ => rfl)) (pa_cons (pv 1) (pa_cons pe_str (pa_cons (pv 2) (pa_cons pe_str (pa_cons (pe_ix ix_tup (pv 0) pe_int (fun _ _ => rfl)) pa_nil))))))))))), ?_⟩
    refine ⟨fun σ' G => σ' = [some (.ref t), some (.str (textD g.pool)), some (.str (textD g.made))] ∧ Same H G, ?_, ?_⟩
    · refine ⟨_, rfl, t, _, _, .ref pp, rfl, rfl, et, rfl, pp, g.pool, rfl, ep, good_up hg.p (by decide), fun G1 s1 => ?_⟩
      refine ⟨_, rfl, t, _, _, .ref mp, rfl, rfl, sqT_st s1 et, rfl, mp, g.made, rfl, sqT_st s1 em, good_up hg.m (by decide), fun G2 s2 => ?_⟩
      exact ⟨_, _, rfl, rfl, fun b o e => s2 _ _ (s1 _ _ e)⟩
    rintro σ' G ⟨rfl, s0⟩
    have big : 10000 ≤ sizeLine := by decide
    refine ⟨⟨_, rfl⟩, _, rfl, t, _, _, .str g.note, rfl, rfl, sqT_st s0 et, rfl, _, rfl, _, rfl, _, rfl, t, _, _, .str g.after, rfl, rfl, sqT_st s0 et, rfl, by show 7 ≤ sizeLine; omega, fun p np => ?_⟩
    refine ⟨_, p, wordsP g, rfl, rfl, .inl (.inl (.inl upd_same)), ?_, q _ (same_new s0 np)⟩
    have h3 : ((wordsP g).map (·.length)).sum ≤ (wordsP g).length * 100 := sum_by fun z hz => by
      simp only [wordsP, List.mem_cons, List.not_mem_nil, or_false] at hz
      have l3 := textD_len hg.p
      have l4 := textD_len hg.m
      rcases hz with rfl | rfl | rfl | rfl | rfl | rfl | rfl
      · decide +kernel
      · exact Nat.le_trans (name_len hg.n) (by decide)
      · omega
      · decide +kernel
      · omega
      · decide +kernel
      · exact Nat.le_trans (name_len hg.a) (by decide)
    have h4 : (" " : Str).length = 1 := by decide +kernel
    have h5 : (wordsP g).length = 7 := rfl
    rw [h4, h5]
    omega
/-! ### _law_left -/
def spLL (K : PySem.W.Frag) (C CK : Addr) : Sp := fun vs H Q _ => ∃ (x kx md : Addr) (leaf : Str) (M : Mak) (ns : List Str) (g : Pg), vs = [V.ref kx, .ref x] ∧ PageAt K C H x g ∧ PgOk g ∧ KindsAt CK H kx md leaf M ns ∧ (∀ z ∈ ns, PyData.strOk z = true) ∧
  (∀ t r' H', (∀ z ∈ g.pool ++ g.made, z ∈ ns) → leftM g.pool (partsM M g) = some r' → Same H H' → H' t = some (.tup (r'.map V.str)) → Q (.ref t) H') ∧
  (∀ H', ¬ ((∀ z ∈ g.pool ++ g.made, z ∈ ns) ∧ leftM g.pool (partsM M g) ≠ none) → Same H H' → Q (.str "operation") H')
theorem ok_ll {C CK Co f : Addr} {fd : FuncData} (F : Fun K "_law_left" "_law_left" s_law_left f fd) (T : Top K mg) (TC : Cl_Page K mg C) (TK : Cl_Kinds K mg CK) (XO : XPln K mg "InvalidOperation" "ValueError.__new__" "ValueError.__init__" [.type "ValueError", .type "Exception", .type "BaseException", .type "object"] Co) (XC : XCls K Co)
    (te : PySem.W.exmOne K (.ref Co) (.ref Co) = some true) : FnG P w K mg base CX0 5 f fd ["_law_kinds", "_law_page"] (spLL K C CK) := by
  have cl : CalMX P w K mg base C "left" 4 ["self", "kinds"] (spPLeft K C CK Co) := TC.m_left.calX fun f fd F => fnG_of (ok_pleft F T TC TK XO XC)
  refine okG F sc_law_left (fun vs H Q E h => ?_) (fun cdv A outer s H vs Q E hg hr h => ?_)
  · obtain ⟨x, kx, md, leaf, M, ns, g, rfl, _⟩ := h
    rfl
  · obtain ⟨x, kx, md, leaf, M, ns, g, rfl, hP, hok, hK, ok, q1, q2⟩ := h
    refine ⟨_, pss_one (ps_try_only (c := .ref Co) rfl rfl ⟨by rfl, by decide, .inl XO.gC⟩ takes_none5
        (fun W pn xe tk hp => pss_one (ps_ret (pe_methX (pl := _) (pv 1) TC.cl cl hg hr (fun σ => passAt tk σ) (pa_cons (pv 0) pa_nil))))
        (fun a oe cls d pn hz hf => pss_one (ps_ret pe_str))), ?_⟩
    obtain ⟨dx, pp, mp, hx, hp, hm⟩ := id hP
    refine ⟨_, rfl, x, dx, _, rfl, hx, pf_left _ _ _ _, _, rfl, x, kx, md, leaf, M, ns, g, rfl, hP, hok, hK, ok, q1, fun H' hn s => ?_⟩
    exact ⟨true, te, fun _ a na => q2 H' hn s, fun h => by cases h⟩
end
end Kl

set_option maxRecDepth 100000
set_option maxHeartbeats 4000000
namespace Kl
open PySem PySem.Spec PyProof.Rows L2 Gx Mx
/-! ### data that are small -/
theorem ok_app (a b : Str) : PyData.strOk (a ++ b) = (PyData.strOk a && PyData.strOk b) := by
  show (a.cps ++ b.cps).all _ = (a.cps.all _ && b.cps.all _)
  rw [Array.all_append]
structure Sm (B k : Nat) (d : PyData) : Prop where
  lay : d.canLay0 = true
  dp : d.depth ≤ k
  wt : d.weight ≤ B
  sh : d.showable = true
  is : d.intsShort 13 = true
theorem Sm.str {B k : Nat} {s : Str} (h : PyData.strOk s = true) (hl : s.length ≤ B) : Sm B k (.str s) := ⟨h, Nat.zero_le _, hl, rfl, rfl⟩
theorem Sm.up {B B' k k' : Nat} {d : PyData} (h : Sm B k d) (hB : B ≤ B') (hk : k ≤ k') : Sm B' k' d := ⟨h.lay, Nat.le_trans h.dp hk, Nat.le_trans h.wt hB, h.sh, h.is⟩
theorem Sm.all {B k : Nat} : ∀ {ds : List PyData}, (∀ d ∈ ds, Sm B k d) → PyData.canLayAll0 ds = true ∧ PyData.depthAll ds ≤ k ∧ PyData.weightAll ds ≤ ds.length * (B + 1) ∧ PyData.showableAll ds = true ∧ PyData.intsShortAll 13 ds = true
  | [], _ => ⟨rfl, Nat.zero_le _, Nat.zero_le _, rfl, rfl⟩
  | d :: ds, h => by
    obtain ⟨h1, h2, h3, h4, h5⟩ := h d List.mem_cons_self
    obtain ⟨i1, i2, i3, i4, i5⟩ := Sm.all (ds := ds) fun x hx => h x (List.mem_cons_of_mem _ hx)
    refine ⟨?_, ?_, ?_, ?_, ?_⟩
    · rw [PyData.canLayAll0, h1, i1]; rfl
    · rw [PyData.depthAll]; exact Nat.max_le.mpr ⟨h2, i2⟩
    · rw [PyData.weightAll, List.length_cons, Nat.succ_mul]
      omega
    · rw [PyData.showableAll, h4, i4]; rfl
    · rw [PyData.intsShortAll, h5, i5]; rfl
theorem Sm.tup {B k n B' k' : Nat} {ds : List PyData} (h : ∀ d ∈ ds, Sm B k d) (hn : ds.length ≤ n) (hB : n * (B + 1) ≤ B') (hk : k + 1 ≤ k') : Sm B' k' (.tuple ds) := by
  obtain ⟨i1, i2, i3, i4, i5⟩ := Sm.all h
  have hm : ds.length * (B + 1) ≤ n * (B + 1) := Nat.mul_le_mul_right _ hn
  exact ⟨i1, by rw [PyData.depth]; omega, by rw [PyData.weight]; omega, i4, i5⟩
theorem Sm.lst {B k n B' k' : Nat} {ds : List PyData} (h : ∀ d ∈ ds, Sm B k d) (hn : ds.length ≤ n) (hB : n * (B + 1) ≤ B') (hk : k + 1 ≤ k') : Sm B' k' (.list ds) := by
  obtain ⟨i1, i2, i3, i4, i5⟩ := Sm.all h
  have hm : ds.length * (B + 1) ≤ n * (B + 1) := Nat.mul_le_mul_right _ hn
  exact ⟨i1, by rw [PyData.depth]; omega, by rw [PyData.weight]; omega, i4, i5⟩
theorem Sm.int {B k n : Nat} (h : n ≤ 6) (hB : 3 ≤ B) : Sm B k (.int (n : Int)) := by
  have e : (List.range 7).all (fun n => decide (PyData.weight (.int (n : Int)) ≤ 3) && PyData.showable (.int (n : Int)) && PyData.intsShort 13 (.int (n : Int))) = true := by decide +kernel
  have e2 := List.all_eq_true.mp e n (List.mem_range.mpr (by omega))
  rw [Bool.and_eq_true, Bool.and_eq_true] at e2
  exact ⟨rfl, Nat.zero_le _, Nat.le_trans (of_decide_eq_true e2.1.1) hB, e2.1.2, e2.2⟩
/-- what repr asks of data -/
theorem Sm.repr {B k : Nat} {d : PyData} (h : Sm B k d) (hB : B ≤ 1000000) (hk : k ≤ 60) : d.showable = true ∧ d.hasDict = false ∧ d.depth ≤ 60 ∧ d.shown.length ≤ sizeLine := by
  have hl : PyData.layable0 d = true := by
    show (PyData.canLay0 d && decide (PyData.depth d ≤ 64) && decide (PyData.weight d ≤ 2 ^ 20)) = true
    rw [h.lay, decide_eq_true (show d.depth ≤ 64 from Nat.le_trans h.dp (by omega)), decide_eq_true (show d.weight ≤ 2 ^ 20 from Nat.le_trans h.wt (Nat.le_trans hB (by decide)))]
    rfl
  refine ⟨h.sh, PyData.hasDict_of_layable hl, Nat.le_trans h.dp hk, Nat.le_trans (shown_le13 hl h.is) (by decide)⟩
/-- texts -/
theorem sm_texts {B n : Nat} {zs : List Str} (h : ∀ z ∈ zs, PyData.strOk z = true ∧ z.length ≤ B) (hn : zs.length ≤ n) : Sm (n * (B + 1)) 1 (.tuple (tD zs)) := by
  refine Sm.tup (k := 0) (n := n) (fun d hd => ?_) (by unfold tD; rw [List.length_map]; exact hn) (Nat.le_refl _) (Nat.le_refl _)
  obtain ⟨z, hz, rfl⟩ := List.mem_map.mp hd
  exact Sm.str (h z hz).1 (h z hz).2
theorem Sm.intB {B k : Nat} {i : Int} (h : i.natAbs < 10 ^ 12) (hB : 41 ≤ B) : Sm B k (.int i) := by
  have hl : i.natAbs.log2 < 40 := PySem.Flt.log2_lt_of (by decide) (Nat.lt_trans h (by decide))
  refine ⟨rfl, Nat.zero_le _, ?_, decide_eq_true (Nat.lt_trans hl (by decide)), decide_eq_true (PyData.shown_int_le h)⟩
  rw [PyData.weight]
  split
  · exact Nat.zero_le _
  · omega
theorem Sm.bool {B k : Nat} (b : Bool) : Sm B k (.bool b) := ⟨rfl, Nat.zero_le _, Nat.zero_le _, rfl, rfl⟩
theorem Sm.non {B k : Nat} : Sm B k .none := ⟨rfl, Nat.zero_le _, Nat.zero_le _, rfl, rfl⟩
theorem Sm.shaped {B k : Nat} {d : PyData} (h : Sm B k d) (hk : k ≤ 64) : SeqAt.shaped d = true := by
  unfold SeqAt.shaped
  rw [Bool.and_eq_true]
  exact ⟨h.lay, decide_eq_true (Nat.le_trans h.dp hk)⟩
theorem sm_cons {B k : Nat} {d : PyData} {ds : List PyData} (h : Sm B k d) (r : ∀ e ∈ ds, Sm B k e) : ∀ e ∈ d :: ds, Sm B k e := fun e he => by
  rcases List.mem_cons.mp he with rfl | he
  · exact h
  · exact r e he
theorem sm_nil {B k : Nat} : ∀ e ∈ ([] : List PyData), Sm B k e := fun e he => nomatch he
/-! ### what stays while the dice are thrown -/
theorem sqT_sx {K : PySem.W.Frag} {G G' : Hp} {d a : Addr} {xs : List V} (hd : DiceAt G d) (s : SameX d G G') (h : SqT K G a xs) : SqT K G' a xs := by
  obtain ⟨p, q, r, e⟩ := hd
  rcases h with (h | ⟨o, h⟩) | h
  · exact .inl (.inl (s _ _ (fun z => by rw [z, e] at h; cases h) h))
  · exact .inl (.inr ⟨o, s _ _ (fun z => by rw [z, e] at h; cases h) h⟩)
  · exact .inr h
theorem ins_sx {G G' : Hp} {d a C dx : Addr} {fs : List (Str × V)} (hd : DiceAt G d) (s : SameX d G G') (h : G a = some (.ins C dx fs)) : G' a = some (.ins C dx fs) := by
  obtain ⟨p, q, r, e⟩ := hd
  exact s _ _ (fun z => by rw [z, e] at h; cases h) h
theorem dice_sm {H H' : Hp} {d : Addr} (s : ∀ b o, H b = some o → H' b = some o) (q : DiceAt H d) : DiceAt H' d := by
  obtain ⟨x, b, c, h⟩ := q
  exact ⟨x, b, c, s _ _ h⟩
end Kl

set_option maxRecDepth 100000
set_option maxHeartbeats 4000000
namespace Kl
open PySem PySem.Spec PyProof.Rows L2 Gx Mx
section
variable {X : Cx}
/-! ### a tuple as it is written, whose object is known -/
def tTupZ (t : TA) : TE := fun σ H Q => t σ H fun xs H1 => xs.length ≤ sizeLine ∧ ∀ p H', TupZ H' p xs → H1 p = none → (∀ b, b ≠ p → H' b = H1 b) → Q (.ref p) H'
theorem pe_tupZ {es : List Expr} {t : TA} {x1 : Nat} {pos : Pos} (h : PA X es t) : PE X (.Tuple es x1 pos) (tTupZ t) := by
  refine ⟨fun pins s σ H Q I hq => ?_⟩
  refine wpAny_Tuple_spliced (thn (h.run pos pins s σ H _ I hq) fun us s1 ⟨xs, H1, I1, r, z, q⟩ => ⟨by rw [← r.length]; exact z, ?_⟩)
  have hf : H1 s1.heap.objs.size = none := I1.hok.fresh (Nat.le_refl _)
  refine ⟨.ref s1.heap.objs.size, upd H1 s1.heap.objs.size (.frz { cls := .type "tuple", data := .seq us.toArray } (.tup xs)), I1.laid (t' := s1.toks) (fun b u e => Heap.get?_push_of_some _ e) (Nat.le_refl _) ?_, rfl, q _ _ ⟨_, rfl, upd_same⟩ hf (fun b n => upd_ne n)⟩
  exact ⟨Heap.get?_push_size _ rfl, z, us, r, IsTup.new _ _⟩
end
theorem same_k {H H' : Hp} {p : Addr} (n : H p = none) (k : ∀ b, b ≠ p → H' b = H b) : Same H H' := fun b o e => by rw [k b (ne_of_none e n)]; exact e
theorem merge_new : ∀ (more kvs : List (Key × V)), (more.map (·.1)).Nodup → (∀ k ∈ more.map (·.1), valV kvs k = none) → mergeK kvs more = kvs ++ more
  | [], kvs, _, _ => by unfold mergeK; rw [List.foldl_nil, List.append_nil]
  | p :: r, kvs, nd, hn => by
    rw [List.map_cons, List.nodup_cons] at nd
    have e : mergeK kvs (p :: r) = mergeK (putK kvs p.1 p.2) r := rfl
    have e0 : valV kvs p.1 = none := hn _ (by rw [List.map_cons]; exact List.mem_cons_self)
    rw [e, putK_new _ e0, merge_new r _ nd.2 fun k hk => ?_, List.append_assoc]
    · rfl
    · have hk0 := hn k (by rw [List.map_cons]; exact List.mem_cons_of_mem _ hk)
      rw [valV_snoc _ _ _ _ e0, if_neg (fun (q : k = p.1) => nd.1 (by rw [← q]; exact hk)), hk0]
theorem merge_nil {more : List (Key × V)} (nd : (more.map (·.1)).Nodup) : mergeK [] more = more := merge_new more [] nd fun _ _ => rfl
/-- a dict of makings stands at m -/
def Mkd (H : Hp) (m : Addr) (M : Mak) : Prop := ∃ kvs, H m = some (.dK kvs) ∧ MakAt H kvs M
theorem Mkd.same {H H' : Hp} {m : Addr} {M : Mak} (h : Mkd H m M) (s : Same H H') : Mkd H' m M := by
  obtain ⟨kvs, e, hM⟩ := h
  exact ⟨kvs, s _ _ e, hM.same fun _ _ q => q.mono s⟩
/-- a dict that is being written is done -/
theorem disp_end {G Hk : Hp} {p : Addr} {kvs : List (Key × V)} {M : Mak} (np : G p = none) (s : Same (upd G p (.dK [])) Hk) (hM : MakAt Hk kvs M) : Same G (upd Hk p (.dK kvs)) ∧ Mkd (upd Hk p (.dK kvs)) p M := by
  have e := s _ _ (upd_same : (upd G p (.dK [])) p = _)
  refine ⟨fun b o h => ?_, kvs, upd_same, hM.same fun a xs q => q.at fun o h => ?_⟩
  · have nb := ne_of_none h np
    rw [upd_ne nb]
    exact s _ _ (by rw [upd_ne nb]; exact h)
  · rw [upd_ne (q.ne e fun ob z => by cases z)]
    exact h
theorem nodupL_len {α : Type} [DecidableEq α] : ∀ {xs ys : List α}, xs.Nodup → (∀ z ∈ xs, z ∈ ys) → xs.length ≤ ys.length
  | [], ys, _, _ => Nat.zero_le _
  | x :: xs, ys, hn, hs => by
    rw [List.nodup_cons] at hn
    have hx : x ∈ ys := hs x List.mem_cons_self
    have h1 := nodupL_len (ys := ys.erase x) hn.2 fun z hz => (List.mem_erase_of_ne (fun e => hn.1 (by rw [e] at hz; exact hz))).mpr (hs z (List.mem_cons_of_mem _ hz))
    rw [List.length_erase_of_mem hx] at h1
    have : 0 < ys.length := List.length_pos_of_mem hx
    rw [List.length_cons]
    omega
/-! ### kinds and their dict, while the dice are thrown -/
theorem KindsAt.dice {G G' : Hp} {C x md d : Addr} {leaf : Str} {M : Mak} {ns : List Str} (k : KindsAt C G x md leaf M ns) (hd : DiceAt G d) (s : SameX d G G') : KindsAt C G' x md leaf M ns := by
  obtain ⟨a, b, c', e⟩ := id hd
  obtain ⟨dx, nt, kvs, h1, h2, h3, h4⟩ := k
  refine ⟨dx, nt, kvs, s _ _ (fun z => by rw [z, e] at h1; cases h1) h1, s _ _ (fun z => by rw [z, e] at h2; cases h2) h2, h3.same fun a xs q => q.at fun o h => s _ _ (q.ne e fun ob w => by cases w) h, s _ _ (fun z => by rw [z, e] at h4; cases h4) h4⟩
theorem Mkd.dice {G G' : Hp} {m d : Addr} {M : Mak} (h : Mkd G m M) (hd : DiceAt G d) (s : SameX d G G') : Mkd G' m M := by
  obtain ⟨a, b, c', e⟩ := id hd
  obtain ⟨kvs, h2, h3⟩ := h
  exact ⟨kvs, s _ _ (fun z => by rw [z, e] at h2; cases h2) h2, h3.same fun a xs q => q.at fun o h => s _ _ (q.ne e fun ob w => by cases w) h⟩
theorem mk_same {G : Hp} {x dx : Addr} (nx : G x = none) (nd : G dx = none) {o1 o2 : HO} : Same G (upd (upd G dx o1) x o2) := fun b o e => by
  rw [upd_ne (ne_of_none e nx), upd_ne (ne_of_none e nd)]
  exact e
/-- kinds made of a dict that stands -/
theorem init_by {C x dx mk : Addr} {G : Hp} {leaf : Str} {M : Mak} {Q : VK} {E : XK} (hM : Mkd G mk M) (hV : Vld leaf M) (nx : G x = none) (nd : G dx = none)
    (q : ∀ G2 md M' ns, KindsAt C G2 x md leaf M' ns → OrdOf M M' → IsNames leaf (keysOf M) ns → Same G G2 → Q .non G2) : spInit C [.ref x, .str leaf, .ref mk] (upd (upd G dx (.own x)) x (.ins C dx [])) Q E := by
  obtain ⟨kvs, e, hM⟩ := hM
  have s := mk_same nx nd (o1 := .own x) (o2 := .ins C dx [])
  exact ⟨x, dx, leaf, mk, kvs, M, rfl, upd_same, s _ _ e, hM.same (fun _ _ h => h.mono s), hV, fun G2 md M' ns hK hO hN _ keep => q G2 md M' ns hK hO hN fun b o e => keep b o (ne_of_none e nx) (s _ _ e)⟩
end Kl

set_option maxRecDepth 100000
set_option maxHeartbeats 4000000
namespace Gx
open PySem PySem.Spec PyProof.Rows L2 SeqAt Mx
/-! ### a dict, and an instance, beside a text -/
section
variable {A : Around} {s : Shared}
theorem rc_dict_str {l : Addr} {ob : Obj} (b : Str) (u : Tok) (hl : s.heap.get? l = some ob) (hc : ob.cls = .type "dict") {es : Array DictEntry} {ep : Nat} (hde : ob.data = .dict es ep) (hu : A.units < cLine) : RcAt A s (.ref l) (.str b u) false := fun prog w E Q h => by
  obtain ⟨cls2, dd2, data2, sl2⟩ := ob
  simp only at hc hde
  subst hc hde
  exact rc_eq_decline_or (k := false) ⟨_, hl, rfl⟩ (typeIs_str s b u) (by decide) F.sub_str_dict F.slot_dict_eq F.slot_str_eq_refl
    (fun _ hq => dict_eq_str ⟨_, hl, rfl⟩ hq)
    (fun _ hq => call_meets F.slot_str_eq_refl (typeIs_str s b u) F.entry_str_eq (F.args_str_eq_2 _ _) (str_eq_dict b u l dd2 sl2 es ep) ⟨hl, hq⟩)
    (fun _ hq => wpAny_of_eq (rfl : isSame (.ref l) (.str b u) = pure false) hq) (.inr hu) h
end
section
variable {X : Cx} {C : Addr} {k : Nat} {ps : List Str} {sp : Sp}
def rEqDS : R2 := fun x y H Q => ∃ a kvs z, x = .ref a ∧ y = .str z ∧ H a = some (.dK kvs) ∧ Q (.bl false) H
theorem op_eqDS (hu : X.A.units + 64 < cLine) : OpR X (compareOp .Eq) rEqDS := by
  intro pins s σ H x y v u Q I rx ry h
  obtain ⟨a, kvs, z, rfl, rfl, ea, q⟩ := h
  obtain rfl : v = Value.ref a := rx
  obtain ⟨t, rfl⟩ := (show ∃ t, u = Value.str z t from ry)
  obtain ⟨_, _, vs, _, hd⟩ := dk_of I.hok ea
  obtain ⟨ob, hb, hD⟩ := Heap.dictOf_iff.mp hd
  obtain ⟨es, ep, ex, ed, _⟩ := hD
  exact rc_dict_str z t hb ex.1 ed (by omega) _ _ _ _ ⟨.bl false, H, I, rfl, q⟩
theorem sub_str_own {K : PySem.W.Frag} {C : Addr} : PySem.W.subIn K (.type "str") (.ref C) = some false := by
  have e : fastBuiltinMro "str" = some [.type "str", .type "object"] := by decide +kernel
  show (fastBuiltinMro "str").map (·.contains (.ref C)) = some false
  rw [e]
  first
    | rfl
    | simp
def rEqMS (C : Addr) (sp : Sp) : R2 := fun x y H Q => ∃ a dx fs z, x = .ref a ∧ y = .str z ∧ H a = some (.ins C dx fs) ∧ sp [.ref a, y] H (fun v H' => ∃ b, v = .bl b ∧ Q (.bl b) H') E0
theorem op_eqMS (c : CalM X.prog X.w X.K X.mg X.base C "__eq__" k ps sp) (hr : Room k X.A) : OpR X (compareOp .Eq) (rEqMS C sp) := by
  intro pins s σ H x y v u Q I rx ry h
  obtain ⟨f, fd, F, me, b, _⟩ := c
  obtain ⟨a, dx, fs, z, rfl, rfl, ea, q⟩ := h
  obtain rfl : v = Value.ref a := rx
  obtain ⟨mA, O, _⟩ := ins_get I.hok ea
  obtain ⟨od, J, _⟩ := O.look
  obtain ⟨mm, hF⟩ := I.fr
  have lk : PySem.W.Looks (model X.prog X.w) s.heap (typeOf u) (.type "str") := by
    obtain ⟨t, rfl⟩ := (show ∃ t, u = Value.str z t from ry)
    exact PySem.W.looks_reads (Reads.str z t)
  have nf : PySem.W.notFirst X.K C (.type "str") = true := by simp [PySem.W.notFirst, sub_str_own]
  show wpAny _ _ (richCompare .Eq (.ref a) u) _ _ _
  refine PySem.W.cmp_K (op := .Eq) hr.units0 hF I.ok.mod.kin J lk nf me.at_ me.fn (wpAny_mono (run_below F hr rfl b I (.cons (rel_ref _) (.cons ry .nil)) q) (fun r s' z => ?_) fun _ _ e => e)
  obtain ⟨v', H', I', rv, t, rfl, q'⟩ := z
  cases rv
  exact ⟨.bl t, H', I', rfl, q'⟩
/-- an operator by one of two readings -/
theorem op_two {op : Value → Value → Sem Value} {r1 r2 : R2} (h1 : OpR X op r1) (h2 : OpR X op r2) : OpR X op (fun x y H Q => r1 x y H Q ∨ r2 x y H Q) := fun pins s σ H x y v u Q I rx ry h =>
  h.elim (h1 pins s σ H x y v u Q I rx ry) (h2 pins s σ H x y v u Q I rx ry)
/-- statements that are never reached -/
theorem pss_nv {b : List Stmt} : PSs X b (fun _ _ _ => False) := ⟨fun _ _ _ _ _ _ h => h.elim⟩
end
end Gx

set_option maxRecDepth 100000
set_option maxHeartbeats 4000000
/-! ### repr of data, the text named: no two long texts are ever compared -/
namespace Gx
open PySem PySem.Spec PyProof.Rows L2
section
variable {X : Cx}
def rReprE (K : PySem.W.Frag) : List V → Hp → VK → Prop := fun xs H Q => ∃ (x : V) (d : PyData) (S : Str), xs = [x] ∧ Dp K H x d ∧ (d.showable = true ∧ d.hasDict = false ∧ d.depth ≤ 60 ∧ d.shown.length ≤ sizeLine) ∧ d.shown = S ∧ Q (.str S) H
theorem call_reprE (g : Gd X.A) (hu : X.A.units + 64 < cLine) : CallR X (.builtin "repr") (rReprE X.K) := by
  intro pins s σ H xs us Q I r h
  obtain ⟨x, d, S, e, hd, ⟨h1, h2, h3, h4⟩, rfl, q⟩ := h
  exact call_reprD g hu pins s σ H xs us Q I r ⟨x, d, e, hd, h1, h2, h3, h4, q⟩
end
end Gx

set_option maxRecDepth 100000
set_option maxHeartbeats 4000000
namespace Kl
open PySem PySem.Spec PyProof.Rows L2 Gx Mx
theorem ix_tupK {X : Cx} {K : PySem.W.Frag} (hk : X.K = K) : IxR X (rIxT K) := by
  subst hk
  exact ix_tup
/-! ### data of a page -/
abbrev pgs (g : Pg) : List PyData := [.str g.note, .tuple (tD g.pool), .tuple (tD g.made), .str g.after]
abbrev pgD (g : Pg) : PyData := .tuple (pgs g)
theorem PartsAt.dp {K : PySem.W.Frag} {H : Hp} {t : Addr} {g : Pg} (h : PartsAt K H t g) : Dp K H (.ref t) (pgD g) := by
  obtain ⟨pp, mp, et, ep, em⟩ := h
  exact .tup et (.cons (.str _) (.cons (.tup ep (dp_texts _)) (.cons (.tup em (dp_texts _)) (.cons (.str _) .nil))))
theorem name_sm {z : Str} (h : nameB z = true) : Sm 200 2 (.str z) := .str (names_low h) (Nat.le_trans (name_len h) (by decide))
theorem good_sm {m : Nat} {q : List Str} (h : goodM m q = true) (hm : m ≤ 20) : Sm 200 2 (.tuple (tD q)) :=
  (sm_texts (B := 8) (n := 20) (fun z hz => ⟨good_ok h z hz, name_len (good_names h z hz)⟩) (Nat.le_trans (good_len h) hm)).up (by decide) (by decide)
theorem pgs_sm {g : Pg} (h : PgOk g) : ∀ e ∈ pgs g, Sm 200 2 e := sm_cons (name_sm h.n) (sm_cons (good_sm h.p (by decide)) (sm_cons (good_sm h.m (by decide)) (sm_cons (name_sm h.a) sm_nil)))
theorem pgD_sm {g : Pg} (h : PgOk g) : Sm 2000 3 (pgD g) := .tup (n := 4) (pgs_sm h) (by show 4 ≤ 4; decide) (by decide) (by decide)
theorem pgL_sm {g : Pg} (h : PgOk g) : Sm 2000 3 (.list (pgs g)) := .lst (n := 4) (pgs_sm h) (by show 4 ≤ 4; decide) (by decide) (by decide)
theorem eqv_pg (g g' : Pg) : PyData.eqv (pgD g) (pgD g') = decide (g = g') := by
  obtain ⟨a, b, c, e⟩ := g
  obtain ⟨a', b', c', e'⟩ := g'
  simp only [PyData.eqv, PyData.eqvAll, eqv_texts, Bool.and_true]
  rw [Bool.eq_iff_iff]
  simp only [Bool.and_eq_true, decide_eq_true_eq, beq_iff_eq, Pg.mk.injEq]
section
variable {P : Program} {w : World} {K : PySem.W.Frag} {mg : Str → Option Value} {base : Heap}
theorem asc_line {g : Pg} (h : PgOk g) : Asc (lineP g) := fun c hc => by
  unfold lineP at hc
  rw [TL.join_eq] at hc
  rcases of_join hc with hc | ⟨w, hw, hc⟩
  · have : ∀ c ∈ (" " : Str).cps.toList, c < 128 := by decide +kernel
    exact this c hc
  · simp only [wordsP, List.mem_cons, List.not_mem_nil, or_false] at hw
    have k1 : ∀ c ∈ ("page" : Str).cps.toList, c < 128 := by decide +kernel
    have k2 : ∀ c ∈ ("to" : Str).cps.toList, c < 128 := by decide +kernel
    have k3 : ∀ c ∈ ("then" : Str).cps.toList, c < 128 := by decide +kernel
    rcases hw with rfl | rfl | rfl | rfl | rfl | rfl | rfl
    · exact k1 c hc
    · have := low_no h.n hc
      omega
    · have := textD_no (good_names h.p) c hc
      omega
    · exact k2 c hc
    · have := textD_no (good_names h.m) c hc
      omega
    · exact k3 c hc
    · have := low_no h.a hc
      omega
theorem no_ne13 {z : Str} {Q R : Prop} (r : R) : if (!decide (V.str z = V.str z)) = true then Q else R := by
  rw [decide_eq_true rfl, if_neg (by decide)]
  exact r
/-- what stands while the law goes on -/
structure Rc (K : PySem.W.Frag) (C : Addr) (H : Hp) (d t t2 x : Addr) (g g2 : Pg) (G : Hp) : Prop where
  p1 : PartsAt K G t g
  p2 : PartsAt K G t2 g2
  pg : PageAt K C G x g
  sx : SameX d H G
  hd : DiceAt G d
theorem PartsAt.sx {G G' : Hp} {d t : Addr} {g : Pg} (h : PartsAt K G t g) (hd : DiceAt G d) (s : SameX d G G') : PartsAt K G' t g := by
  obtain ⟨pp, mp, a, b, c⟩ := h
  exact ⟨pp, mp, sqT_sx hd s a, sqT_sx hd s b, sqT_sx hd s c⟩
theorem PageAt.sx {C : Addr} {G G' : Hp} {d x : Addr} {g : Pg} (h : PageAt K C G x g) (hd : DiceAt G d) (s : SameX d G G') : PageAt K C G' x g := by
  obtain ⟨dx, pp, mp, a, b, c⟩ := h
  exact ⟨dx, pp, mp, ins_sx hd s a, sqT_sx hd s b, sqT_sx hd s c⟩
theorem Rc.step {C : Addr} {H : Hp} {d t t2 x : Addr} {g g2 : Pg} {G G' : Hp} (h : Rc K C H d t t2 x g g2 G) (s : SameX d G G') (hd : DiceAt G' d) : Rc K C H d t t2 x g g2 G' :=
  ⟨h.p1.sx h.hd s, h.p2.sx h.hd s, h.pg.sx h.hd s, h.sx.trans s, hd⟩
theorem Rc.sm {C : Addr} {H : Hp} {d t t2 x : Addr} {g g2 : Pg} {G G' : Hp} (h : Rc K C H d t t2 x g g2 G) (s : Same G G') : Rc K C H d t t2 x g g2 G' := h.step (SameX.of s) (dice_sm s h.hd)
abbrev NRG : List Str := ["_law_dice_here", "_law_parts", "_law_other", "_law_line", "_law_page", "_law_mixed", "_law_turn", "_law_bent_here", "_law_due", "_law_at"]
/-! ### _law_right -/
def spRG : Sp := fun vs H Q _ => ∃ d : Addr, vs = [V.ref d] ∧ DiceAt H d ∧ ∀ H', SameX d H H' → DiceAt H' d → Q (.bl true) H'
theorem ok_rg {C CP fI f : Addr} {fd fdI : FuncData} (F : Fun K "_law_right" "_law_right" s_law_right f fd) (T : Top K mg) (TC : Cl_Page K mg C) (TX : XT_ParseError K mg CP fI) (FX : Fun K "__init__" "ParseError.__init__" s_ParseError_init fI fdI) :
    FnG P w K mg base CX0 9 f fd ["_law_dice_here"] spRG := by
  have cr : Cal P w K mg base 8 "_law_roll" ["_law_dice_here", "_law_total"] spRoll := (T.d_law_roll.cal fun f fd F => ok_roll F T).mono (by decide)
  have cp : Cal P w K mg base 8 "_law_pick" ["_law_dice_here", "_law_items"] (spPick K) := (T.d_law_pick.cal fun f fd F => ok_pick F T).mono (by decide)
  have cdp : Cal P w K mg base 8 "_law_drawn_page" ["_law_dice_here"] (spDP K) := (T.d_law_drawn_page.cal fun f fd F => ok_dp F T).mono (by decide)
  have clo : Cal P w K mg base 8 "_law_line_of" ["_law_parts"] (spLO K) := (T.d_law_line_of.cal fun f fd F => ok_lo F T).mono (by decide)
  have cb : Cal P w K mg base 8 "_law_bent" ["_law_dice_here", "_law_line"] spBent := (T.d_law_bent.cal fun f fd F => ok_bent F T).mono (by decide)
  have cpi : Cal P w K mg base 8 "_law_page_in" ["_law_line"] (spPI K) := (T.d_law_page_in.cal fun f fd F => ok_pi F T).mono (by decide)
  have crd : CalG P w K mg base 8 "_law_read" ["_law_line"] (spRead K) := T.d_law_read.calG fun f fd F => ok_read F T TC TX FX
  have kI : CalI P w K mg base C 7 ["self", "note", "pool", "made", "after"] (spPInit K C) := by
    obtain ⟨f, fd, m, F, b⟩ := TC.made
    exact ⟨f, fd, m, (ok_pinit F T TC).mono (by decide), b⟩
  have cf : CalQ P w K mg base C "from_line" 7 ["cls", "line"] (spFL K C CP) := TC.k_from_line.cal fun f fd F => ok_fl F T TC TX FX
  have c1 : CalP P w K mg base C "note" 1 (spPNote K C) := TC.p_note.cal fun f fd F => ok_pnote F TC
  have c2 : CalP P w K mg base C "pool" 1 (spPPool K C) := TC.p_pool.cal fun f fd F => ok_ppool F TC
  have c3 : CalP P w K mg base C "made" 1 (spPMade K C) := TC.p_made.cal fun f fd F => ok_pmade F TC
  have c4 : CalP P w K mg base C "after" 1 (spPAfter K C) := TC.p_after.cal fun f fd F => ok_pafter F TC
  have c5 : CalP P w K mg base C "place" 1 (spPPlace K C) := TC.p_place.cal fun f fd F => ok_pplace F TC
  have c6 : CalP P w K mg base C "line" 2 (spPLine K C) := TC.p_line.cal fun f fd F => ok_pline F T TC
  have kEq : CalM P w K mg base C "__eq__" 3 ["self", "other"] (spPEq K C) := TC.m_eq.cal fun f fd F => ok_peq F T TC
  have kLen : CalM P w K mg base C "__len__" 1 ["self"] (spPLen K C) := TC.m_len.cal fun f fd F => ok_plen F T TC
  have kStr : CalM P w K mg base C "__str__" 4 ["self"] (spPStr K C) := TC.m_str.cal fun f fd F => ok_pstr F T TC
  refine okG F sc_law_right (fun vs H Q E h => ?_) (fun cdv A outer s H vs Q E hg hr h => ?_)
  · obtain ⟨d, rfl, _⟩ := h
    rfl
  · obtain ⟨d, rfl, hd, q⟩ := h
    refine ⟨_, pss_cut (ps_asg (pe_tup (pa_cons (pe_cal cdp hr (by rfl) (pa_cons (pv 0) pa_nil)) (pa_cons (pe_cal cdp hr (by rfl) (pa_cons (pv 0) pa_nil)) pa_nil))) (pg_tup (n := 2) rfl (pgs_cons (pg_name (i := 1) sc_law_right.nd rfl (.inr rfl)) (pgs_cons (pg_name (i := 2) sc_law_right.nd rfl (.inr rfl)) pgs_nil))))
      (pss_cut (ps_par (i := 3) (j := 4) rfl sc_law_right.nd rfl rfl (by decide) rfl rfl (pa_cons (pe_cal clo hr (by rfl) (pa_cons (pv 1) pa_nil)) (pa_cons (pe_makeC kI hr (by rfl) TC.gC (pa_cons (pe_ix ix_tup (pv 1) pe_int (fun _ _ => rfl)) (pa_cons (pe_ix ix_tup (pv 1) pe_int (fun _ _ => rfl)) (pa_cons (pe_ix ix_tup (pv 1) pe_int (fun _ _ => rfl)) (pa_cons (pe_ix ix_tup (pv 1) pe_int (fun _ _ => rfl)) pa_nil))))) pa_nil)) (by kernel_rfl))
      (pss_cut (ps_if (PW.pt (pw_or (pt_cmpR op_ne (pe_callB (call_reprE hg hr.units) (by rfl) T.b_repr (by decide +kernel) (pa_cons (pe_lst (pa_cons (pe_propC (pv 4) TC.cl c1 (hr.mono (by decide)) rfl) (pa_cons (pe_propC (pv 4) TC.cl c2 (hr.mono (by decide)) rfl) (pa_cons (pe_propC (pv 4) TC.cl c3 (hr.mono (by decide)) rfl) (pa_cons (pe_propC (pv 4) TC.cl c4 (hr.mono (by decide)) rfl) pa_nil))))) pa_nil))
            (pe_callB (call_reprE hg hr.units) (by rfl) T.b_repr (by decide +kernel) (pa_cons (pe_callTy call_list_of (by rfl) T.b_list (by decide +kernel) (pa_cons (pv 1) pa_nil)) pa_nil)) (by rfl))
          (pw_or1 (pt_cmpR (op_neD hr.units) (pe_propC (pv 4) TC.cl c5 (hr.mono (by decide)) rfl) (pe_slice sl_tupS (pv 1) po_none (po_some pe_int)) (by rfl))))) (pss_one (ps_ret pe_bl)) pss_nil)
      (pss_cut (ps_if (PW.pt (pw_or (pt_cmpR op_ne (pe_propC (pv 4) TC.cl c6 (hr.mono (by decide)) rfl) (pv 3) (by rfl)) (pw_or (pt_cmpR op_ne (pe_callTy (call_strM kStr (hr.mono (by decide))) (by rfl) T.b_str (by decide +kernel) (pa_cons (pv 4) pa_nil)) (pv 3) (by rfl))
          (pw_or (pt_cmpR op_ne (pe_callB (call_lenM kLen (hr.mono (by decide))) (by rfl) T.b_len PySem.boot_len (pa_cons (pv 4) pa_nil)) (pe_callB call_len_seq (by rfl) T.b_len PySem.boot_len (pa_cons (pe_ix ix_tup (pv 1) pe_int (fun _ _ => rfl)) pa_nil)) (by rfl))
          (pw_or1 (pt_cmpR (op_neM kEq TC.ne TC.ob (hr.mono (by decide))) (pe_cmX (E := fun _ => E0) (pe_glob (v := .ref C) (by rfl) TC.gC rfl) cf (hr.mono (by decide)) (fun σ => neverAt σ) (pa_cons (pv 3) pa_nil)) (pv 4) (by rfl))))))) (pss_one (ps_ret pe_bl)) pss_nil)
      (pss_cut (ps_set (i := 5) sc_law_right.nd rfl (.inl rfl) (pe_callTy call_tuple_of (by rfl) T.b_tuple (by decide +kernel) (pa_cons (pe_lc (own := [("_law_at", 9)]) (g := gName 9) (tt := tYes) rfl sc_law_right.nd (pi_range1 (by rfl) T.b_range (pa_cons pe_int pa_nil))
          (blkOk_by (N := NRG) (sc := defScope s_law_right) (by decide +kernel)) (fun _ _ _ _ _ => pg_name (i := 9) sc_law_right.nd rfl (.inl rfl)) (fun _ _ _ _ _ => pts_nil)
          (fun _ _ _ _ _ => pe_ix (ix_tupK (K := K) (by exact rfl)) (pe_cal cp hr (by rfl) (pa_cons (pv 0) (pa_cons (pe_lst (pa_cons (pv 1) (pa_cons (pv 1) (pa_cons (pv 2) pa_nil)))) pa_nil))) (pv 9) (fun _ _ => rfl))) pa_nil)))
      (pss_cut (ps_if (PW.pt (pw_or (pt_cmpR op_ne (pe_cmpR (op_eqM kEq (hr.mono (by decide))) (pv 4) (pe_makeC kI hr (by rfl) TC.gC (pa_cons (pe_ix ix_tup (pv 5) pe_int (fun _ _ => rfl)) (pa_cons (pe_ix ix_tup (pv 5) pe_int (fun _ _ => rfl)) (pa_cons (pe_ix ix_tup (pv 5) pe_int (fun _ _ => rfl)) (pa_cons (pe_ix ix_tup (pv 5) pe_int (fun _ _ => rfl)) pa_nil))))) (by rfl))
            (pe_cmpR (op_eqD hr.units) (pv 5) (pv 1) (by rfl)) (by rfl))
          (pw_or (pt_cmpR (op_eqMS kEq (hr.mono (by decide))) (pv 4) (pv 3) (by rfl)) (pw_or1 (pt_cmpR (op_eqM kEq (hr.mono (by decide))) (pv 4) (pv 1) (by rfl)))))) (pss_one (ps_ret pe_bl)) pss_nil)
      (pss_cut (ps_for PassesOwn.never rfl (pi_range1 (by rfl) T.b_range (pa_cons pe_int pa_nil)) (pg_name (i := 6) sc_law_right.nd rfl (.inl rfl))
        (pss_cut (ps_set (i := 7) sc_law_right.nd rfl (.inl rfl) (pe_cal cb hr (by rfl) (pa_cons (pv 0) (pa_cons (pv 3) pa_nil))))
        (pss_cut (ps_set (i := 7) sc_law_right.nd rfl (.inl rfl) (pe_ifExp (pt_cmpR op_eq (pe_cal cr hr (by rfl) (pa_cons (pv 0) (pa_cons pe_int pa_nil))) pe_int (by rfl)) (pv 7) (pe_cal cb hr (by rfl) (pa_cons (pv 0) (pa_cons (pv 7) pa_nil)))))
        (pss_cut (ps_set (i := 8) sc_law_right.nd rfl (.inl rfl) (pe_cal cpi hr (by rfl) (pa_cons (pv 7) pa_nil)))
        (pss_one (ps_if (pt_cmpR (op_neD hr.units) (pe_calG crd hg hr (by rfl) (pa_cons (pv 7) pa_nil)) (pe_ifExp (pt_cmpR op_isN (pv 8) pe_non (nomark _)) pe_str (pv 8)) (by rfl)) (pss_one (ps_ret pe_bl)) pss_nil))))))
      (pss_one (ps_ret pe_bl)))))))), ?_⟩
    have big : 10000 ≤ sizeLine := by decide
    refine ⟨fun σ' G => ∃ (t t2 : Addr) (g g2 : Pg), σ' = [some (.ref d), some (.ref t), some (.ref t2), none, none, none, none, none, none, none] ∧ PgOk g ∧ PgOk g2 ∧ PartsAt K G t g ∧ PartsAt K G t2 g2 ∧ SameX d H G ∧ DiceAt G d, ?_, ?_⟩
    · refine ⟨_, rfl, d, rfl, hd, fun t g G1 sx1 hd1 hg1 hp1 => ?_⟩
      refine ⟨_, rfl, d, rfl, hd1, fun t2 g2 G2 sx2 hd2 hg2 hp2 => ?_⟩
      refine ⟨by show 2 ≤ sizeLine; omega, fun tp ntp => ⟨tp, _, rfl, .inl (.inl upd_same), rfl, _, _, rfl, _, _, rfl, rfl, ?_⟩⟩
      have s3 := same_new (o := .tup [.ref t, .ref t2]) (Same.refl G2) ntp
      exact ⟨t, t2, g, g2, rfl, hg1.ok, hg2.ok, (hp1.sx hd1 sx2).same s3, hp2.same s3, (sx1.trans sx2).trans (SameX.of s3), dice_sm s3 hd2⟩
    rintro σ' G0 ⟨t, t2, g, g2, rfl, hok, hok2, hp1, hp2, sx0, hd0⟩
    -- its line, the page
    refine ⟨fun σ' G => ∃ x : Addr, σ' = [some (.ref d), some (.ref t), some (.ref t2), some (.str (lineP g)), some (.ref x), none, none, none, none, none] ∧ Rc K C H d t t2 x g g2 G, ?_, ?_⟩
    · refine ⟨_, rfl, t, g, rfl, hp1, hok, fun G1 s1 => ?_⟩
      obtain ⟨pp, mp, et, ep, em⟩ := hp1.same s1
      refine ⟨_, rfl, t, _, _, .str g.note, rfl, rfl, et, rfl, _, rfl, t, _, _, .ref pp, rfl, rfl, et, rfl, _, rfl, t, _, _, .ref mp, rfl, rfl, et, rfl, _, rfl, t, _, _, .str g.after, rfl, rfl, et, rfl, fun x dx nx ndx nxx => ?_⟩
      have s2 := mk_same nx ndx (o1 := .own x) (o2 := .ins C dx [])
      refine ⟨x, dx, pp, mp, g, rfl, upd_same, sqT_st s2 ep, sqT_st s2 em, hok, fun H2 hPg keep => ⟨rfl, ?_⟩⟩
      have s3 : Same G0 H2 := fun b o e => keep b o (ne_of_none (s1 _ _ e) nx) (s2 b o (s1 _ _ e))
      exact ⟨_, _, rfl, x, rfl, hp1.same s3, hp2.same s3, hPg, sx0.trans (SameX.of s3), dice_sm s3 hd0⟩
    rintro σ' G1 ⟨x, rfl, c1⟩
    clear hp1 hp2 sx0 hd0
    -- its parts, its place
    refine ⟨fun σ' G => σ' = [some (.ref d), some (.ref t), some (.ref t2), some (.str (lineP g)), some (.ref x), none, none, none, none, none] ∧ Rc K C H d t t2 x g g2 G, ?_, ?_⟩
    · obtain ⟨dx, pp0, mp0, hx, hpp, hmm⟩ := id c1.pg
      obtain ⟨pp, mp, et, ep, em⟩ := id c1.p1
      refine ⟨_, rfl, x, dx, _, rfl, hx, x, g, rfl, c1.pg, _, rfl, x, dx, _, rfl, hx, x, g, rfl, c1.pg, fun p2 h2 => ?_⟩
      refine ⟨_, rfl, x, dx, _, rfl, hx, x, g, rfl, c1.pg, fun p3 h3 => ?_⟩
      refine ⟨_, rfl, x, dx, _, rfl, hx, x, g, rfl, c1.pg, by show 4 ≤ sizeLine; omega, fun l nl => ?_⟩
      have s2 := same_new (o := .lst [.str g.note, .ref p2, .ref p3, .str g.after]) (Same.refl G1) nl
      have hl : Dp K (upd G1 l (.lst [.str g.note, .ref p2, .ref p3, .str g.after])) (.ref l) (.list (pgs g)) := .lst (.inl (.inl upd_same)) (.cons (.str _) (.cons (.tup (sqT_st s2 h2) (dp_texts _)) (.cons (.tup (sqT_st s2 h3) (dp_texts _)) (.cons (.str _) .nil))))
      generalize upd G1 l (.lst [.str g.note, .ref p2, .ref p3, .str g.after]) = G2 at s2 hl
      have rp := (pgL_sm hok).repr (by decide) (by decide)
      obtain ⟨S, hS⟩ : ∃ S, (PyData.list (pgs g)).shown = S := ⟨_, rfl⟩
      refine ⟨.ref l, _, S, rfl, hl, rp, hS, _, rfl, t, _, rfl, .inr (sqT_st s2 et), fun l2 nl2 => ?_⟩
      have s3 := same_new (o := .lst [.str g.note, .ref pp, .ref mp, .str g.after]) (Same.refl G2) nl2
      have s13 : Same G1 (upd G2 l2 (.lst [.str g.note, .ref pp, .ref mp, .str g.after])) := fun b o e => s3 _ _ (s2 _ _ e)
      have hl2 : Dp K (upd G2 l2 (.lst [.str g.note, .ref pp, .ref mp, .str g.after])) (.ref l2) (.list (pgs g)) := .lst (.inl (.inl upd_same)) (.cons (.str _) (.cons (.tup (sqT_st s13 ep) (dp_texts _)) (.cons (.tup (sqT_st s13 em) (dp_texts _)) (.cons (.str _) .nil))))
      generalize upd G2 l2 (.lst [.str g.note, .ref pp, .ref mp, .str g.after]) = G3 at s3 s13 hl2
      have c3 := c1.sm s13
      refine ⟨.ref l2, _, S, rfl, hl2, rp, hS, rfl, _, rfl, no_ne13 ?_⟩
      refine ⟨_, rfl, x, dx, _, rfl, s13 _ _ hx, x, g, rfl, c3.pg, fun tt q1 H4 s4 h4 h5 => ?_⟩
      refine ⟨_, rfl, _, rfl, t, _, rfl, sqT_st s4 (sqT_st s13 et), fun p5 G5 s5 e5 => ?_⟩
      have e5' : SqT K G5 p5 [.str g.note, .ref pp] := e5
      have s35 : Same G3 G5 := fun b o e => s5 _ _ (s4 _ _ e)
      refine ⟨.tuple [.str g.note, .tuple (tD g.pool)], .tuple [.str g.note, .tuple (tD g.pool)], .tup (sqT_st s5 h4) (.cons (.str _) (.cons (.tup (sqT_st s5 h5) (dp_texts _)) .nil)), .tup e5' (.cons (.str _) (.cons (.tup (sqT_st s35 (sqT_st s13 ep)) (dp_texts _)) .nil)), place_shaped hok, place_shaped hok, ?_⟩
      rw [eqv_place, decide_eq_true rfl, decide_eq_true rfl]
      refine ⟨_, rfl, ?_⟩
      show (if false = true then _ else _)
      rw [if_neg (by decide)]
      exact ⟨rfl, c3.sm s35⟩
    clear c1
    rintro σ' G1 ⟨rfl, c1⟩
    -- its line, its text, its length
    refine ⟨fun σ' G => σ' = [some (.ref d), some (.ref t), some (.ref t2), some (.str (lineP g)), some (.ref x), none, none, none, none, none] ∧ Rc K C H d t t2 x g g2 G, ?_, ?_⟩
    · obtain ⟨dx, pp0, mp0, hx, hpp, hmm⟩ := id c1.pg
      obtain ⟨pp, mp, et, ep, em⟩ := id c1.p1
      refine ⟨_, rfl, x, dx, _, rfl, hx, x, g, rfl, c1.pg, hok, _, rfl, rfl, _, rfl, no_ne13 ?_⟩
      refine ⟨_, rfl, x, dx, _, rfl, hx, x, g, rfl, c1.pg, hok, _, rfl, _, rfl, rfl, _, rfl, no_ne13 ?_⟩
      refine ⟨_, rfl, x, dx, _, rfl, hx, x, g, rfl, c1.pg, _, rfl, ?_, ?_⟩
      · have := good_len hok.m
        omega
      refine ⟨_, rfl, t, _, _, .ref mp, rfl, rfl, et, rfl, mp, _, rfl, .inr em, rfl, _, rfl, ?_⟩
      rw [List.length_map]
      show (if (!decide (V.int ((g.made.length : Nat) : Int) = V.int ((g.made.length : Nat) : Int))) = true then _ else _)
      rw [decide_eq_true rfl, if_neg (by decide)]
      refine ⟨rfl, _, rfl, lineP g, rfl, ?_, Nat.le_trans (line_len hok) (by decide), fun x' g' H' hp s' hP' => ?_, fun dd H' hp _ _ => ?_⟩
      · exact asc_line hok
      · rw [line_parse hok] at hp
        cases hp
        obtain ⟨dx', pp', mp', hx', hpp', hmm'⟩ := id hP'
        refine ⟨_, rfl, x', dx', _, .ref C, rfl, hx', .ins (s' _ _ hx), x', g, .ref x, rfl, hP', hok, .inl ⟨x, g, rfl, c1.pg.same s', hok, fun H2 s2 => ⟨_, rfl, ?_⟩⟩⟩
        rw [decide_eq_true rfl]
        refine ⟨_, rfl, ?_⟩
        show (if (!true) = true then _ else _)
        rw [if_neg (by decide)]
        exact ⟨rfl, (c1.sm s').sm s2⟩
      · rw [line_parse hok] at hp
        cases hp
    clear c1
    rintro σ' G1 ⟨rfl, c1⟩
    -- parts of both
    refine ⟨fun σ' G => ∃ (tm : Addr) (g3 : Pg), σ' = [some (.ref d), some (.ref t), some (.ref t2), some (.str (lineP g)), some (.ref x), some (.ref tm), none, none, none, none] ∧ Rc K C H d t t2 x g g2 G ∧ PartsAt K G tm g3 ∧ PgOk g3, ?_, ?_⟩
    · obtain ⟨pp, mp, et, ep, em⟩ := id c1.p1
      obtain ⟨pp2, mp2, et2, ep2, em2⟩ := id c1.p2
      refine ⟨_, rfl, by decide, by decide, fun D hD => ?_⟩
      have nDd := dice_ne c1.hd hD
      refine lc_range (lo := 0) (fun j H2 => ∃ vs : List V, H2 D = some (.lst vs) ∧ vs.length = j ∧ (∀ (i : Nat) v, vs[i]? = some v → [V.str g.note, .ref pp, .ref mp, .str g.after][i]? = some v ∨ [V.str g2.note, .ref pp2, .ref mp2, .str g2.after][i]? = some v) ∧ SameX d G1 H2 ∧ DiceAt H2 d)
        ⟨[], upd_same, rfl, nofun, (SameX.refl d G1).new hD, dice_upd c1.hd nDd⟩ (fun j H2 hj hP => ?_) (fun H2 hP => ?_)
      · obtain ⟨vs, eD, lv, hv, sx2, hd2⟩ := hP
        have hj4 : j < 4 := hj
        refine ⟨rfl, ?_⟩
        refine ⟨_, rfl, _, rfl, _, rfl, _, rfl, by show 3 ≤ sizeLine; omega, fun p np => ?_⟩
        have npd := dice_ne hd2 np
        refine ⟨d, .ref p, [.ref t, .ref t, .ref t2], rfl, dice_upd hd2 npd, .inl ⟨p, rfl, npd, .inl (.inl (.inl upd_same))⟩, by simp, by show 3 ≤ 100000; decide, fun v x b c hm => ?_⟩
        have nDp : D ≠ p := fun e => by rw [← e, eD] at np; cases np
        have sx3 : SameX d G1 (upd (upd H2 p (.lst [.ref t, .ref t, .ref t2])) d (.lst [.int x, .int b, .int c])) := (sx2.new np).atd
        have hd3 : DiceAt (upd (upd H2 p (.lst [.ref t, .ref t, .ref t2])) d (.lst [.int x, .int b, .int c])) d := dice_new x b c
        have eD3 : (upd (upd H2 p (.lst [.ref t, .ref t, .ref t2])) d (.lst [.int x, .int b, .int c])) D = some (.lst vs) := by rw [upd_ne nDd, upd_ne nDp]; exact eD
        generalize upd (upd H2 p (.lst [.ref t, .ref t, .ref t2])) d (.lst [.int x, .int b, .int c]) = H3 at sx3 hd3 eD3
        obtain ⟨tt, I, w, ev, hI, hw, hor⟩ : ∃ (tt : Addr) (I : List V) (w : V), v = .ref tt ∧ SqT K H3 tt I ∧ I[j]? = some w ∧ ([V.str g.note, .ref pp, .ref mp, .str g.after][j]? = some w ∨ [V.str g2.note, .ref pp2, .ref mp2, .str g2.after][j]? = some w) := by
          simp only [List.mem_cons, List.not_mem_nil, or_false] at hm
          rcases hm with rfl | rfl | rfl
          · exact ⟨t, _, _, rfl, sqT_sx c1.hd sx3 et, List.getElem?_eq_getElem hj4, .inl (List.getElem?_eq_getElem hj4)⟩
          · exact ⟨t, _, _, rfl, sqT_sx c1.hd sx3 et, List.getElem?_eq_getElem hj4, .inl (List.getElem?_eq_getElem hj4)⟩
          · exact ⟨t2, _, _, rfl, sqT_sx c1.hd sx3 et2, List.getElem?_eq_getElem hj4, .inr (List.getElem?_eq_getElem hj4)⟩
        subst ev
        refine ⟨_, rfl, tt, I, _, w, rfl, rfl, hI, ?_, vs, eD3, by omega, vs ++ [w], upd_same, by rw [List.length_append, lv]; rfl, fun i u hu => ?_, ?_, dice_upd hd3 nDd⟩
        · rw [Int.zero_add]
          exact atI_nat hw
        · by_cases ci : i < vs.length
          · rw [List.getElem?_append_left ci] at hu
            exact hv i u hu
          · rw [List.getElem?_append_right (by omega)] at hu
            have : i - vs.length = 0 := by
              rcases Nat.eq_zero_or_pos (i - vs.length) with h | h
              · exact h
              · rw [List.getElem?_eq_none (by rw [List.length_singleton]; omega)] at hu
                cases hu
            rw [this] at hu
            cases hu
            rw [show i = j by omega]
            exact hor
        · exact sx3.at hD
      · obtain ⟨vs, eD, lv, hv, sx2, hd2⟩ := hP
        refine ⟨D, _, rfl, .inl ⟨.inl (.inl eD), fun tm ntm => ?_⟩⟩
        have s3 := same_new (o := .tup vs) (Same.refl H2) ntm
        have etm : (upd H2 tm (.tup vs)) tm = some (.tup vs) := upd_same
        have hd3 := dice_upd (o := .tup vs) hd2 (dice_ne hd2 ntm)
        generalize upd H2 tm (.tup vs) = H3 at s3 etm hd3
        have sx3 := sx2.trans (SameX.of s3)
        obtain ⟨v0, v1, v2, v3, rfl⟩ : ∃ v0 v1 v2 v3, vs = [v0, v1, v2, v3] := by
          match vs, lv with
          | [v0, v1, v2, v3], _ => exact ⟨v0, v1, v2, v3, rfl⟩
        obtain ⟨n3, rfl, hn3⟩ : ∃ z, v0 = .str z ∧ nameB z = true := by
          rcases hv 0 v0 rfl with h | h <;> cases h
          · exact ⟨_, rfl, hok.n⟩
          · exact ⟨_, rfl, hok2.n⟩
        obtain ⟨p3, q3, rfl, hp3, hq3⟩ : ∃ p q, v1 = .ref p ∧ SqT K H3 p (q.map V.str) ∧ goodM 8 q = true := by
          rcases hv 1 v1 rfl with h | h <;> cases h
          · exact ⟨_, _, rfl, sqT_sx c1.hd sx3 ep, hok.p⟩
          · exact ⟨_, _, rfl, sqT_sx c1.hd sx3 ep2, hok2.p⟩
        obtain ⟨m3, r3, rfl, hm3, hr3⟩ : ∃ p q, v2 = .ref p ∧ SqT K H3 p (q.map V.str) ∧ goodM 2 q = true := by
          rcases hv 2 v2 rfl with h | h <;> cases h
          · exact ⟨_, _, rfl, sqT_sx c1.hd sx3 em, hok.m⟩
          · exact ⟨_, _, rfl, sqT_sx c1.hd sx3 em2, hok2.m⟩
        obtain ⟨a3, rfl, ha3⟩ : ∃ z, v3 = .str z ∧ nameB z = true := by
          rcases hv 3 v3 rfl with h | h <;> cases h
          · exact ⟨_, rfl, hok.a⟩
          · exact ⟨_, rfl, hok2.a⟩
        exact ⟨tm, ⟨n3, q3, r3, a3⟩, rfl, c1.step sx3 hd3, ⟨p3, m3, .inl (.inl etm), hp3, hm3⟩, ⟨hn3, hq3, hr3, ha3⟩⟩
    clear c1
    rintro σ' G1 ⟨tm, g3, rfl, c1, hp3, hok3⟩
    -- equal to a page, to a text, to a tuple
    refine ⟨fun σ' G => σ' = [some (.ref d), some (.ref t), some (.ref t2), some (.str (lineP g)), some (.ref x), some (.ref tm), none, none, none, none] ∧ Rc K C H d t t2 x g g2 G, ?_, ?_⟩
    · obtain ⟨dx, pp0, mp0, hx, hpp, hmm⟩ := id c1.pg
      obtain ⟨pp, mp, et, ep, em⟩ := id hp3
      refine ⟨_, rfl, _, rfl, tm, _, _, .str g3.note, rfl, rfl, et, rfl, _, rfl, tm, _, _, .ref pp, rfl, rfl, et, rfl, _, rfl, tm, _, _, .ref mp, rfl, rfl, et, rfl, _, rfl, tm, _, _, .str g3.after, rfl, rfl, et, rfl, fun x3 dx3 nx ndx nxx => ?_⟩
      have s2 := mk_same nx ndx (o1 := .own x3) (o2 := .ins C dx3 [])
      refine ⟨x3, dx3, pp, mp, g3, rfl, upd_same, sqT_st s2 ep, sqT_st s2 em, hok3, fun H2 hPg keep => ⟨rfl, ?_⟩⟩
      have s3 : Same G1 H2 := fun b o e => keep b o (ne_of_none e nx) (s2 b o e)
      have c2 := c1.sm s3
      obtain ⟨dx3', pp3, mp3, hx3, _, _⟩ := id hPg
      refine ⟨x, dx, _, .ref C, rfl, s3 _ _ hx, .ins hx3, x, g, .ref x3, rfl, c2.pg, hok, .inl ⟨x3, g3, rfl, hPg, hok3, fun H4 s4 => ⟨_, rfl, ?_⟩⟩⟩
      have c4 := c2.sm s4
      refine ⟨_, rfl, _, rfl, _, _, ((hp3.same s3).same s4).dp, c4.p1.dp, (pgD_sm hok3).shaped (by decide), (pgD_sm hok).shaped (by decide), ?_⟩
      rw [eqv_pg]
      refine ⟨rfl, _, rfl, ?_⟩
      rw [show decide (g = g3) = decide (g3 = g) from decide_eq_decide.mpr ⟨Eq.symm, Eq.symm⟩, decide_eq_true (rfl : V.bl (decide (g3 = g)) = V.bl (decide (g3 = g)))]
      show (if false = true then _ else _)
      rw [if_neg (by decide)]
      obtain ⟨dx4, pp4, mp4, hx4, _, _⟩ := id c4.pg
      refine ⟨_, rfl, _, rfl, x, dx4, _, lineP g, rfl, rfl, hx4, x, g, .str (lineP g), rfl, c4.pg, hok, .inr ⟨.type "str", .base (.str _), TC.kit_str, _, rfl, ?_⟩⟩
      refine ⟨_, rfl, ?_⟩
      show (if false = true then _ else _)
      rw [if_neg (by decide)]
      obtain ⟨pp5, mp5, et5, _, _⟩ := id c4.p1
      refine ⟨_, rfl, _, rfl, x, dx4, _, .type "tuple", rfl, hx4, .tup et5, x, g, .ref t, rfl, c4.pg, hok, .inr ⟨.type "tuple", tyx_sqT et5, TC.kitT, _, rfl, ?_⟩⟩
      refine ⟨_, rfl, ?_⟩
      show (if false = true then _ else _)
      rw [if_neg (by decide)]
      exact ⟨rfl, c4⟩
    clear c1
    rintro σ' G1 ⟨rfl, c1⟩
    -- lines near its line
    refine ⟨fun σ' G => (∃ y6 y7 y8 : Option V, σ' = [some (.ref d), some (.ref t), some (.ref t2), some (.str (lineP g)), some (.ref x), some (.ref tm), y6, y7, y8, none]) ∧ Rc K C H d t t2 x g g2 G, ?_, ?_⟩
    rotate_left
    · rintro σ' G ⟨_, c⟩
      exact q G c.sx c.hd
    refine ⟨_, rfl, by decide, by decide, ?_⟩
    refine for_range (lo := 0) (fun j σ' G => (∃ y6 y7 y8 : Option V, σ' = [some (.ref d), some (.ref t), some (.ref t2), some (.str (lineP g)), some (.ref x), some (.ref tm), y6, y7, y8, none]) ∧ Rc K C H d t t2 x g g2 G) ⟨⟨none, none, none, rfl⟩, c1⟩ (fun j σ' G _ hP => ?_) (fun σ' G hP => hP)
    clear c1
    obtain ⟨⟨y6, y7, y8, rfl⟩, c1⟩ := hP
    -- bent once
    refine ⟨fun σ' G' => ∃ (y6 : Option V) (z1 : Str), σ' = [some (.ref d), some (.ref t), some (.ref t2), some (.str (lineP g)), some (.ref x), some (.ref tm), y6, some (.str z1), y8, none] ∧ Tz 610 z1 ∧ Rc K C H d t t2 x g g2 G', ?_, ?_⟩
    · exact ⟨_, rfl, _, rfl, d, lineP g, 200, rfl, c1.hd, ⟨asc_line hok, line_len hok⟩, by decide, fun z1 H1 hz1 sx hd1 => ⟨_, z1, rfl, hz1, c1.step sx hd1⟩⟩
    clear c1 y6 y7
    rintro σ' G1 ⟨y6, z1, rfl, hz1, c1⟩
    -- .. or twice
    refine ⟨fun σ' G' => ∃ (z1 : Str), σ' = [some (.ref d), some (.ref t), some (.ref t2), some (.str (lineP g)), some (.ref x), some (.ref tm), y6, some (.str z1), y8, none] ∧ Tz 1840 z1 ∧ Rc K C H d t t2 x g g2 G', ?_, ?_⟩
    · refine ⟨_, rfl, d, 2, rfl, c1.hd, by decide, by decide, fun r x0 b c _ _ => ⟨rfl, _, rfl, ?_⟩⟩
      have c2 : Rc K C H d t t2 x g g2 (upd G1 d (.lst [.int x0, .int b, .int c])) := c1.step ((SameX.refl d G1).atd) (dice_new x0 b c)
      refine ite2 (fun _ => ?_) (fun _ => ?_)
      · exact ⟨_, rfl, z1, rfl, ⟨hz1.a, Nat.le_trans hz1.l (by decide)⟩, c2⟩
      · exact ⟨_, rfl, _, rfl, d, z1, 610, rfl, c2.hd, hz1, by decide, fun z' H' hz' sx hd' => ⟨z', rfl, hz', c2.step sx hd'⟩⟩
    clear c1 hz1 z1
    rintro σ' G1 ⟨z1, rfl, hz1, c1⟩
    have hz4 : z1.length ≤ 4000 := Nat.le_trans hz1.l (by decide)
    -- read by the law
    refine ⟨fun σ' G' => ∃ v8 : V, σ' = [some (.ref d), some (.ref t), some (.ref t2), some (.str (lineP g)), some (.ref x), some (.ref tm), y6, some (.str z1), some v8, none] ∧ Rc K C H d t t2 x g g2 G' ∧ ((∃ t' g', v8 = .ref t' ∧ parseP z1 = some g' ∧ PartsAt K G' t' g') ∨ (v8 = .non ∧ parseP z1 = none)), ?_, ?_⟩
    · refine ⟨_, rfl, z1, rfl, hz1.a, hz4, fun t' g' H' hp s' hP => ?_, fun H' hp s' => ?_⟩
      · exact ⟨_, rfl, c1.sm s', .inl ⟨t', g', rfl, hp, hP⟩⟩
      · exact ⟨_, rfl, c1.sm s', .inr ⟨rfl, hp⟩⟩
    clear c1
    rintro σ' G1 ⟨v8, rfl, c1, hv⟩
    refine ⟨_, rfl, z1, rfl, hz1.a, hz4, fun t3 g3 H' hp s' hP => ?_, fun H' hp s' => ?_⟩
    · rcases hv with ⟨t', g', rfl, hp', hP'⟩ | ⟨rfl, hp'⟩
      rotate_left
      · rw [hp] at hp'
        cases hp'
      rw [hp] at hp'
      cases hp'
      have hok3 := parse_ok hp
      refine ⟨_, rfl, rfl, _, rfl, ?_⟩
      show (if decide (V.ref t' = V.non) = true then _ else _)
      rw [decide_eq_false (fun h => nomatch h), if_neg (by decide)]
      refine ⟨_, rfl, _, _, hP.dp, (hP'.same s').dp, (pgD_sm hok3).shaped (by decide), (pgD_sm hok3).shaped (by decide), ?_⟩
      rw [eqv_pg, decide_eq_true rfl]
      refine ⟨_, rfl, ?_⟩
      show (if (!true) = true then _ else _)
      rw [if_neg (by decide)]
      exact ⟨⟨_, _, _, rfl⟩, c1.sm s'⟩
    · rcases hv with ⟨t', g', rfl, hp', hP'⟩ | ⟨rfl, hp'⟩
      · rw [hp] at hp'
        cases hp'
      refine ⟨_, rfl, rfl, _, rfl, ?_⟩
      show (if decide (V.non = V.non) = true then _ else _)
      rw [decide_eq_true rfl, if_pos rfl]
      refine ⟨.str "parse None", .str "parse None", .str _, .str _, by decide +kernel, by decide +kernel, ?_⟩
      rw [show PyData.eqv (.str "parse None") (.str "parse None") = true by decide +kernel]
      refine ⟨_, rfl, ?_⟩
      show (if (!true) = true then _ else _)
      rw [if_neg (by decide)]
      exact ⟨⟨_, _, _, rfl⟩, c1.sm s'⟩
end
end Kl

set_option maxRecDepth 100000
set_option maxHeartbeats 4000000
namespace Kl
open PySem PySem.Spec PyProof.Rows L2 Gx Mx
abbrev MK0 : Mak := [("a", ["a", "a"]), ("ab", ["a", "a", "b"]), ("b", ["ab", "ab"])]
theorem vld0 {leaf : Str} (h : leaf ∈ (["a", "ab", "b", "c"] : List Str)) : Vld leaf MK0 := by
  have hl : leaf ∈ POOL := by
    simp only [List.mem_cons, List.not_mem_nil, or_false] at h
    rcases h with rfl | rfl | rfl | rfl <;> decide +kernel
  refine ⟨hl, by decide +kernel, by decide +kernel, fun m hm => ?_, fun ns nd hs => ?_⟩
  · have : ∀ m ∈ MK0, sortedS m.2 = true ∧ 2 ≤ m.2.length ∧ m.2.length ≤ 3 ∧ ∀ p ∈ m.2, p ∈ keysOf MK0 := by decide +kernel
    obtain ⟨a, b, c, e⟩ := this m hm
    exact ⟨a, b, c, fun p hp => .inr (e p hp)⟩
  · refine Nat.le_trans (nodupL_len nd (ys := leaf :: keysOf MK0) fun z hz => ?_) (by show 4 ≤ 6; decide)
    rcases hs z hz with rfl | h
    · exact List.mem_cons_self
    · exact List.mem_cons_of_mem _ h
/-- one making more taken out -/
theorem left_one (r : List Str) (m : List Str) : leftM r [m] = if m = [] then none else takeAll r m := by
  show (if m = [] then none else (takeAll r m).bind fun r' => some r') = _
  split
  · rfl
  · cases takeAll r m <;> rfl
theorem left_step {r : List Str} {ms : List (List Str)} {j : Nat} {m : List Str} (h : ms[j]? = some m) : leftM r (ms.take (j + 1)) = (leftM r (ms.take j)).bind fun r' => if m = [] then none else takeAll r' m := by
  rw [take_sn h, left_app]
  cases leftM r (ms.take j) with
  | none => rfl
  | some r' => exact left_one r' m
theorem left_sub : ∀ (ms : List (List Str)) {r r' : List Str}, leftM r ms = some r' → r'.length ≤ r.length ∧ ∀ z ∈ r', z ∈ r
  | [], r, r', h => by cases h; exact ⟨Nat.le_refl _, fun _ h => h⟩
  | m :: ms, r, r', h => by
    have h : (if m = [] then none else (takeAll r m).bind fun r' => leftM r' ms) = some r' := h
    split at h
    · cases h
    · cases e : takeAll r m with
      | none => rw [e] at h; cases h
      | some r2 =>
        rw [e] at h
        have h : leftM r2 ms = some r' := h
        obtain ⟨a, b⟩ := take_len m e
        obtain ⟨a2, b2⟩ := left_sub ms h
        exact ⟨Nat.le_trans a2 a, fun z hz => b z (b2 z hz)⟩
/-- those that are no kinds -/
def forg (ns q : List Str) : List Str := q.filter fun z => !decide (z ∈ ns)
theorem forg_nil {ns q : List Str} : forg ns q = [] ↔ ∀ z ∈ q, z ∈ ns := by
  unfold forg
  rw [List.filter_eq_nil_iff]
  constructor
  · intro h z hz
    have := h z hz
    simpa using this
  · intro h z hz
    rw [decide_eq_true (h z hz)]
    decide
/-- what is due of a page -/
def dueO (ns : List Str) (g : Pg) (j : Nat) : Option (List Str) := if forg ns (g.pool ++ g.made) = [] then leftM g.pool ((partsM MK0 g).take j) else none
section
variable {P : Program} {w : World} {K : PySem.W.Frag} {mg : Str → Option Value} {base : Heap}
/-- what stands while the law goes on -/
structure Lc (CK : Addr) (H : Hp) (d mk kx md : Addr) (leaf : Str) (M : Mak) (ns : List Str) (G : Hp) : Prop where
  mm : Mkd G mk MK0
  ks : KindsAt CK G kx md leaf M ns
  sx : SameX d H G
  hd : DiceAt G d
theorem Lc.step {CK : Addr} {H : Hp} {d mk kx md : Addr} {leaf : Str} {M : Mak} {ns : List Str} {G G' : Hp} (h : Lc CK H d mk kx md leaf M ns G) (s : SameX d G G') (hd : DiceAt G' d) : Lc CK H d mk kx md leaf M ns G' :=
  ⟨h.mm.dice h.hd s, h.ks.dice h.hd s, h.sx.trans s, hd⟩
theorem Lc.sm {CK : Addr} {H : Hp} {d mk kx md : Addr} {leaf : Str} {M : Mak} {ns : List Str} {G G' : Hp} (h : Lc CK H d mk kx md leaf M ns G) (s : Same G G') : Lc CK H d mk kx md leaf M ns G' := h.step (SameX.of s) (dice_sm s h.hd)
/-- what is due -/
def DueL (K : PySem.W.Frag) (G : Hp) (v : V) (o : Option (List Str)) : Prop := (∃ p r, v = .ref p ∧ o = some r ∧ SqT K G p (r.map V.str)) ∨ (v = .non ∧ o = none)
theorem DueL.same {G G' : Hp} {v : V} {o : Option (List Str)} (h : DueL K G v o) (s : Same G G') : DueL K G' v o := by
  rcases h with ⟨p, r, a, b, c⟩ | h
  · exact .inl ⟨p, r, a, b, sqT_st s c⟩
  · exact .inr h
abbrev NLR : List Str := ["_law_dice_here", "_law_makings", "_law_kinds", "_law_turn", "_law_parts", "_law_foreign", "_law_due", "_law_name", "_law_told"]
/-! ### _law_left_right -/
theorem ok_lr {C CK Co f : Addr} {fd : FuncData} (F : Fun K "_law_left_right" "_law_left_right" s_law_left_right f fd) (T : Top K mg) (TC : Cl_Page K mg C) (TK : Cl_Kinds K mg CK) (XO : XPln K mg "InvalidOperation" "ValueError.__new__" "ValueError.__init__" [.type "ValueError", .type "Exception", .type "BaseException", .type "object"] Co) (XC : XCls K Co)
    (te : PySem.W.exmOne K (.ref Co) (.ref Co) = some true) : FnG P w K mg base CX0 9 f fd ["_law_dice_here"] spRG := by
  have cp : Cal P w K mg base 8 "_law_pick" ["_law_dice_here", "_law_items"] (spPick K) := (T.d_law_pick.cal fun f fd F => ok_pick F T).mono (by decide)
  have cdp : Cal P w K mg base 8 "_law_drawn_page" ["_law_dice_here"] (spDP K) := (T.d_law_drawn_page.cal fun f fd F => ok_dp F T).mono (by decide)
  have cwt : Cal P w K mg base 8 "_law_without" ["_law_pool", "_law_parts"] (spWo K) := (T.d_law_without.cal fun f fd F => ok_wt F T).mono (by decide)
  have cll : CalG P w K mg base 8 "_law_left" ["_law_kinds", "_law_page"] (spLL K C CK) := CalG.up (T.d_law_left.calG fun f fd F => ok_ll F T TC TK XO XC te) (by decide)
  have kI : CalI P w K mg base C 7 ["self", "note", "pool", "made", "after"] (spPInit K C) := by
    obtain ⟨f, fd, m, F, b⟩ := TC.made
    exact ⟨f, fd, m, (ok_pinit F T TC).mono (by decide), b⟩
  have kK : CalI P w K mg base CK 7 ["self", "leaf", "makings"] (spInit CK) := by
    obtain ⟨f, fd, m, F, b⟩ := TK.made
    exact ⟨f, fd, m, (ok_init F T TK).mono (by decide), b⟩
  have kHas : CalM P w K mg base CK "__contains__" 1 ["self", "value"] (spKHas K CK) := TK.m_contains.cal fun f fd F => ok_khas F T TK
  refine okG F sc_law_left_right (fun vs H Q E h => ?_) (fun cdv A outer s H vs Q E hg hr h => ?_)
  · obtain ⟨d, rfl, _⟩ := h
    rfl
  · obtain ⟨d, rfl, hd, q⟩ := h
    have hu := hu_of hr
    refine ⟨_, pss_cut (ps_set (i := 1) sc_law_left_right.nd rfl (.inl rfl) (pe_disp (pps_cons pe_str (pe_tupZ (pa_cons pe_str (pa_cons pe_str pa_nil))) (pps_cons pe_str (pe_tupZ (pa_cons pe_str (pa_cons pe_str (pa_cons pe_str pa_nil)))) (pps_cons pe_str (pe_tupZ (pa_cons pe_str (pa_cons pe_str pa_nil))) pps_nil))) rfl rfl (by decide) (by decide)))
      (pss_cut (ps_set (i := 2) sc_law_left_right.nd rfl (.inr rfl) (pe_makeC kK hr (by rfl) TK.gC (pa_cons (pe_cal cp hr (by rfl) (pa_cons (pv 0) (pa_cons (pe_lst (pa_cons pe_str (pa_cons pe_str (pa_cons pe_str (pa_cons pe_str pa_nil))))) pa_nil))) (pa_cons (pv 1) pa_nil))))
      (pss_cut (ps_for PassesOwn.never rfl (pi_range1 (by rfl) T.b_range (pa_cons pe_int pa_nil)) (pg_name (i := 3) sc_law_left_right.nd rfl (.inl rfl))
        (pss_cut (ps_set (i := 4) sc_law_left_right.nd rfl (.inl rfl) (pe_cal cdp hr (by rfl) (pa_cons (pv 0) pa_nil)))
        (pss_cut (ps_setLc (i := 5) (own := [("_law_name", 7)]) (g := gName 7) (by rfl) sc_law_left_right.nd rfl rfl (sw_true rfl rfl rfl (by decide +kernel)) (pi_tup (pe_op op_catS (pe_ix ix_tup (pv 4) pe_int (fun _ _ => rfl)) (pe_ix ix_tup (pv 4) pe_int (fun _ _ => rfl))))
            (blkOk_by (N := NLR) (sc := defScope s_law_left_right) (by decide +kernel)) (fun _ _ _ _ _ => pg_name (i := 7) sc_law_left_right.nd rfl (.inl rfl)) (fun _ _ _ _ _ => pts_one (pt_cmpR (op_notinM kHas (hr.mono (by decide))) (pv 7) (pv 2) (by rfl))) (fun _ _ _ _ _ => pv 7))
        (pss_cut (ps_set (i := 6) sc_law_left_right.nd rfl (.inl rfl) (pe_ifExp (pt_cmpR (op_eqD hr.units) (pv 5) (pe_lst pa_nil) (by rfl)) (pe_ix ix_tup (pv 4) pe_int (fun _ _ => rfl)) pe_non))
        (pss_cut (ps_for PassesOwn.never rfl (pi_tup (pe_ix ix_tup (pv 4) pe_int (fun _ _ => rfl))) (pg_name (i := 7) sc_law_left_right.nd rfl (.inl rfl))
          (pss_one (ps_set (i := 6) sc_law_left_right.nd rfl (.inl rfl) (pe_ifExp (PW.pt (pw_and (pt_cmpR op_notN (pv 6) pe_non (nomark _)) (pw_and1 (pt_cmp (pc_din hu (pv 7) (pv 1)))))) (pe_cal cwt hr (by rfl) (pa_cons (pv 6) (pa_cons (pe_dget hu (pv 1) (pv 7) (fun _ _ => rfl)) pa_nil))) pe_non))))
        (pss_cut (ps_set (i := 8) sc_law_left_right.nd rfl (.inl rfl) (pe_calG cll hg hr (by rfl) (pa_cons (pv 2) (pa_cons (pe_makeC kI hr (by rfl) TC.gC (pa_cons (pe_ix ix_tup (pv 4) pe_int (fun _ _ => rfl)) (pa_cons (pe_ix ix_tup (pv 4) pe_int (fun _ _ => rfl)) (pa_cons (pe_ix ix_tup (pv 4) pe_int (fun _ _ => rfl)) (pa_cons (pe_ix ix_tup (pv 4) pe_int (fun _ _ => rfl)) pa_nil))))) pa_nil))))
        (pss_one (ps_if (pt_cmpR (op_neD hr.units) (pv 8) (pe_ifExp (pt_cmpR op_isN (pv 6) pe_non (nomark _)) pe_str (pv 6)) (by rfl)) (pss_one (ps_ret pe_bl)) pss_nil))))))))
      (pss_one (ps_ret pe_bl)))), ?_⟩
    have big : 10000 ≤ sizeLine := by decide
    -- the makings
    refine ⟨fun σ' G => ∃ mk : Addr, σ' = [some (.ref d), some (.ref mk), none, none, none, none, none, none, none] ∧ Mkd G mk MK0 ∧ Same H G, ?_, ?_⟩
    · refine fun mk nmk => ⟨by decide, fun t1 H1 z1 n1 k1 => ⟨by show 3 ≤ sizeLine; omega, fun t2 H2 z2 n2 k2 => ⟨by decide, fun t3 H3 z3 n3 k3 => ?_⟩⟩⟩
      have s1 := same_k n1 k1
      have s2 := same_k n2 k2
      have s3 := same_k n3 k3
      have s13 : Same H1 H3 := fun b o e => s3 _ _ (s2 _ _ e)
      have s03 : Same (upd H mk (.dK [])) H3 := fun b o e => s13 _ _ (s1 _ _ e)
      refine ⟨s03 _ _ upd_same, [(Sum.inr "a", .ref t1), (Sum.inr "ab", .ref t2), (Sum.inr "b", .ref t3)], rfl, by show 3 ≤ 15; omega, ?_⟩
      rw [merge_nil (by show ([Sum.inr "a", Sum.inr "ab", Sum.inr "b"] : List Key).Nodup; decide +kernel)]
      obtain ⟨sA, hMk⟩ := disp_end (kvs := [((Sum.inr "a" : Key), V.ref t1), (Sum.inr "ab", .ref t2), (Sum.inr "b", .ref t3)]) (M := MK0) nmk s03 (.cons ⟨rfl, t1, rfl, z1.mono s13⟩ (.cons ⟨rfl, t2, rfl, z2.mono s3⟩ (.cons ⟨rfl, t3, rfl, z3⟩ .nil)))
      exact ⟨mk, rfl, hMk, sA⟩
    rintro σ' G0 ⟨mk, rfl, hMk, s0⟩
    have hd0 := dice_sm s0 hd
    -- the kinds
    refine ⟨fun σ' G => ∃ (kx md : Addr) (leaf : Str) (M : Mak) (ns : List Str), σ' = [some (.ref d), some (.ref mk), some (.ref kx), none, none, none, none, none, none] ∧ Lc CK H d mk kx md leaf M ns G ∧ (∀ z, lookM M z = lookM MK0 z) ∧ ∀ z ∈ ns, PyData.strOk z = true, ?_, ?_⟩
    · refine ⟨_, rfl, by show 4 ≤ sizeLine; omega, fun p np => ?_⟩
      have npd := dice_ne hd0 np
      refine ⟨d, .ref p, (["a", "ab", "b", "c"] : List Str).map V.str, rfl, dice_upd hd0 npd, .inl ⟨p, rfl, npd, .inl (.inl (.inl upd_same))⟩, by decide, by decide, fun v x b c hv => ?_⟩
      obtain ⟨leaf, hleaf, rfl⟩ := List.mem_map.mp hv
      have sx1 : SameX d G0 (upd (upd G0 p (.lst ((["a", "ab", "b", "c"] : List Str).map V.str))) d (.lst [.int x, .int b, .int c])) := ((SameX.of (same_new (Same.refl G0) np))).atd
      have hd1 : DiceAt (upd (upd G0 p (.lst ((["a", "ab", "b", "c"] : List Str).map V.str))) d (.lst [.int x, .int b, .int c])) d := dice_new x b c
      refine ⟨_, rfl, fun kx dx nx ndx nxx => ?_⟩
      refine init_by (hMk.dice hd0 sx1) (vld0 hleaf) nx ndx fun G2 md M ns hK hO hN s2 => ⟨rfl, ?_⟩
      refine ⟨kx, md, leaf, M, ns, rfl, ⟨(hMk.dice hd0 sx1).same s2, hK, ((SameX.of s0).trans sx1).trans (SameX.of s2), dice_sm s2 hd1⟩, hO.look, fun z hz => ?_⟩
      rcases (hN.mem z).mp hz with rfl | h
      · exact names_low (pool_name (vld0 hleaf).lf)
      · exact names_low (pool_name ((vld0 hleaf).keys z h))
    clear hMk s0 hd0
    rintro σ' G0 ⟨kx, md, leaf, M, ns, rfl, c0, hlook, stN⟩
    refine ⟨fun σ' G => (∃ y3 y4 y5 y6 y7 y8 : Option V, σ' = [some (.ref d), some (.ref mk), some (.ref kx), y3, y4, y5, y6, y7, y8]) ∧ Lc CK H d mk kx md leaf M ns G, ?_, ?_⟩
    rotate_left
    · rintro σ' G ⟨_, c⟩
      exact q G c.sx c.hd
    refine ⟨_, rfl, by decide, by decide, ?_⟩
    refine for_range (lo := 0) (fun j σ' G => (∃ y3 y4 y5 y6 y7 y8 : Option V, σ' = [some (.ref d), some (.ref mk), some (.ref kx), y3, y4, y5, y6, y7, y8]) ∧ Lc CK H d mk kx md leaf M ns G) ⟨⟨_, _, _, _, _, _, rfl⟩, c0⟩ (fun j σ' G _ hP => ?_) (fun σ' G hP => hP)
    clear c0
    obtain ⟨⟨y3, y4, y5, y6, y7, y8, rfl⟩, c0⟩ := hP
    -- a page
    refine ⟨fun σ' G' => ∃ (y3 : Option V) (t : Addr) (g : Pg), σ' = [some (.ref d), some (.ref mk), some (.ref kx), y3, some (.ref t), y5, y6, y7, y8] ∧ Lc CK H d mk kx md leaf M ns G' ∧ PgOk g ∧ PartsAt K G' t g, ?_, ?_⟩
    · exact ⟨_, rfl, d, rfl, c0.hd, fun t g G1 sx1 hd1 hg1 hp1 => ⟨_, t, g, rfl, c0.step sx1 hd1, hg1.ok, hp1⟩⟩
    clear c0 y3 y4
    rintro σ' G0 ⟨y3, t, g, rfl, c0, hok, hp0⟩
    have okG : g.pool.length ≤ 8 ∧ g.made.length ≤ 2 := ⟨good_len hok.p, good_len hok.m⟩
    have stG : ∀ z ∈ g.pool ++ g.made, PyData.strOk z = true := fun z hz => by
      rcases List.mem_append.mp hz with h | h
      · exact names_low (good_names hok.p z h)
      · exact names_low (good_names hok.m z h)
    -- what is foreign
    refine ⟨fun σ' G' => ∃ fl : Addr, σ' = [some (.ref d), some (.ref mk), some (.ref kx), y3, some (.ref t), some (.ref fl), y6, y7, y8] ∧ Lc CK H d mk kx md leaf M ns G' ∧ PartsAt K G' t g ∧ G' fl = some (.lst ((forg ns (g.pool ++ g.made)).map V.str)), ?_, ?_⟩
    · obtain ⟨pp, mp, et, ep, em⟩ := id hp0
      refine ⟨_, rfl, t, _, _, .ref pp, rfl, rfl, et, rfl, _, rfl, t, _, _, .ref mp, rfl, rfl, et, rfl, pp, mp, _, _, rfl, rfl, ep, em, by rw [List.length_map, List.length_map]; omega, fun p2 G2 s2 e2 => ?_⟩
      rw [← List.map_append] at e2
      have c2 := c0.sm s2
      have hp2 := hp0.same s2
      have lq : (g.pool ++ g.made).length ≤ 10 := by rw [List.length_append]; omega
      generalize g.pool ++ g.made = qs at e2 stG lq
      refine ⟨p2, rfl, ⟨_, e2⟩, fun D hD => ?_⟩
      refine lc_it (g := gName 7) (vs := [7]) (walk_tup (K := K) (a := p2) (xs := qs.map V.str)) (fun j G' => G' D = some (.lst ((forg ns (qs.take j)).map V.str)) ∧ Same G2 G')
        ⟨upd_same, same_new (Same.refl G2) hD⟩ (fun j G' _ h => sqT_st h.2 e2) (fun j u Gx G' hj h hy => ?_) (fun G' h => ?_)
      · obtain ⟨eD, sm⟩ := h
        obtain ⟨rfl, hu2⟩ := hy
        obtain ⟨z, hz, rfl⟩ := at_texts hu2
        have hKg := c2.ks.same sm
        obtain ⟨dk, nt, kvs, hk, hk2⟩ := id hKg
        refine ⟨rfl, _, rfl, _, rfl, kx, dk, _, rfl, hk, kx, md, leaf, M, ns, .str z, rfl, hKg, stN, .inl ⟨.str z, .str _, stG z (List.mem_of_getElem? hz), by show 0 ≤ 10; omega, _, rfl, ?_⟩⟩
        rw [any_mem]
        have ef : forg ns (qs.take (j + 1)) = forg ns (qs.take j) ++ (if z ∈ ns then [] else [z]) := by
          unfold forg
          rw [take_sn hz, List.filter_append]
          congr 1
          rw [List.filter_cons, List.filter_nil]
          by_cases c : z ∈ ns
          · rw [decide_eq_true c, if_neg (by decide), if_pos c]
          · rw [decide_eq_false c, if_pos (by decide), if_neg c]
        rw [ef]
        refine ⟨_, rfl, ?_⟩
        by_cases c : z ∈ ns
        · rw [decide_eq_true c, if_pos c, List.append_nil]
          show (if (!true) = true then _ else _)
          rw [if_neg (by decide)]
          exact ⟨eD, sm⟩
        · rw [decide_eq_false c, if_neg c]
          show (if (!false) = true then _ else _)
          rw [if_pos (by decide)]
          refine ⟨_, rfl, _, eD, ?_, ?_, fun b o e => by rw [upd_ne (ne_of_none e hD)]; exact sm b o e⟩
          · rw [List.length_map]
            have : (forg ns (qs.take j)).length ≤ j := by
              unfold forg
              exact Nat.le_trans (List.length_filter_le _ _) (by rw [List.length_take]; omega)
            rw [List.length_map] at hj
            omega
          · rw [upd_same, List.map_append]
            rfl
      · obtain ⟨eD, sm⟩ := h
        rw [List.length_map, List.take_length] at eD
        exact ⟨D, rfl, c2.sm sm, hp2.same sm, eD⟩
    clear c0 hp0 y5
    rintro σ' G0 ⟨fl, rfl, c0, hp0, efl⟩
    -- what is due at first
    refine ⟨fun σ' G' => ∃ v6 : V, σ' = [some (.ref d), some (.ref mk), some (.ref kx), y3, some (.ref t), some (.ref fl), some v6, y7, y8] ∧ Lc CK H d mk kx md leaf M ns G' ∧ PartsAt K G' t g ∧ DueL K G' v6 (dueO ns g 0), ?_, ?_⟩
    · have s1 : ∀ e, G0 e = none → Same G0 (upd G0 e (.lst [])) := fun e ne => same_new (Same.refl G0) ne
      refine ⟨_, rfl, Nat.zero_le _, fun e ne => ?_⟩
      have s1 := s1 e ne
      have okF : ∀ z ∈ forg ns (g.pool ++ g.made), PyData.strOk z = true := fun z hz => by
        unfold forg at hz
        exact stG z (List.mem_filter.mp hz).1
      refine ⟨.list (tD (forg ns (g.pool ++ g.made))), .list (tD []), .lst (.inl (.inl (s1 _ _ efl))) (dp_texts _), .lst (.inl (.inl upd_same)) (dp_texts []), shaped_texts okF, shaped_texts nofun, ?_⟩
      rw [PyData.eqv, eqv_texts]
      refine ⟨_, rfl, ?_⟩
      by_cases c : forg ns (g.pool ++ g.made) = []
      · rw [decide_eq_true c]
        show (if true = true then _ else _)
        rw [if_pos rfl]
        obtain ⟨pp, mp, et, ep, em⟩ := id (hp0.same s1)
        exact ⟨_, rfl, t, _, _, .ref pp, rfl, rfl, et, rfl, .ref pp, rfl, c0.sm s1, hp0.same s1, .inl ⟨pp, g.pool, rfl, by unfold dueO; rw [if_pos c]; rfl, ep⟩⟩
      · rw [decide_eq_false c]
        show (if false = true then _ else _)
        rw [if_neg (by decide)]
        exact ⟨.non, rfl, c0.sm s1, hp0.same s1, .inr ⟨rfl, by unfold dueO; rw [if_neg c]⟩⟩
    clear c0 hp0 efl y6
    rintro σ' G0 ⟨v6, rfl, c0, hp0, hv6⟩
    -- what is due
    refine ⟨fun σ' G' => ∃ (v6 : V) (y7 : Option V), σ' = [some (.ref d), some (.ref mk), some (.ref kx), y3, some (.ref t), some (.ref fl), some v6, y7, y8] ∧ Lc CK H d mk kx md leaf M ns G' ∧ PartsAt K G' t g ∧ DueL K G' v6 (dueO ns g g.made.length), ?_, ?_⟩
    · obtain ⟨pp, mp, et, ep, em⟩ := id hp0
      refine ⟨_, rfl, t, _, _, .ref mp, rfl, rfl, et, rfl, mp, rfl, ⟨_, em⟩, ?_⟩
      refine for_it (walk_tup (K := K) (a := mp) (xs := g.made.map V.str)) (fun j σ' G' => ∃ (v6 : V) (y7 : Option V), σ' = [some (.ref d), some (.ref mk), some (.ref kx), y3, some (.ref t), some (.ref fl), some v6, y7, y8] ∧ Lc CK H d mk kx md leaf M ns G' ∧ Same G0 G' ∧ DueL K G' v6 (dueO ns g j))
        ⟨_, _, rfl, c0, Same.refl G0, hv6⟩ (fun j σ' G' _ h => by obtain ⟨_, _, _, _, sm, _⟩ := h; exact sqT_st sm em) (fun j u σ' Gx G' hj h hy => ?_) (fun σ' G' h => ?_)
      rotate_left
      · obtain ⟨v6, y7, rfl, c1, sm, hv⟩ := h
        rw [List.length_map] at hv
        exact ⟨v6, y7, rfl, c1, hp0.same sm, hv⟩
      obtain ⟨v6, y7, rfl, c1, sm, hv⟩ := h
      obtain ⟨rfl, hu2⟩ := hy
      obtain ⟨z, hz, rfl⟩ := at_texts hu2
      have hm : (partsM MK0 g)[j]? = some ((lookM MK0 z).getD []) := by rw [List.getElem?_map, hz]; rfl
      have hstep : dueO ns g (j + 1) = (dueO ns g j).bind fun r' => if (lookM MK0 z).getD [] = [] then none else takeAll r' ((lookM MK0 z).getD []) := by
        unfold dueO
        split
        · exact left_step hm
        · rfl
      rcases hv with ⟨p, r, rfl, er, hr6⟩ | ⟨rfl, er⟩
      rotate_left
      · refine ⟨_, rfl, rfl, _, rfl, ?_⟩
        show (if (!decide (V.non = V.non)) = true then _ else _)
        rw [decide_eq_true rfl, if_neg (by decide)]
        show (if false = true then _ else _)
        rw [if_neg (by decide)]
        exact ⟨.non, _, rfl, c1, sm, .inr ⟨rfl, by rw [hstep, er]; rfl⟩⟩
      · refine ⟨_, rfl, rfl, _, rfl, ?_⟩
        show (if (!decide (V.ref p = V.non)) = true then _ else _)
        rw [decide_eq_false (fun h => nomatch h), if_pos (by decide)]
        obtain ⟨kvs, ek, hMA⟩ := id c1.mm
        refine ⟨_, rfl, _, rfl, mk, _, rfl, DGet.k (k := Sum.inr z) ek, _, rfl, ?_⟩
        have lr : r.length ≤ 8 ∧ ∀ y ∈ r, y ∈ g.pool := by
          unfold dueO at er
          split at er
          · obtain ⟨a, b⟩ := left_sub _ er
            exact ⟨Nat.le_trans a okG.1, b⟩
          · cases er
        rcases hMA.get z with ⟨e1, e2⟩ | ⟨ps, a, e1, e2, e3⟩
        · rw [e2]
          show (if false = true then _ else _)
          rw [if_neg (by decide)]
          exact ⟨.non, _, rfl, c1, sm, .inr ⟨rfl, by rw [hstep, er, e1]; rfl⟩⟩
        · rw [e2]
          show (if true = true then _ else _)
          rw [if_pos rfl]
          have hps : ps.length ≤ 100 ∧ ps ≠ [] := by
            have : ∀ m ∈ MK0, m.2.length ≤ 100 ∧ m.2 ≠ [] := by decide +kernel
            exact this _ (lookM_some e1)
          rw [e1] at hstep
          have hstep : dueO ns g (j + 1) = takeAll r ps := by
            rw [hstep, er]
            show (if ps = [] then none else takeAll r ps) = _
            rw [if_neg hps.2]
          refine ⟨_, rfl, _, rfl, _, rfl, mk, .ref a, rfl, .inl ⟨_, Sum.inr z, .inl ek, rfl, e2.symm⟩, p, a, r, ps, rfl, hr6, e3.sq, by omega, hps.1, fun t2 r' H' e s' et' => ?_, fun H' e s' => ?_⟩
          · exact ⟨.ref t2, _, rfl, c1.sm s', fun b o e => s' _ _ (sm _ _ e), .inl ⟨t2, r', rfl, by rw [hstep, e], .inl (.inl et')⟩⟩
          · exact ⟨.non, _, rfl, c1.sm s', fun b o e => s' _ _ (sm _ _ e), .inr ⟨rfl, by rw [hstep, e]⟩⟩
    clear c0 hp0 hv6 v6 y7
    rintro σ' G0 ⟨v6, y7, rfl, c0, hp0, hv6⟩
    -- what is told
    refine ⟨fun σ' G' => ∃ (v8 : V), σ' = [some (.ref d), some (.ref mk), some (.ref kx), y3, some (.ref t), some (.ref fl), some v6, y7, some v8] ∧ Lc CK H d mk kx md leaf M ns G' ∧ DueL K G' v6 (dueO ns g g.made.length) ∧ ((∃ p r, v8 = .ref p ∧ dueO ns g g.made.length = some r ∧ SqT K G' p (r.map V.str)) ∨ (v8 = .str "operation" ∧ dueO ns g g.made.length = none)), ?_, ?_⟩
    · obtain ⟨pp, mp, et, ep, em⟩ := id hp0
      refine ⟨_, rfl, _, rfl, t, _, _, .str g.note, rfl, rfl, et, rfl, _, rfl, t, _, _, .ref pp, rfl, rfl, et, rfl, _, rfl, t, _, _, .ref mp, rfl, rfl, et, rfl, _, rfl, t, _, _, .str g.after, rfl, rfl, et, rfl, fun x dx nx ndx nxx => ?_⟩
      have s2 := mk_same nx ndx (o1 := .own x) (o2 := .ins C dx [])
      refine ⟨x, dx, pp, mp, g, rfl, upd_same, sqT_st s2 ep, sqT_st s2 em, hok, fun H2 hPg keep => ⟨rfl, ?_⟩⟩
      have s3 : Same G0 H2 := fun b o e => keep b o (ne_of_none e nx) (s2 b o e)
      have c1 := c0.sm s3
      have epm : partsM M g = partsM MK0 g := List.map_congr_left fun z _ => by rw [hlook]
      have etk : (partsM MK0 g).take g.made.length = partsM MK0 g := List.take_of_length_le (by rw [List.length_map]; exact Nat.le_refl _)
      refine ⟨x, kx, md, leaf, M, ns, g, rfl, hPg, hok, c1.ks, stN, fun t2 r' H' hin hl s' et' => ?_, fun H' hn s' => ?_⟩
      · refine ⟨.ref t2, rfl, c1.sm s', (hv6.same s3).same s', .inl ⟨t2, r', rfl, ?_, .inl (.inl et')⟩⟩
        unfold dueO
        rw [if_pos (forg_nil.mpr hin), etk, ← epm, hl]
      · refine ⟨.str "operation", rfl, c1.sm s', (hv6.same s3).same s', .inr ⟨rfl, ?_⟩⟩
        unfold dueO
        split
        · rename_i h
          rw [etk, ← epm]
          cases e : leftM g.pool (partsM M g) with
          | none => rfl
          | some r' => exact absurd ⟨forg_nil.mp h, by rw [e]; exact nofun⟩ hn
        · rfl
    clear c0 hp0 hv6 y8
    rintro σ' G0 ⟨v8, rfl, c0, hv6, hv8⟩
    rcases hv8 with ⟨p, r, rfl, er, hp⟩ | ⟨rfl, er⟩
    · rcases hv6 with ⟨p', r', rfl, er', hp'⟩ | ⟨rfl, er'⟩
      rotate_left
      · rw [er] at er'
        cases er'
      rw [er] at er'
      cases er'
      refine ⟨_, rfl, _, rfl, rfl, _, rfl, ?_⟩
      show (if decide (V.ref p' = V.non) = true then _ else _)
      rw [decide_eq_false (fun h => nomatch h), if_neg (by decide)]
      have okr : ∀ z ∈ r, PyData.strOk z = true := fun z hz => by
        unfold dueO at er
        split at er
        · exact stG z (List.mem_append.mpr (.inl ((left_sub _ er).2 z hz)))
        · cases er
      refine ⟨_, rfl, .tuple (tD r), .tuple (tD r), .tup hp (dp_texts _), .tup hp' (dp_texts _), shaped_textsT okr, shaped_textsT okr, ?_⟩
      rw [PyData.eqv, eqv_texts, decide_eq_true rfl]
      refine ⟨_, rfl, ?_⟩
      show (if (!true) = true then _ else _)
      rw [if_neg (by decide)]
      exact ⟨⟨_, _, _, _, _, _, rfl⟩, c0⟩
    · rcases hv6 with ⟨p', r', rfl, er', hp'⟩ | ⟨rfl, er'⟩
      · rw [er] at er'
        cases er'
      refine ⟨_, rfl, _, rfl, rfl, _, rfl, ?_⟩
      show (if decide (V.non = V.non) = true then _ else _)
      rw [decide_eq_true rfl, if_pos rfl]
      refine ⟨.str "operation", .str "operation", .str _, .str _, by decide +kernel, by decide +kernel, ?_⟩
      rw [show PyData.eqv (.str "operation") (.str "operation") = true by decide +kernel]
      refine ⟨_, rfl, ?_⟩
      show (if (!true) = true then _ else _)
      rw [if_neg (by decide)]
      exact ⟨⟨_, _, _, _, _, _, rfl⟩, c0⟩
end
end Kl

set_option maxRecDepth 100000
set_option maxHeartbeats 4000000
namespace Kl
open PySem PySem.Spec PyProof.Rows L2 Gx Mx
theorem sqL_samex {K : PySem.W.Frag} {d a : Addr} {H H' : Hp} {xs : List V} (n : H d = none) (s : SameX d H H') (h : SqL K H a xs) : SqL K H' a xs := by
  rcases h with (h | ⟨o, h⟩) | h
  · exact .inl (.inl (s _ _ (ne_of_none h n) h))
  · exact .inl (.inr ⟨o, s _ _ (ne_of_none h n) h⟩)
  · exact .inr h
abbrev MK1 : Mak := [("b", ["a", "a"]), ("c", ["a", "b", "b"])]
theorem vld1 : Vld "a" MK1 := by
  refine ⟨by decide +kernel, by decide +kernel, by decide +kernel, fun m hm => ?_, fun ns nd hs => ?_⟩
  · have : ∀ m ∈ MK1, sortedS m.2 = true ∧ 2 ≤ m.2.length ∧ m.2.length ≤ 3 ∧ ∀ p ∈ m.2, p = "a" ∨ p ∈ keysOf MK1 := by decide +kernel
    exact this m hm
  · refine Nat.le_trans (nodupL_len nd (ys := (("a" : Str) :: keysOf MK1)) fun z hz => ?_) (by show 3 ≤ 6; decide)
    rcases hs z hz with rfl | h
    · exact List.mem_cons_self
    · exact List.mem_cons_of_mem _ h
abbrev PG1 : Pg := ⟨"m", ["a", "a", "a", "b", "b"], ["b", "c"], "m"⟩
abbrev PG2 : Pg := ⟨"m", ["a", "a"], ["a"], "n"⟩
abbrev PG0 : Pg := ⟨"m", [], [], "m"⟩
theorem pg1_ok : PgOk PG1 := ⟨by decide +kernel, by decide +kernel, by decide +kernel, by decide +kernel⟩
theorem pg2_ok : PgOk PG2 := ⟨by decide +kernel, by decide +kernel, by decide +kernel, by decide +kernel⟩
theorem left1 : leftM PG1.pool (partsM MK1 PG1) = some [] := by decide +kernel
theorem left2 : leftM PG2.pool (partsM MK1 PG2) = none := by decide +kernel
theorem pool1 : ∀ z ∈ PG1.pool ++ PG1.made, z = "a" ∨ z ∈ keysOf MK1 := by decide +kernel
theorem read1 : parseP "page m 0 to 0 then m" = some PG0 := by decide +kernel
theorem read2 : parseP "page m b+a to 0 then m" = none := by decide +kernel
theorem tz1 : Asc "page m 0 to 0 then m" ∧ ("page m 0 to 0 then m" : Str).length ≤ 4000 := ⟨by unfold Asc; decide +kernel, by decide +kernel⟩
theorem tz2 : Asc "page m b+a to 0 then m" ∧ ("page m b+a to 0 then m" : Str).length ≤ 4000 := ⟨by unfold Asc; decide +kernel, by decide +kernel⟩
abbrev endD : PyData := .list [.tuple [], .str "operation", pgD PG0, .str "parse None", .int 8, .int 2]
theorem end_shaped : SeqAt.shaped endD = true := by decide +kernel
theorem end_eqv : PyData.eqv endD endD = true := by decide +kernel
section
variable {P : Program} {w : World} {K : PySem.W.Frag} {mg : Str → Option Value} {base : Heap}
/-! ### the law -/
abbrev NLW : List Str := ["_law_script", "_law_spot", "_law_dice_here", "_law_turn", "_law_kinds", "_law_pages", "_law_told", "_law_page"]
def spLaw (K : PySem.W.Frag) : Sp := fun vs H Q _ => ∃ (a : Addr) (ns : List Int), vs = [.ref a] ∧ SqL K H a (ns.map V.int) ∧ ns.length ≤ 63 ∧ ∀ H', Q (.bl true) H'
theorem ok_law {f : Addr} {fd : FuncData} (F : Fun K "law" "law" s_law f fd) (T : Top K mg) : FnG P w K mg base CX0 12 f fd ["_law_script"] (spLaw K) := by
  obtain ⟨C, TC⟩ := T.c_Page
  obtain ⟨CK, TK⟩ := T.c_Kinds
  obtain ⟨Co, XO, XC, te⟩ := T.p_InvalidOperation
  obtain ⟨CP, fI, fdI, TX, FX⟩ := T.x_ParseError
  obtain ⟨tm, gm⟩ := T.g_MAX_MADE
  obtain ⟨tp, gp⟩ := T.g_MAX_POOL
  have cd : Cal P w K mg base 11 "_law_dice" ["_law_script", "_law_spot"] (spDice K) := (T.d_law_dice.cal fun f fd F => ok_dice F T).mono (by decide)
  have crg : CalG P w K mg base 11 "_law_right" ["_law_dice_here"] spRG := CalG.up (T.d_law_right.calG fun f fd F => ok_rg F T TC TX FX) (by decide)
  have clr : CalG P w K mg base 11 "_law_left_right" ["_law_dice_here"] spRG := CalG.up (T.d_law_left_right.calG fun f fd F => ok_lr F T TC TK XO XC te) (by decide)
  have cll : CalG P w K mg base 11 "_law_left" ["_law_kinds", "_law_page"] (spLL K C CK) := CalG.up (T.d_law_left.calG fun f fd F => ok_ll F T TC TK XO XC te) (by decide)
  have crd : CalG P w K mg base 11 "_law_read" ["_law_line"] (spRead K) := CalG.up (T.d_law_read.calG fun f fd F => ok_read F T TC TX FX) (by decide)
  have kI : CalI P w K mg base C 10 ["self", "note", "pool", "made", "after"] (spPInit K C) := by
    obtain ⟨f, fd, m, F, b⟩ := TC.made
    exact ⟨f, fd, m, (ok_pinit F T TC).mono (by decide), b⟩
  have kK : CalI P w K mg base CK 10 ["self", "leaf", "makings"] (spInit CK) := by
    obtain ⟨f, fd, m, F, b⟩ := TK.made
    exact ⟨f, fd, m, (ok_init F T TK).mono (by decide), b⟩
  refine okG F sc_law (fun vs H Q E h => ?_) (fun cdv A outer s H vs Q E hg hr h => ?_)
  · obtain ⟨a, ns, rfl, _⟩ := h
    rfl
  · obtain ⟨a, ns, rfl, hS, hlen, q⟩ := h
    refine ⟨_, pss_cut (ps_for PassesOwn.never rfl (pi_range1 (by rfl) T.b_range (pa_cons (pe_callB (call_max2 rfl) (by rfl) T.b_max (by decide +kernel) (pa_cons pe_int (pa_cons
          (pe_callB (call_min2 rfl) (by rfl) T.b_min (by decide +kernel) (pa_cons pe_int (pa_cons (pe_callB call_len_seq (by rfl) T.b_len PySem.boot_len (pa_cons (pv 0) pa_nil)) pa_nil))) pa_nil))) pa_nil))
          (pg_name (i := 1) sc_law.nd rfl (.inl rfl))
        (pss_cut (ps_set (i := 2) sc_law.nd rfl (.inl rfl) (pe_cal cd hr (by rfl) (pa_cons (pv 0) (pa_cons (pv 1) pa_nil))))
        (pss_one (ps_for PassesOwn.never rfl (pi_range1 (by rfl) T.b_range (pa_cons pe_int pa_nil)) (pg_name (i := 3) sc_law.nd rfl (.inl rfl))
          (pss_one (ps_if (PW.pt (pw_or (pt_not (pt_val (pe_calG crg hg hr (by rfl) (pa_cons (pv 2) pa_nil)))) (pw_or1 (pt_not (pt_val (pe_calG clr hg hr (by rfl) (pa_cons (pv 2) pa_nil))))))) (pss_one (ps_ret pe_bl)) pss_nil))))))
      (pss_cut (ps_set (i := 4) sc_law.nd rfl (.inr rfl) (pe_makeC kK hr (by rfl) TK.gC (pa_cons pe_str (pa_cons (pe_disp (pps_cons pe_str (pe_tupZ (pa_cons pe_str (pa_cons pe_str pa_nil))) (pps_cons pe_str (pe_tupZ (pa_cons pe_str (pa_cons pe_str (pa_cons pe_str pa_nil)))) pps_nil)) rfl rfl (by decide) (by decide)) pa_nil))))
      (pss_cut (ps_set (i := 5) sc_law.nd rfl (.inl rfl) (pe_lst (pa_cons (pe_makeC kI hr (by rfl) TC.gC (pa_cons pe_str (pa_cons (pe_tup (pa_cons pe_str (pa_cons pe_str (pa_cons pe_str (pa_cons pe_str (pa_cons pe_str pa_nil)))))) (pa_cons (pe_tup (pa_cons pe_str (pa_cons pe_str pa_nil))) (pa_cons pe_str pa_nil)))))
          (pa_cons (pe_makeC kI hr (by rfl) TC.gC (pa_cons pe_str (pa_cons (pe_tup (pa_cons pe_str (pa_cons pe_str pa_nil))) (pa_cons (pe_tup (pa_cons pe_str pa_nil)) (pa_cons pe_str pa_nil))))) pa_nil))))
      (pss_cut (ps_setLc (i := 6) (own := [("_law_page", 7)]) (g := gName 7) (tt := tYes) (by rfl) sc_law.nd rfl rfl (sw_true rfl rfl rfl (by decide +kernel)) (pi_list (pv 5))
          (blkOk_by (N := NLW) (sc := defScope s_law) (by decide +kernel)) (fun _ _ _ _ _ => pg_name (i := 7) sc_law.nd rfl (.inl rfl)) (fun _ _ _ _ _ => pts_nil)
          (fun _ _ _ _ _ => pe_calG cll hg hr (by rfl) (pa_cons (pv 4) (pa_cons (pv 7) pa_nil))))
      (pss_cut (ps_set (i := 6) sc_law.nd rfl (.inl rfl) (pe_op op_cat (pv 6) (pe_lst (pa_cons (pe_calG crd hg hr (by rfl) (pa_cons pe_str pa_nil)) (pa_cons (pe_calG crd hg hr (by rfl) (pa_cons pe_str pa_nil)) (pa_cons (pe_glob (v := .int 8) (by rfl) gp ⟨_, rfl⟩) (pa_cons (pe_glob (v := .int 2) (by rfl) gm ⟨_, rfl⟩) pa_nil)))))))
      (pss_one (ps_ret (pe_cmpR (op_eqD hr.units) (pv 6) (pe_lst (pa_cons (pe_tup pa_nil) (pa_cons pe_str (pa_cons (pe_tup (pa_cons pe_str (pa_cons (pe_tup pa_nil) (pa_cons (pe_tup pa_nil) (pa_cons pe_str pa_nil))))) (pa_cons pe_str (pa_cons pe_int (pa_cons pe_int pa_nil))))))) (by rfl)))))))), ?_⟩
    have big : 100000 ≤ sizeLine := by decide
    refine ⟨fun σ' G => ∃ (y1 y2 y3 : Option V), σ' = [some (.ref a), y1, y2, y3, none, none, none, none], ?_, ?_⟩
    · refine ⟨_, rfl, a, _, rfl, .inl hS, _, _, rfl, _, _, rfl, _, rfl, ?_, ?_, ?_⟩
      · split <;> split <;> omega
      · split <;> split <;> omega
      refine for_range (lo := 0) (fun i σ' G => (∃ (y1 y2 y3 : Option V), σ' = [some (.ref a), y1, y2, y3, none, none, none, none]) ∧ SqL K G a (ns.map V.int)) ⟨⟨_, _, _, rfl⟩, hS⟩ (fun i σ' G hi hP => ?_) (fun σ' G hP => hP.1)
      obtain ⟨⟨y1, y2, y3, rfl⟩, hSG⟩ := hP
      refine ⟨fun σ' G' => ∃ (y1 : Option V) (d : Addr), σ' = [some (.ref a), y1, some (.ref d), y3, none, none, none, none] ∧ DiceAt G' d ∧ G d = none ∧ SameX d G G', ?_, ?_⟩
      · refine ⟨_, rfl, _, rfl, a, ns, i, ?_, hSG, hlen, ?_, fun d x0 b0 nd => ⟨_, d, rfl, ⟨x0, b0, 0, upd_same⟩, nd, (SameX.refl d G).atd⟩⟩
        · show [V.ref a, V.int (0 + (i : Int))] = _
          rw [Int.zero_add]
        · have : i < 6 := by
            revert hi
            split <;> split <;> omega
          omega
      rintro σ' G1 ⟨y1, d, rfl, hd, nd, sx⟩
      refine ⟨_, rfl, by decide, by decide, ?_⟩
      refine for_range (lo := 0) (fun j σ' G' => (∃ (y3 : Option V), σ' = [some (.ref a), y1, some (.ref d), y3, none, none, none, none]) ∧ DiceAt G' d ∧ SameX d G G') ⟨⟨_, rfl⟩, hd, sx⟩ (fun j σ' G2 hj hP => ?_) (fun σ' G2 hP => ?_)
      rotate_left
      · obtain ⟨⟨y3, rfl⟩, _, sx2⟩ := hP
        exact ⟨⟨_, _, _, rfl⟩, sqL_samex nd sx2 hSG⟩
      obtain ⟨⟨y3, rfl⟩, hd2, sx2⟩ := hP
      refine ⟨_, rfl, d, rfl, hd2, fun G3 sx3 hd3 => ⟨_, rfl, ?_⟩⟩
      show (if (!true) = true then _ else _)
      rw [if_neg (by decide)]
      refine ⟨_, rfl, d, rfl, hd3, fun G4 sx4 hd4 => ⟨_, rfl, ?_⟩⟩
      show (if (!true) = true then _ else _)
      rw [if_neg (by decide)]
      exact ⟨⟨_, rfl⟩, hd4, (sx2.trans sx3).trans sx4⟩
    rintro σ' G0 ⟨y1, y2, y3, rfl⟩
    -- the kinds
    refine ⟨fun σ' G => ∃ (kx md : Addr) (M : Mak) (ks : List Str), σ' = [some (.ref a), y1, y2, y3, some (.ref kx), none, none, none] ∧ KindsAt CK G kx md "a" M ks ∧ (∀ z, lookM M z = lookM MK1 z) ∧ IsNames "a" (keysOf MK1) ks, ?_, ?_⟩
    · refine fun mk nmk => ⟨by decide, fun t1 H1 z1 n1 k1 => ⟨by show 3 ≤ sizeLine; omega, fun t2 H2 z2 n2 k2 => ?_⟩⟩
      have s1 := same_k n1 k1
      have s2 := same_k n2 k2
      have s02 : Same (upd G0 mk (.dK [])) H2 := fun b o e => s2 _ _ (s1 _ _ e)
      refine ⟨s02 _ _ upd_same, [(Sum.inr "b", .ref t1), (Sum.inr "c", .ref t2)], rfl, by show 2 ≤ 15; omega, ?_⟩
      rw [merge_nil (by show ([Sum.inr "b", Sum.inr "c"] : List Key).Nodup; decide +kernel)]
      obtain ⟨sA, hMk⟩ := disp_end (kvs := [((Sum.inr "b" : Key), V.ref t1), (Sum.inr "c", .ref t2)]) (M := MK1) nmk s02 (.cons ⟨rfl, t1, rfl, z1.mono s2⟩ (.cons ⟨rfl, t2, rfl, z2⟩ .nil))
      refine fun kx dx nx ndx nxx => init_by hMk vld1 nx ndx fun G2 md M ks hK hO hN s3 => ⟨rfl, ?_⟩
      exact ⟨kx, md, M, ks, rfl, hK, hO.look, hN⟩
    rintro σ' G1 ⟨kx, md, M, ks, rfl, hK, hlook, hN⟩
    have stN : ∀ z ∈ ks, PyData.strOk z = true := fun z hz => by
      rcases (hN.mem z).mp hz with rfl | h
      · decide +kernel
      · exact names_low (pool_name (vld1.keys z h))
    -- the pages
    refine ⟨fun σ' G => ∃ (l x1 x2 : Addr), σ' = [some (.ref a), y1, y2, y3, some (.ref kx), some (.ref l), none, none] ∧ KindsAt CK G kx md "a" M ks ∧ G l = some (.lst [.ref x1, .ref x2]) ∧ PageAt K C G x1 PG1 ∧ PageAt K C G x2 PG2, ?_, ?_⟩
    · refine ⟨by show 5 ≤ sizeLine; omega, fun p1 n1 => ⟨by show 2 ≤ sizeLine; omega, fun p2 n2 => ?_⟩⟩
      have e1 : (upd G1 p1 (.tup (PG1.pool.map V.str))) p1 = some (.tup (PG1.pool.map V.str)) := upd_same
      have u1 := same_new (o := .tup (PG1.pool.map V.str)) (Same.refl G1) n1
      have e2 : (upd (upd G1 p1 (.tup (PG1.pool.map V.str))) p2 (.tup (PG1.made.map V.str))) p2 = some (.tup (PG1.made.map V.str)) := upd_same
      have u2 := same_new (o := .tup (PG1.made.map V.str)) (Same.refl (upd G1 p1 (.tup (PG1.pool.map V.str)))) n2
      have hG : ∀ X, X = upd (upd G1 p1 (.tup (PG1.pool.map V.str))) p2 (.tup (PG1.made.map V.str)) → X = upd (upd G1 p1 (.tup [.str "a", .str "a", .str "a", .str "b", .str "b"])) p2 (.tup [.str "b", .str "c"]) := fun X h => h
      have e1' := u2 _ _ e1
      have u12 : Same G1 (upd (upd G1 p1 (.tup (PG1.pool.map V.str))) p2 (.tup (PG1.made.map V.str))) := fun b o e => u2 _ _ (u1 _ _ e)
      refine fun x1 dx1 nx ndx nxx => ?_
      have s2 := mk_same nx ndx (o1 := .own x1) (o2 := .ins C dx1 [])
      refine ⟨x1, dx1, p1, p2, PG1, rfl, upd_same, .inl (.inl (s2 _ _ e1')), .inl (.inl (s2 _ _ e2)), pg1_ok, fun G2 hPg keep => ⟨rfl, ?_⟩⟩
      have s12 : Same G1 G2 := fun b o e => keep b o (ne_of_none (u12 _ _ e) nx) (s2 b o (u12 _ _ e))
      clear hG u1 u2 u12 e1 e1' e2 s2 keep nx ndx nxx n2
      refine ⟨by show 2 ≤ sizeLine; omega, fun p3 n3 => ⟨by show 1 ≤ sizeLine; omega, fun p4 n4 => ?_⟩⟩
      have e3 : (upd G2 p3 (.tup (PG2.pool.map V.str))) p3 = some (.tup (PG2.pool.map V.str)) := upd_same
      have u3 := same_new (o := .tup (PG2.pool.map V.str)) (Same.refl G2) n3
      have e4 : (upd (upd G2 p3 (.tup (PG2.pool.map V.str))) p4 (.tup (PG2.made.map V.str))) p4 = some (.tup (PG2.made.map V.str)) := upd_same
      have u4 := same_new (o := .tup (PG2.made.map V.str)) (Same.refl (upd G2 p3 (.tup (PG2.pool.map V.str)))) n4
      have e3' := u4 _ _ e3
      have u34 : Same G2 (upd (upd G2 p3 (.tup (PG2.pool.map V.str))) p4 (.tup (PG2.made.map V.str))) := fun b o e => u4 _ _ (u3 _ _ e)
      refine fun x2 dx2 nx ndx nxx => ?_
      have s4 := mk_same nx ndx (o1 := .own x2) (o2 := .ins C dx2 [])
      refine ⟨x2, dx2, p3, p4, PG2, rfl, upd_same, .inl (.inl (s4 _ _ e3')), .inl (.inl (s4 _ _ e4)), pg2_ok, fun G3 hPg2 keep => ⟨rfl, ?_⟩⟩
      have s23 : Same G2 G3 := fun b o e => keep b o (ne_of_none (u34 _ _ e) nx) (s4 b o (u34 _ _ e))
      refine ⟨by show 2 ≤ sizeLine; omega, fun l nl => ?_⟩
      have s5 := same_new (o := .lst [V.ref x1, .ref x2]) (Same.refl G3) nl
      exact ⟨l, x1, x2, rfl, ((hK.same s12).same s23).same s5, upd_same, (hPg.same s23).same s5, hPg2.same s5⟩
    clear hK
    rintro σ' G2 ⟨l, x1, x2, rfl, hK, el, hP1, hP2⟩
    -- what is left
    refine ⟨fun σ' G => ∃ (D t : Addr), σ' = [some (.ref a), y1, y2, y3, some (.ref kx), some (.ref l), some (.ref D), none] ∧ G D = some (.lst [.ref t, .str "operation"]) ∧ G t = some (.tup []), ?_, ?_⟩
    · have epm : ∀ g : Pg, partsM M g = partsM MK1 g := fun g => List.map_congr_left fun z _ => by rw [hlook]
      refine ⟨_, rfl, l, rfl, ⟨_, .inl (.inl el)⟩, fun D hD => ?_⟩
      refine lc_it (g := gName 7) (tt := tYes) (vs := [7]) (walk_list (K := K) (a := l) (xs := [V.ref x1, .ref x2])) (fun j G' => ∃ vs : List V, G' D = some (.lst vs) ∧ vs.length = j ∧ (∀ v, vs[0]? = some v → ∃ t, v = .ref t ∧ G' t = some (.tup [])) ∧ (∀ v, vs[1]? = some v → v = .str "operation") ∧ Same G2 G')
        ⟨[], upd_same, rfl, (fun v h => by cases h), (fun v h => by cases h), same_new (Same.refl G2) hD⟩ (fun j G' _ h => by obtain ⟨_, _, _, _, _, sm⟩ := h; exact .inl (.inl (sm _ _ el))) (fun j u Gx G' hj h hy => ?_) (fun G' h => ?_)
      · obtain ⟨vs, eD, lv, h0, h1, sm⟩ := h
        obtain ⟨rfl, hu⟩ := hy
        have hu : [V.ref x1, .ref x2][j]? = some u := hu
        have hj : j < 2 := hj
        have keep : ∀ {H' : Hp} {v : V}, Same G' H' → (upd H' D (.lst (vs ++ [v]))) D = some (.lst (vs ++ [v])) ∧ (∀ t, H' t = some (.tup []) → (upd H' D (.lst (vs ++ [v]))) t = some (.tup [])) ∧ Same G2 (upd H' D (.lst (vs ++ [v]))) := fun {H' v} s' => by
          have eD' := s' _ _ eD
          exact ⟨upd_same, fun t et => by rw [upd_ne (fun w => by rw [w, eD'] at et; cases et)]; exact et, fun b o e => by rw [upd_ne (ne_of_none e hD)]; exact s' _ _ (sm b o e)⟩
        rcases Nat.lt_or_ge j 1 with c | c
        · have ej : j = 0 := by omega
          subst ej
          cases hu
          have ev : vs = [] := List.eq_nil_of_length_eq_zero lv
          subst ev
          refine ⟨rfl, _, rfl, _, rfl, x1, kx, md, "a", M, ks, PG1, rfl, hP1.same sm, pg1_ok, hK.same sm, stN, fun t r' H' hin hl s' et => ?_, fun H' hn s' => ?_⟩
          · rw [epm, left1] at hl
            cases hl
            obtain ⟨k1, k2, k3⟩ := keep (v := .ref t) s'
            exact ⟨[], s' _ _ eD, by show 0 < sizeLine; omega, [.ref t], k1, rfl, fun v hv => by cases hv; exact ⟨t, rfl, k2 t et⟩, (fun v h => by cases h), k3⟩
          · refine absurd ⟨fun z hz => (hN.mem z).mpr (pool1 z hz), ?_⟩ hn
            rw [epm, left1]
            exact nofun
        · have ej : j = 1 := by omega
          subst ej
          cases hu
          obtain ⟨v0, rfl⟩ : ∃ v0, vs = [v0] := by
            match vs, lv with
            | [v0], _ => exact ⟨v0, rfl⟩
          obtain ⟨t0, rfl, et0⟩ := h0 v0 rfl
          refine ⟨rfl, _, rfl, _, rfl, x2, kx, md, "a", M, ks, PG2, rfl, hP2.same sm, pg2_ok, hK.same sm, stN, fun t r' H' hin hl s' et => ?_, fun H' hn s' => ?_⟩
          · rw [epm, left2] at hl
            cases hl
          · obtain ⟨k1, k2, k3⟩ := keep (v := .str "operation") s'
            exact ⟨_, s' _ _ eD, by show 1 < sizeLine; omega, _, k1, rfl, fun v hv => by cases hv; exact ⟨t0, rfl, k2 t0 (s' _ _ et0)⟩, fun v hv => by cases hv; rfl, k3⟩
      · obtain ⟨vs, eD, lv, h0, h1, sm⟩ := h
        obtain ⟨v0, v1, rfl⟩ : ∃ v0 v1, vs = [v0, v1] := by
          match vs, lv with
          | [v0, v1], _ => exact ⟨v0, v1, rfl⟩
        obtain ⟨t0, rfl, et0⟩ := h0 v0 rfl
        rw [h1 v1 rfl] at eD
        exact ⟨D, t0, rfl, eD, et0⟩
    clear hK el hP1 hP2
    rintro σ' G3 ⟨D, t, rfl, eD, et⟩
    refine ⟨fun σ' G => ∃ (D t t1 : Addr), σ' = [some (.ref a), y1, y2, y3, some (.ref kx), some (.ref l), some (.ref D), none] ∧ G D = some (.lst [.ref t, .str "operation", .ref t1, .str "parse None", .int 8, .int 2]) ∧ G t = some (.tup []) ∧ PartsAt K G t1 PG0, ?_, ?_⟩
    · refine ⟨_, rfl, _, rfl, tz1.1, tz1.2, fun t1 g1 H1 hp1 s1 hP => ?_, fun H1 hp1 _ => ?_⟩
      rotate_left
      · rw [read1] at hp1
        cases hp1
      rw [read1] at hp1
      cases hp1
      refine ⟨_, rfl, tz2.1, tz2.2, fun t2 g2 H2 hp2 _ _ => ?_, fun H2 hp2 s2 => ?_⟩
      · rw [read2] at hp2
        cases hp2
      refine ⟨by show 4 ≤ sizeLine; omega, fun p np => ?_⟩
      have s3 := same_new (o := .lst [V.ref t1, .str "parse None", .int 8, .int 2]) (Same.refl H2) np
      have ep : (upd H2 p (.lst [V.ref t1, .str "parse None", .int 8, .int 2])) p = some (.lst [V.ref t1, .str "parse None", .int 8, .int 2]) := upd_same
      generalize upd H2 p (.lst [V.ref t1, .str "parse None", .int 8, .int 2]) = H3 at s3 ep
      have s03 : Same G3 H3 := fun b o e => s3 _ _ (s2 _ _ (s1 _ _ e))
      refine ⟨D, p, _, _, rfl, rfl, s03 _ _ eD, ep, by show 2 + 4 ≤ sizeLine; omega, fun D2 n2 => ?_⟩
      have s4 := same_new (o := .lst ([V.ref t, .str "operation"] ++ [V.ref t1, .str "parse None", .int 8, .int 2])) (Same.refl H3) n2
      exact ⟨D2, t, t1, rfl, upd_same, s4 _ _ (s03 _ _ et), ((hP.same s2).same s3).same s4⟩
    clear eD et
    rintro σ' G4 ⟨D, t, t1, rfl, eD, et, hp⟩
    refine ⟨_, rfl, Nat.zero_le _, fun q1 n1 => ?_⟩
    have s1 := same_new (o := .tup []) (Same.refl G4) n1
    have f1 : (upd G4 q1 (.tup [])) q1 = some (.tup []) := upd_same
    generalize upd G4 q1 (.tup []) = H1 at s1 f1
    refine ⟨Nat.zero_le _, fun q2 n2 => ?_⟩
    have s2 := same_new (o := .tup []) (Same.refl H1) n2
    have f2 : (upd H1 q2 (.tup [])) q2 = some (.tup []) := upd_same
    generalize upd H1 q2 (.tup []) = H2 at s2 f2
    refine ⟨Nat.zero_le _, fun q3 n3 => ?_⟩
    have s3 := same_new (o := .tup []) (Same.refl H2) n3
    have f3 : (upd H2 q3 (.tup [])) q3 = some (.tup []) := upd_same
    generalize upd H2 q3 (.tup []) = H3 at s3 f3
    refine ⟨by show 4 ≤ sizeLine; omega, fun q4 n4 => ?_⟩
    have s4 := same_new (o := .tup [V.str "m", .ref q2, .ref q3, .str "m"]) (Same.refl H3) n4
    have f4 : (upd H3 q4 (.tup [V.str "m", .ref q2, .ref q3, .str "m"])) q4 = some (.tup [V.str "m", .ref q2, .ref q3, .str "m"]) := upd_same
    generalize upd H3 q4 (.tup [V.str "m", .ref q2, .ref q3, .str "m"]) = H4 at s4 f4
    refine ⟨by show 6 ≤ sizeLine; omega, fun q5 n5 => ?_⟩
    have s5 := same_new (o := .lst [V.ref q1, .str "operation", .ref q4, .str "parse None", .int 8, .int 2]) (Same.refl H4) n5
    have f5 : (upd H4 q5 (.lst [V.ref q1, .str "operation", .ref q4, .str "parse None", .int 8, .int 2])) q5 = some (.lst [V.ref q1, .str "operation", .ref q4, .str "parse None", .int 8, .int 2]) := upd_same
    generalize upd H4 q5 (.lst [V.ref q1, .str "operation", .ref q4, .str "parse None", .int 8, .int 2]) = H5 at s5 f5
    have sA : Same G4 H5 := fun b o e => s5 _ _ (s4 _ _ (s3 _ _ (s2 _ _ (s1 _ _ e))))
    have hp' : PartsAt K H5 q4 PG0 := ⟨q2, q3, .inl (.inl (s5 _ _ f4)), .inl (.inl (s5 _ _ (s4 _ _ (s3 _ _ f2)))), .inl (.inl (s5 _ _ (s4 _ _ f3)))⟩
    refine ⟨endD, endD, .lst (.inl (.inl (sA _ _ eD))) (.cons (.tup (.inl (.inl (sA _ _ et))) .nil) (.cons (.str _) (.cons (hp.same sA).dp (.cons (.str _) (.cons (.int _) (.cons (.int _) .nil)))))), .lst (.inl (.inl f5)) (.cons (.tup (.inl (.inl (s5 _ _ (s4 _ _ (s3 _ _ (s2 _ _ f1)))))) .nil) (.cons (.str _) (.cons hp'.dp (.cons (.str _) (.cons (.int _) (.cons (.int _) .nil)))))), end_shaped, end_shaped, ?_⟩
    rw [end_eqv]
    exact q H5
end
end Kl

set_option maxRecDepth 100000
set_option maxHeartbeats 4000000
namespace Kl
open PySem PySem.Spec PyProof.Rows L2 Gx
/-! ### the end -/
theorem all_mk {l : PySem.W.OpenLaw} {w : World} {K : PySem.W.Frag} {h : Heap} {mg : Str → Option Value} {fa : Addr} (X : K.In h) (G : h.Ns mainGlobals mg) (hfa : mg "law" = some (.ref fa))
    {Ce0 fe0 : Addr} {ode0 ane0 : Option Addr} {sle0 : Array (Option Value)} {oce0 kVe0 dce0 pme0 cde0 cte0 : Value}
    {nme0 qne0 : Str} {Ne0 : Addr} {bse0 bme0 : List Value} {sne0 : List Str} {sube0 : List Value} {abe0 : Bool} {cole0 : Option Bool} {dde0 : Option Addr} {k0e0 k1e0 k2e0 k3e0 k5e0 : Option Value}
    {Ce1 fe1 : Addr} {ode1 ane1 : Option Addr} {sle1 : Array (Option Value)} {oce1 kVe1 dce1 pme1 cde1 cte1 : Value}
    {nme1 qne1 : Str} {Ne1 : Addr} {bse1 bme1 : List Value} {sne1 : List Str} {sube1 : List Value} {abe1 : Bool} {cole1 : Option Bool} {dde1 : Option Addr} {k0e1 k1e1 k2e1 k3e1 k5e1 : Option Value}
    {Ce2 fe2 : Addr} {ode2 ane2 : Option Addr} {sle2 : Array (Option Value)} {oce2 kVe2 dce2 pme2 cde2 cte2 : Value}
    {nme2 qne2 : Str} {Ne2 : Addr} {bse2 bme2 : List Value} {sne2 : List Str} {sube2 : List Value} {abe2 : Bool} {cole2 : Option Bool} {dde2 : Option Addr} {k0e2 k1e2 k2e2 k3e2 k5e2 : Option Value}
    {Cy0 : Addr} {nmy0 qny0 : Str} {Ny0 : Addr} {bsy0 bmy0 : List Value} {hdy0 : Bool} {sny0 : List Str} {suby0 : List Value} {aby0 : Bool} {coly0 : Option Bool} {ddy0 : Option Addr} {k0y0 k1y0 k2y0 k3y0 k5y0 : Option Value}
    {Cy1 : Addr} {nmy1 qny1 : Str} {Ny1 : Addr} {bsy1 bmy1 : List Value} {hdy1 : Bool} {sny1 : List Str} {suby1 : List Value} {aby1 : Bool} {coly1 : Option Bool} {ddy1 : Option Addr} {k0y1 k1y1 k2y1 k3y1 k5y1 : Option Value}
    {Cy2 : Addr} {nmy2 qny2 : Str} {Ny2 : Addr} {bsy2 bmy2 : List Value} {hdy2 : Bool} {sny2 : List Str} {suby2 : List Value} {aby2 : Bool} {coly2 : Option Bool} {ddy2 : Option Addr} {k0y2 k1y2 k2y2 k3y2 k5y2 : Option Value}
    {f0 : Addr} {od0 an0 : Option Addr} {sl0 : Array (Option Value)} {oc0 kV0 dc0 pm0 cd0 ct0 : Value}
    {f1 : Addr} {od1 an1 : Option Addr} {sl1 : Array (Option Value)} {oc1 kV1 dc1 pm1 cd1 ct1 : Value}
    {f2 : Addr} {od2 an2 : Option Addr} {sl2 : Array (Option Value)} {oc2 kV2 dc2 pm2 cd2 ct2 : Value}
    {f3 : Addr} {od3 an3 : Option Addr} {sl3 : Array (Option Value)} {oc3 kV3 dc3 pm3 cd3 ct3 : Value}
    {f4 : Addr} {od4 an4 : Option Addr} {sl4 : Array (Option Value)} {oc4 kV4 dc4 pm4 cd4 ct4 : Value}
    {f5 : Addr} {od5 an5 : Option Addr} {sl5 : Array (Option Value)} {oc5 kV5 dc5 pm5 cd5 ct5 : Value}
    {f6 : Addr} {od6 an6 : Option Addr} {sl6 : Array (Option Value)} {oc6 kV6 dc6 pm6 cd6 ct6 : Value}
    {f7 : Addr} {od7 an7 : Option Addr} {sl7 : Array (Option Value)} {oc7 kV7 dc7 pm7 cd7 ct7 : Value}
    {f8 : Addr} {od8 an8 : Option Addr} {sl8 : Array (Option Value)} {oc8 kV8 dc8 pm8 cd8 ct8 : Value}
    {f9 : Addr} {od9 an9 : Option Addr} {sl9 : Array (Option Value)} {oc9 kV9 dc9 pm9 cd9 ct9 : Value}
    {f10 : Addr} {od10 an10 : Option Addr} {sl10 : Array (Option Value)} {oc10 kV10 dc10 pm10 cd10 ct10 : Value}
    {f11 : Addr} {od11 an11 : Option Addr} {sl11 : Array (Option Value)} {oc11 kV11 dc11 pm11 cd11 ct11 : Value}
    {f12 : Addr} {od12 an12 : Option Addr} {sl12 : Array (Option Value)} {oc12 kV12 dc12 pm12 cd12 ct12 : Value}
    {f13 : Addr} {od13 an13 : Option Addr} {sl13 : Array (Option Value)} {oc13 kV13 dc13 pm13 cd13 ct13 : Value}
    {f14 : Addr} {od14 an14 : Option Addr} {sl14 : Array (Option Value)} {oc14 kV14 dc14 pm14 cd14 ct14 : Value}
    {f15 : Addr} {od15 an15 : Option Addr} {sl15 : Array (Option Value)} {oc15 kV15 dc15 pm15 cd15 ct15 : Value}
    {f16 : Addr} {od16 an16 : Option Addr} {sl16 : Array (Option Value)} {oc16 kV16 dc16 pm16 cd16 ct16 : Value}
    {f17 : Addr} {od17 an17 : Option Addr} {sl17 : Array (Option Value)} {oc17 kV17 dc17 pm17 cd17 ct17 : Value}
    {f18 : Addr} {od18 an18 : Option Addr} {sl18 : Array (Option Value)} {oc18 kV18 dc18 pm18 cd18 ct18 : Value}
    {f19 : Addr} {od19 an19 : Option Addr} {sl19 : Array (Option Value)} {oc19 kV19 dc19 pm19 cd19 ct19 : Value}
    {f20 : Addr} {od20 an20 : Option Addr} {sl20 : Array (Option Value)} {oc20 kV20 dc20 pm20 cd20 ct20 : Value}
    {f21 : Addr} {od21 an21 : Option Addr} {sl21 : Array (Option Value)} {oc21 kV21 dc21 pm21 cd21 ct21 : Value}
    {f22 : Addr} {od22 an22 : Option Addr} {sl22 : Array (Option Value)} {oc22 kV22 dc22 pm22 cd22 ct22 : Value}
    {f23 : Addr} {od23 an23 : Option Addr} {sl23 : Array (Option Value)} {oc23 kV23 dc23 pm23 cd23 ct23 : Value}
    {f24 : Addr} {od24 an24 : Option Addr} {sl24 : Array (Option Value)} {oc24 kV24 dc24 pm24 cd24 ct24 : Value}
    {f25 : Addr} {od25 an25 : Option Addr} {sl25 : Array (Option Value)} {oc25 kV25 dc25 pm25 cd25 ct25 : Value}
    {f26 : Addr} {od26 an26 : Option Addr} {sl26 : Array (Option Value)} {oc26 kV26 dc26 pm26 cd26 ct26 : Value}
    {f27 : Addr} {od27 an27 : Option Addr} {sl27 : Array (Option Value)} {oc27 kV27 dc27 pm27 cd27 ct27 : Value}
    {f28 : Addr} {od28 an28 : Option Addr} {sl28 : Array (Option Value)} {oc28 kV28 dc28 pm28 cd28 ct28 : Value}
    {f29 : Addr} {od29 an29 : Option Addr} {sl29 : Array (Option Value)} {oc29 kV29 dc29 pm29 cd29 ct29 : Value}
    {CoKinds : Addr}
    {fM0Kinds : Addr} {odM0Kinds anM0Kinds : Option Addr} {slM0Kinds : Array (Option Value)} {ocM0Kinds kVM0Kinds dcM0Kinds pmM0Kinds cdM0Kinds ctM0Kinds : Value}
    {fM2Kinds : Addr} {odM2Kinds anM2Kinds : Option Addr} {slM2Kinds : Array (Option Value)} {ocM2Kinds kVM2Kinds dcM2Kinds pmM2Kinds cdM2Kinds ctM2Kinds : Value}
    {qM2Kinds : Addr} {rsM2Kinds : List Value}
    {fM3Kinds : Addr} {odM3Kinds anM3Kinds : Option Addr} {slM3Kinds : Array (Option Value)} {ocM3Kinds kVM3Kinds dcM3Kinds pmM3Kinds cdM3Kinds ctM3Kinds : Value}
    {qM3Kinds : Addr} {rsM3Kinds : List Value}
    {fM4Kinds : Addr} {odM4Kinds anM4Kinds : Option Addr} {slM4Kinds : Array (Option Value)} {ocM4Kinds kVM4Kinds dcM4Kinds pmM4Kinds cdM4Kinds ctM4Kinds : Value}
    {qM4Kinds : Addr} {rsM4Kinds : List Value}
    {fM9Kinds : Addr} {odM9Kinds anM9Kinds : Option Addr} {slM9Kinds : Array (Option Value)} {ocM9Kinds kVM9Kinds dcM9Kinds pmM9Kinds cdM9Kinds ctM9Kinds : Value}
    {fM10Kinds : Addr} {odM10Kinds anM10Kinds : Option Addr} {slM10Kinds : Array (Option Value)} {ocM10Kinds kVM10Kinds dcM10Kinds pmM10Kinds cdM10Kinds ctM10Kinds : Value}
    {fM12Kinds : Addr} {odM12Kinds anM12Kinds : Option Addr} {slM12Kinds : Array (Option Value)} {ocM12Kinds kVM12Kinds dcM12Kinds pmM12Kinds cdM12Kinds ctM12Kinds : Value}
    {fM13Kinds : Addr} {odM13Kinds anM13Kinds : Option Addr} {slM13Kinds : Array (Option Value)} {ocM13Kinds kVM13Kinds dcM13Kinds pmM13Kinds cdM13Kinds ctM13Kinds : Value}
    {fM14Kinds : Addr} {odM14Kinds anM14Kinds : Option Addr} {slM14Kinds : Array (Option Value)} {ocM14Kinds kVM14Kinds dcM14Kinds pmM14Kinds cdM14Kinds ctM14Kinds : Value}
    {CoPage : Addr}
    {fM0Page : Addr} {odM0Page anM0Page : Option Addr} {slM0Page : Array (Option Value)} {ocM0Page kVM0Page dcM0Page pmM0Page cdM0Page ctM0Page : Value}
    {fM2Page : Addr} {odM2Page anM2Page : Option Addr} {slM2Page : Array (Option Value)} {ocM2Page kVM2Page dcM2Page pmM2Page cdM2Page ctM2Page : Value}
    {qM2Page : Addr} {rsM2Page : List Value}
    {fM3Page : Addr} {odM3Page anM3Page : Option Addr} {slM3Page : Array (Option Value)} {ocM3Page kVM3Page dcM3Page pmM3Page cdM3Page ctM3Page : Value}
    {qM3Page : Addr} {rsM3Page : List Value}
    {fM4Page : Addr} {odM4Page anM4Page : Option Addr} {slM4Page : Array (Option Value)} {ocM4Page kVM4Page dcM4Page pmM4Page cdM4Page ctM4Page : Value}
    {qM4Page : Addr} {rsM4Page : List Value}
    {fM5Page : Addr} {odM5Page anM5Page : Option Addr} {slM5Page : Array (Option Value)} {ocM5Page kVM5Page dcM5Page pmM5Page cdM5Page ctM5Page : Value}
    {qM5Page : Addr} {rsM5Page : List Value}
    {fM6Page : Addr} {odM6Page anM6Page : Option Addr} {slM6Page : Array (Option Value)} {ocM6Page kVM6Page dcM6Page pmM6Page cdM6Page ctM6Page : Value}
    {qM6Page : Addr} {rsM6Page : List Value}
    {fM7Page : Addr} {odM7Page anM7Page : Option Addr} {slM7Page : Array (Option Value)} {ocM7Page kVM7Page dcM7Page pmM7Page cdM7Page ctM7Page : Value}
    {qM7Page : Addr} {rsM7Page : List Value}
    {fM8Page : Addr} {odM8Page anM8Page : Option Addr} {slM8Page : Array (Option Value)} {ocM8Page kVM8Page dcM8Page pmM8Page cdM8Page ctM8Page : Value}
    {fM9Page : Addr} {odM9Page anM9Page : Option Addr} {slM9Page : Array (Option Value)} {ocM9Page kVM9Page dcM9Page pmM9Page cdM9Page ctM9Page : Value}
    {fM10Page : Addr} {odM10Page anM10Page : Option Addr} {slM10Page : Array (Option Value)} {ocM10Page kVM10Page dcM10Page pmM10Page cdM10Page ctM10Page : Value}
    {fM11Page : Addr} {odM11Page anM11Page : Option Addr} {slM11Page : Array (Option Value)} {ocM11Page kVM11Page dcM11Page pmM11Page cdM11Page ctM11Page : Value}
    {fQ1Page qQ1Page : Addr} {odQ1Page anQ1Page : Option Addr} {slQ1Page : Array (Option Value)} {ocQ1Page kVQ1Page dcQ1Page pmQ1Page cdQ1Page ctQ1Page : Value} {rsQ1Page : List Value}
    {t0 : Tok}
    {t1 : Tok}
    {t2 : Tok}
    {t3 : Tok}
    {t4 : Tok}
    {t5 : Tok}
    {aU0 : Addr} {odU0 : Option Addr} {nU0 : Nat} {slU0 : Array (Option Value)} {tu0_0 tu0_1 tu0_2 : Tok}
    (ge0 : PySem.W.nsIn K mainGlobals "ParseError" = some (some (.ref Ce0))) (he0 : K.lookup Ce0 = some (excClassObj nme0 qne0 Ce0 Ne0 bse0 bme0 true sne0 sube0 abe0 cole0 dde0 k0e0 k1e0 k2e0 k3e0 k5e0 "ValueError.__new__")) (te0 : PySem.W.excTail [.type "ValueError", .type "Exception", .type "BaseException", .type "object"] bme0 = true) (oe0 : PySem.W.excOver K Ce0 [.type "ValueError", .type "Exception", .type "BaseException", .type "object"] = true) (qe0 : PySem.W.takerIn K Ce0 "number" = some none) (de0 : PySem.W.hasDictIn K Ce0 = true) (se0 : PySem.W.findIn K (.ref Ce0) "__setattr__" = some (some (.builtin "object.__setattr__"))) (ue0 : PySem.W.findIn K (.ref Ce0) "__getattribute__" = some (some (.builtin "BaseException.__getattribute__"))) (ve0 : PySem.W.findIn K (.ref Ce0) "__getattr__" = some none) (ne0 : PySem.W.findIn K (.ref Ce0) "number" = some none) (ie0 : PySem.W.findIn K (.ref Ce0) "__init__" = some (some (.ref fe0))) (ye0 : PySem.W.typeIn K (.ref fe0) = some (.type "function")) (ke0 : PySem.W.keepIn K (.ref Ce0) = true) (be0 : PySem.W.subIn K (.ref Ce0) (.type "BaseException") = some true) (we0 : PySem.W.typeIn K (.ref Ce0) = some (.type "type")) (xe0 : PySem.W.isClsIn K Ce0 = true) (re0 : PySem.W.subIn K (.ref Ce0) (.ref Ce0) = some true) (le0 : K.lookup fe0 = some ⟨oce0, ode0, .func (PySem.W.fnOf "__init__" "ParseError.__init__" (defArgs s_ParseError_init) (defBody s_ParseError_init) (defScope s_ParseError_init) .none kVe0 dce0 pme0 ane0 cde0 cte0), sle0⟩) (ce0 : PySem.W.codeIn K cde0 "ParseError.__init__" = true) (pe0 : PySem.W.keepIn K (.ref fe0) = true)
    (ge1 : PySem.W.nsIn K mainGlobals "UnknownName" = some (some (.ref Ce1))) (he1 : K.lookup Ce1 = some (excClassObj nme1 qne1 Ce1 Ne1 bse1 bme1 true sne1 sube1 abe1 cole1 dde1 k0e1 k1e1 k2e1 k3e1 k5e1 "LookupError.__new__")) (te1 : PySem.W.excTail [.type "KeyError", .type "LookupError", .type "Exception", .type "BaseException", .type "object"] bme1 = true) (oe1 : PySem.W.excOver K Ce1 [.type "KeyError", .type "LookupError", .type "Exception", .type "BaseException", .type "object"] = true) (qe1 : PySem.W.takerIn K Ce1 "word" = some none) (de1 : PySem.W.hasDictIn K Ce1 = true) (se1 : PySem.W.findIn K (.ref Ce1) "__setattr__" = some (some (.builtin "object.__setattr__"))) (ue1 : PySem.W.findIn K (.ref Ce1) "__getattribute__" = some (some (.builtin "BaseException.__getattribute__"))) (ve1 : PySem.W.findIn K (.ref Ce1) "__getattr__" = some none) (ne1 : PySem.W.findIn K (.ref Ce1) "word" = some none) (ie1 : PySem.W.findIn K (.ref Ce1) "__init__" = some (some (.ref fe1))) (ye1 : PySem.W.typeIn K (.ref fe1) = some (.type "function")) (ke1 : PySem.W.keepIn K (.ref Ce1) = true) (be1 : PySem.W.subIn K (.ref Ce1) (.type "BaseException") = some true) (we1 : PySem.W.typeIn K (.ref Ce1) = some (.type "type")) (xe1 : PySem.W.isClsIn K Ce1 = true) (re1 : PySem.W.subIn K (.ref Ce1) (.ref Ce1) = some true) (le1 : K.lookup fe1 = some ⟨oce1, ode1, .func (PySem.W.fnOf "__init__" "UnknownName.__init__" (defArgs s_UnknownName_init) (defBody s_UnknownName_init) (defScope s_UnknownName_init) .none kVe1 dce1 pme1 ane1 cde1 cte1), sle1⟩) (ce1 : PySem.W.codeIn K cde1 "UnknownName.__init__" = true) (pe1 : PySem.W.keepIn K (.ref fe1) = true)
    (ge2 : PySem.W.nsIn K mainGlobals "InvalidNumber" = some (some (.ref Ce2))) (he2 : K.lookup Ce2 = some (excClassObj nme2 qne2 Ce2 Ne2 bse2 bme2 true sne2 sube2 abe2 cole2 dde2 k0e2 k1e2 k2e2 k3e2 k5e2 "IndexError.__new__")) (te2 : PySem.W.excTail [.type "IndexError", .type "LookupError", .type "Exception", .type "BaseException", .type "object"] bme2 = true) (oe2 : PySem.W.excOver K Ce2 [.type "IndexError", .type "LookupError", .type "Exception", .type "BaseException", .type "object"] = true) (qe2 : PySem.W.takerIn K Ce2 "value" = some none) (de2 : PySem.W.hasDictIn K Ce2 = true) (se2 : PySem.W.findIn K (.ref Ce2) "__setattr__" = some (some (.builtin "object.__setattr__"))) (ue2 : PySem.W.findIn K (.ref Ce2) "__getattribute__" = some (some (.builtin "BaseException.__getattribute__"))) (ve2 : PySem.W.findIn K (.ref Ce2) "__getattr__" = some none) (ne2 : PySem.W.findIn K (.ref Ce2) "value" = some none) (ie2 : PySem.W.findIn K (.ref Ce2) "__init__" = some (some (.ref fe2))) (ye2 : PySem.W.typeIn K (.ref fe2) = some (.type "function")) (ke2 : PySem.W.keepIn K (.ref Ce2) = true) (be2 : PySem.W.subIn K (.ref Ce2) (.type "BaseException") = some true) (we2 : PySem.W.typeIn K (.ref Ce2) = some (.type "type")) (xe2 : PySem.W.isClsIn K Ce2 = true) (re2 : PySem.W.subIn K (.ref Ce2) (.ref Ce2) = some true) (le2 : K.lookup fe2 = some ⟨oce2, ode2, .func (PySem.W.fnOf "__init__" "InvalidNumber.__init__" (defArgs s_InvalidNumber_init) (defBody s_InvalidNumber_init) (defScope s_InvalidNumber_init) .none kVe2 dce2 pme2 ane2 cde2 cte2), sle2⟩) (ce2 : PySem.W.codeIn K cde2 "InvalidNumber.__init__" = true) (pe2 : PySem.W.keepIn K (.ref fe2) = true)
    (gy0 : PySem.W.nsIn K mainGlobals "InvalidPage" = some (some (.ref Cy0))) (hy0 : K.lookup Cy0 = some (excClassObj nmy0 qny0 Cy0 Ny0 bsy0 bmy0 hdy0 sny0 suby0 aby0 coly0 ddy0 k0y0 k1y0 k2y0 k3y0 k5y0 "ValueError.__new__")) (ty0 : PySem.W.excTail [.type "ValueError", .type "Exception", .type "BaseException", .type "object"] bmy0 = true) (iy0 : PySem.W.findIn K (.ref Cy0) "__init__" = some (some (.builtin "ValueError.__init__"))) (ky0 : PySem.W.keepIn K (.ref Cy0) = true) (by0 : PySem.W.subIn K (.ref Cy0) (.type "BaseException") = some true) (wy0 : PySem.W.typeIn K (.ref Cy0) = some (.type "type")) (xy0 : PySem.W.isClsIn K Cy0 = true) (ry0 : PySem.W.subIn K (.ref Cy0) (.ref Cy0) = some true) (zy0 : xclsB K Cy0 = true)
    (gy1 : PySem.W.nsIn K mainGlobals "InvalidOperation" = some (some (.ref Cy1))) (hy1 : K.lookup Cy1 = some (excClassObj nmy1 qny1 Cy1 Ny1 bsy1 bmy1 hdy1 sny1 suby1 aby1 coly1 ddy1 k0y1 k1y1 k2y1 k3y1 k5y1 "ValueError.__new__")) (ty1 : PySem.W.excTail [.type "ValueError", .type "Exception", .type "BaseException", .type "object"] bmy1 = true) (iy1 : PySem.W.findIn K (.ref Cy1) "__init__" = some (some (.builtin "ValueError.__init__"))) (ky1 : PySem.W.keepIn K (.ref Cy1) = true) (by1 : PySem.W.subIn K (.ref Cy1) (.type "BaseException") = some true) (wy1 : PySem.W.typeIn K (.ref Cy1) = some (.type "type")) (xy1 : PySem.W.isClsIn K Cy1 = true) (ry1 : PySem.W.subIn K (.ref Cy1) (.ref Cy1) = some true) (zy1 : xclsB K Cy1 = true)
    (gy2 : PySem.W.nsIn K mainGlobals "InvalidKinds" = some (some (.ref Cy2))) (hy2 : K.lookup Cy2 = some (excClassObj nmy2 qny2 Cy2 Ny2 bsy2 bmy2 hdy2 sny2 suby2 aby2 coly2 ddy2 k0y2 k1y2 k2y2 k3y2 k5y2 "ValueError.__new__")) (ty2 : PySem.W.excTail [.type "ValueError", .type "Exception", .type "BaseException", .type "object"] bmy2 = true) (iy2 : PySem.W.findIn K (.ref Cy2) "__init__" = some (some (.builtin "ValueError.__init__"))) (ky2 : PySem.W.keepIn K (.ref Cy2) = true) (by2 : PySem.W.subIn K (.ref Cy2) (.type "BaseException") = some true) (wy2 : PySem.W.typeIn K (.ref Cy2) = some (.type "type")) (xy2 : PySem.W.isClsIn K Cy2 = true) (ry2 : PySem.W.subIn K (.ref Cy2) (.ref Cy2) = some true) (zy2 : xclsB K Cy2 = true)
    (a0 : PySem.W.nsIn K mainGlobals "_wall" = some (some (.ref f0))) (l0 : K.lookup f0 = some ⟨oc0, od0, .func (PySem.W.fnOf "_wall" "_wall" (defArgs s_wall) (defBody s_wall) (defScope s_wall) .none kV0 dc0 pm0 an0 cd0 ct0), sl0⟩) (c0 : PySem.W.codeIn K cd0 "_wall" = true) (k0 : PySem.W.keepIn K (.ref f0) = true)
    (a1 : PySem.W.nsIn K mainGlobals "is_integer" = some (some (.ref f1))) (l1 : K.lookup f1 = some ⟨oc1, od1, .func (PySem.W.fnOf "is_integer" "is_integer" (defArgs s_is_integer) (defBody s_is_integer) (defScope s_is_integer) .none kV1 dc1 pm1 an1 cd1 ct1), sl1⟩) (c1 : PySem.W.codeIn K cd1 "is_integer" = true) (k1 : PySem.W.keepIn K (.ref f1) = true)
    (a2 : PySem.W.nsIn K mainGlobals "is_count" = some (some (.ref f2))) (l2 : K.lookup f2 = some ⟨oc2, od2, .func (PySem.W.fnOf "is_count" "is_count" (defArgs s_is_count) (defBody s_is_count) (defScope s_is_count) .none kV2 dc2 pm2 an2 cd2 ct2), sl2⟩) (c2 : PySem.W.codeIn K cd2 "is_count" = true) (k2 : PySem.W.keepIn K (.ref f2) = true)
    (a3 : PySem.W.nsIn K mainGlobals "is_name" = some (some (.ref f3))) (l3 : K.lookup f3 = some ⟨oc3, od3, .func (PySem.W.fnOf "is_name" "is_name" (defArgs s_is_name) (defBody s_is_name) (defScope s_is_name) .none kV3 dc3 pm3 an3 cd3 ct3), sl3⟩) (c3 : PySem.W.codeIn K cd3 "is_name" = true) (k3 : PySem.W.keepIn K (.ref f3) = true)
    (a4 : PySem.W.nsIn K mainGlobals "is_sorted" = some (some (.ref f4))) (l4 : K.lookup f4 = some ⟨oc4, od4, .func (PySem.W.fnOf "is_sorted" "is_sorted" (defArgs s_is_sorted) (defBody s_is_sorted) (defScope s_is_sorted) .none kV4 dc4 pm4 an4 cd4 ct4), sl4⟩) (c4 : PySem.W.codeIn K cd4 "is_sorted" = true) (k4 : PySem.W.keepIn K (.ref f4) = true)
    (a5 : PySem.W.nsIn K mainGlobals "words_of" = some (some (.ref f5))) (l5 : K.lookup f5 = some ⟨oc5, od5, .func (PySem.W.fnOf "words_of" "words_of" (defArgs s_words_of) (defBody s_words_of) (defScope s_words_of) .none kV5 dc5 pm5 an5 cd5 ct5), sl5⟩) (c5 : PySem.W.codeIn K cd5 "words_of" = true) (k5 : PySem.W.keepIn K (.ref f5) = true)
    (a6 : PySem.W.nsIn K mainGlobals "names_in" = some (some (.ref f6))) (l6 : K.lookup f6 = some ⟨oc6, od6, .func (PySem.W.fnOf "names_in" "names_in" (defArgs s_names_in) (defBody s_names_in) (defScope s_names_in) .none kV6 dc6 pm6 an6 cd6 ct6), sl6⟩) (c6 : PySem.W.codeIn K cd6 "names_in" = true) (k6 : PySem.W.keepIn K (.ref f6) = true)
    (a7 : PySem.W.nsIn K mainGlobals "text_of" = some (some (.ref f7))) (l7 : K.lookup f7 = some ⟨oc7, od7, .func (PySem.W.fnOf "text_of" "text_of" (defArgs s_text_of) (defBody s_text_of) (defScope s_text_of) .none kV7 dc7 pm7 an7 cd7 ct7), sl7⟩) (c7 : PySem.W.codeIn K cd7 "text_of" = true) (k7 : PySem.W.keepIn K (.ref f7) = true)
    (a8 : PySem.W.nsIn K mainGlobals "_is_making" = some (some (.ref f8))) (l8 : K.lookup f8 = some ⟨oc8, od8, .func (PySem.W.fnOf "_is_making" "_is_making" (defArgs s_is_making) (defBody s_is_making) (defScope s_is_making) .none kV8 dc8 pm8 an8 cd8 ct8), sl8⟩) (c8 : PySem.W.codeIn K cd8 "_is_making" = true) (k8 : PySem.W.keepIn K (.ref f8) = true)
    (a9 : PySem.W.nsIn K mainGlobals "_all_names" = some (some (.ref f9))) (l9 : K.lookup f9 = some ⟨oc9, od9, .func (PySem.W.fnOf "_all_names" "_all_names" (defArgs s_all_names) (defBody s_all_names) (defScope s_all_names) .none kV9 dc9 pm9 an9 cd9 ct9), sl9⟩) (c9 : PySem.W.codeIn K cd9 "_all_names" = true) (k9 : PySem.W.keepIn K (.ref f9) = true)
    (a10 : PySem.W.nsIn K mainGlobals "_are_kinds" = some (some (.ref f10))) (l10 : K.lookup f10 = some ⟨oc10, od10, .func (PySem.W.fnOf "_are_kinds" "_are_kinds" (defArgs s_are_kinds) (defBody s_are_kinds) (defScope s_are_kinds) .none kV10 dc10 pm10 an10 cd10 ct10), sl10⟩) (c10 : PySem.W.codeIn K cd10 "_are_kinds" = true) (k10 : PySem.W.keepIn K (.ref f10) = true)
    (a11 : PySem.W.nsIn K mainGlobals "_is_place" = some (some (.ref f11))) (l11 : K.lookup f11 = some ⟨oc11, od11, .func (PySem.W.fnOf "_is_place" "_is_place" (defArgs s_is_place) (defBody s_is_place) (defScope s_is_place) .none kV11 dc11 pm11 an11 cd11 ct11), sl11⟩) (c11 : PySem.W.codeIn K cd11 "_is_place" = true) (k11 : PySem.W.keepIn K (.ref f11) = true)
    (a12 : PySem.W.nsIn K mainGlobals "page_line" = some (some (.ref f12))) (l12 : K.lookup f12 = some ⟨oc12, od12, .func (PySem.W.fnOf "page_line" "page_line" (defArgs s_page_line) (defBody s_page_line) (defScope s_page_line) .none kV12 dc12 pm12 an12 cd12 ct12), sl12⟩) (c12 : PySem.W.codeIn K cd12 "page_line" = true) (k12 : PySem.W.keepIn K (.ref f12) = true)
    (a13 : PySem.W.nsIn K mainGlobals "_left" = some (some (.ref f13))) (l13 : K.lookup f13 = some ⟨oc13, od13, .func (PySem.W.fnOf "_left" "_left" (defArgs s_left) (defBody s_left) (defScope s_left) .none kV13 dc13 pm13 an13 cd13 ct13), sl13⟩) (c13 : PySem.W.codeIn K cd13 "_left" = true) (k13 : PySem.W.keepIn K (.ref f13) = true)
    (a14 : PySem.W.nsIn K mainGlobals "_law_dice" = some (some (.ref f14))) (l14 : K.lookup f14 = some ⟨oc14, od14, .func (PySem.W.fnOf "_law_dice" "_law_dice" (defArgs s_law_dice) (defBody s_law_dice) (defScope s_law_dice) .none kV14 dc14 pm14 an14 cd14 ct14), sl14⟩) (c14 : PySem.W.codeIn K cd14 "_law_dice" = true) (k14 : PySem.W.keepIn K (.ref f14) = true)
    (a15 : PySem.W.nsIn K mainGlobals "_law_roll" = some (some (.ref f15))) (l15 : K.lookup f15 = some ⟨oc15, od15, .func (PySem.W.fnOf "_law_roll" "_law_roll" (defArgs s_law_roll) (defBody s_law_roll) (defScope s_law_roll) .none kV15 dc15 pm15 an15 cd15 ct15), sl15⟩) (c15 : PySem.W.codeIn K cd15 "_law_roll" = true) (k15 : PySem.W.keepIn K (.ref f15) = true)
    (a16 : PySem.W.nsIn K mainGlobals "_law_pick" = some (some (.ref f16))) (l16 : K.lookup f16 = some ⟨oc16, od16, .func (PySem.W.fnOf "_law_pick" "_law_pick" (defArgs s_law_pick) (defBody s_law_pick) (defScope s_law_pick) .none kV16 dc16 pm16 an16 cd16 ct16), sl16⟩) (c16 : PySem.W.codeIn K cd16 "_law_pick" = true) (k16 : PySem.W.keepIn K (.ref f16) = true)
    (a17 : PySem.W.nsIn K mainGlobals "_law_digit_text" = some (some (.ref f17))) (l17 : K.lookup f17 = some ⟨oc17, od17, .func (PySem.W.fnOf "_law_digit_text" "_law_digit_text" (defArgs s_law_digit_text) (defBody s_law_digit_text) (defScope s_law_digit_text) .none kV17 dc17 pm17 an17 cd17 ct17), sl17⟩) (c17 : PySem.W.codeIn K cd17 "_law_digit_text" = true) (k17 : PySem.W.keepIn K (.ref f17) = true)
    (a18 : PySem.W.nsIn K mainGlobals "_law_digit" = some (some (.ref f18))) (l18 : K.lookup f18 = some ⟨oc18, od18, .func (PySem.W.fnOf "_law_digit" "_law_digit" (defArgs s_law_digit) (defBody s_law_digit) (defScope s_law_digit) .none kV18 dc18 pm18 an18 cd18 ct18), sl18⟩) (c18 : PySem.W.codeIn K cd18 "_law_digit" = true) (k18 : PySem.W.keepIn K (.ref f18) = true)
    (a19 : PySem.W.nsIn K mainGlobals "_law_without" = some (some (.ref f19))) (l19 : K.lookup f19 = some ⟨oc19, od19, .func (PySem.W.fnOf "_law_without" "_law_without" (defArgs s_law_without) (defBody s_law_without) (defScope s_law_without) .none kV19 dc19 pm19 an19 cd19 ct19), sl19⟩) (c19 : PySem.W.codeIn K cd19 "_law_without" = true) (k19 : PySem.W.keepIn K (.ref f19) = true)
    (a20 : PySem.W.nsIn K mainGlobals "_law_is_names" = some (some (.ref f20))) (l20 : K.lookup f20 = some ⟨oc20, od20, .func (PySem.W.fnOf "_law_is_names" "_law_is_names" (defArgs s_law_is_names) (defBody s_law_is_names) (defScope s_law_is_names) .none kV20 dc20 pm20 an20 cd20 ct20), sl20⟩) (c20 : PySem.W.codeIn K cd20 "_law_is_names" = true) (k20 : PySem.W.keepIn K (.ref f20) = true)
    (a21 : PySem.W.nsIn K mainGlobals "_law_page_in" = some (some (.ref f21))) (l21 : K.lookup f21 = some ⟨oc21, od21, .func (PySem.W.fnOf "_law_page_in" "_law_page_in" (defArgs s_law_page_in) (defBody s_law_page_in) (defScope s_law_page_in) .none kV21 dc21 pm21 an21 cd21 ct21), sl21⟩) (c21 : PySem.W.codeIn K cd21 "_law_page_in" = true) (k21 : PySem.W.keepIn K (.ref f21) = true)
    (a22 : PySem.W.nsIn K mainGlobals "_law_read" = some (some (.ref f22))) (l22 : K.lookup f22 = some ⟨oc22, od22, .func (PySem.W.fnOf "_law_read" "_law_read" (defArgs s_law_read) (defBody s_law_read) (defScope s_law_read) .none kV22 dc22 pm22 an22 cd22 ct22), sl22⟩) (c22 : PySem.W.codeIn K cd22 "_law_read" = true) (k22 : PySem.W.keepIn K (.ref f22) = true)
    (a23 : PySem.W.nsIn K mainGlobals "_law_drawn_page" = some (some (.ref f23))) (l23 : K.lookup f23 = some ⟨oc23, od23, .func (PySem.W.fnOf "_law_drawn_page" "_law_drawn_page" (defArgs s_law_drawn_page) (defBody s_law_drawn_page) (defScope s_law_drawn_page) .none kV23 dc23 pm23 an23 cd23 ct23), sl23⟩) (c23 : PySem.W.codeIn K cd23 "_law_drawn_page" = true) (k23 : PySem.W.keepIn K (.ref f23) = true)
    (a24 : PySem.W.nsIn K mainGlobals "_law_bent" = some (some (.ref f24))) (l24 : K.lookup f24 = some ⟨oc24, od24, .func (PySem.W.fnOf "_law_bent" "_law_bent" (defArgs s_law_bent) (defBody s_law_bent) (defScope s_law_bent) .none kV24 dc24 pm24 an24 cd24 ct24), sl24⟩) (c24 : PySem.W.codeIn K cd24 "_law_bent" = true) (k24 : PySem.W.keepIn K (.ref f24) = true)
    (a25 : PySem.W.nsIn K mainGlobals "_law_line_of" = some (some (.ref f25))) (l25 : K.lookup f25 = some ⟨oc25, od25, .func (PySem.W.fnOf "_law_line_of" "_law_line_of" (defArgs s_law_line_of) (defBody s_law_line_of) (defScope s_law_line_of) .none kV25 dc25 pm25 an25 cd25 ct25), sl25⟩) (c25 : PySem.W.codeIn K cd25 "_law_line_of" = true) (k25 : PySem.W.keepIn K (.ref f25) = true)
    (a26 : PySem.W.nsIn K mainGlobals "_law_right" = some (some (.ref f26))) (l26 : K.lookup f26 = some ⟨oc26, od26, .func (PySem.W.fnOf "_law_right" "_law_right" (defArgs s_law_right) (defBody s_law_right) (defScope s_law_right) .none kV26 dc26 pm26 an26 cd26 ct26), sl26⟩) (c26 : PySem.W.codeIn K cd26 "_law_right" = true) (k26 : PySem.W.keepIn K (.ref f26) = true)
    (a27 : PySem.W.nsIn K mainGlobals "_law_left" = some (some (.ref f27))) (l27 : K.lookup f27 = some ⟨oc27, od27, .func (PySem.W.fnOf "_law_left" "_law_left" (defArgs s_law_left) (defBody s_law_left) (defScope s_law_left) .none kV27 dc27 pm27 an27 cd27 ct27), sl27⟩) (c27 : PySem.W.codeIn K cd27 "_law_left" = true) (k27 : PySem.W.keepIn K (.ref f27) = true)
    (a28 : PySem.W.nsIn K mainGlobals "_law_left_right" = some (some (.ref f28))) (l28 : K.lookup f28 = some ⟨oc28, od28, .func (PySem.W.fnOf "_law_left_right" "_law_left_right" (defArgs s_law_left_right) (defBody s_law_left_right) (defScope s_law_left_right) .none kV28 dc28 pm28 an28 cd28 ct28), sl28⟩) (c28 : PySem.W.codeIn K cd28 "_law_left_right" = true) (k28 : PySem.W.keepIn K (.ref f28) = true)
    (a29 : PySem.W.nsIn K mainGlobals "law" = some (some (.ref f29))) (l29 : K.lookup f29 = some ⟨oc29, od29, .func (PySem.W.fnOf "law" "law" (defArgs s_law) (defBody s_law) (defScope s_law) .none kV29 dc29 pm29 an29 cd29 ct29), sl29⟩) (c29 : PySem.W.codeIn K cd29 "law" = true) (k29 : PySem.W.keepIn K (.ref f29) = true)
    (goKinds : PySem.W.nsIn K mainGlobals "Kinds" = some (some (.ref CoKinds)))
    (pgoKinds : PySem.W.plainGet K CoKinds Str.empty = true)
    (hdoKinds : PySem.W.hasDictIn K CoKinds = true)
    (pooKinds : PySem.W.plainOver K CoKinds = true)
    (saoKinds : PySem.W.findIn K (.ref CoKinds) "__setattr__" = some (some (.builtin "object.__setattr__")))
    (mkoKinds : PySem.W.makesIn K CoKinds = true)
    (kcoKinds : PySem.W.keepIn K (.ref CoKinds) = true)
    (neoKinds : PySem.W.findIn K (.ref CoKinds) "__ne__" = some (some (.builtin "object.__ne__")))
    (oboKinds : PySem.W.mroIn K CoKinds (.type "object") = some true)
    (kioKinds : PySem.W.kitOne K (.ref CoKinds) (.ref CoKinds) = some true)
    (ktoKinds : PySem.W.kitOne K (.type "tuple") (.ref CoKinds) = some false)
    (kdoKinds : PySem.W.kitOne K (.type "dict") (.ref CoKinds) = some false)
    (kroKinds : PySem.W.kitOne K (.ref CoKinds) (.type "tuple") = some false)
    (ksoKinds : PySem.W.kitOne K (.ref CoKinds) (.type "str") = some false)
    (kNoneTypeoKinds : PySem.W.kitOne K (.type "NoneType") (.ref CoKinds) = some false)
    (kintoKinds : PySem.W.kitOne K (.type "int") (.ref CoKinds) = some false)
    (kbooloKinds : PySem.W.kitOne K (.type "bool") (.ref CoKinds) = some false)
    (kstroKinds : PySem.W.kitOne K (.type "str") (.ref CoKinds) = some false)
    (klistoKinds : PySem.W.kitOne K (.type "list") (.ref CoKinds) = some false)
    (caoKinds : PySem.W.findIn K (.ref CoKinds) "__class__" = some (some (.builtin "object.__class__")))
    (cgoKinds : PySem.W.specialIn K (.builtin "object.__class__") "__get__" = some (some (.builtin "getset_descriptor.__get__")))
    (ctoKinds : PySem.W.takesIn K (.builtin "object.__class__") = some true)
    (n_leafoKinds : PySem.W.findIn K (.ref CoKinds) "_leaf" = some none)
    (n_makingsoKinds : PySem.W.findIn K (.ref CoKinds) "_makings" = some none)
    (n_namesoKinds : PySem.W.findIn K (.ref CoKinds) "_names" = some none)
    (atM0Kinds : PySem.W.findIn K (.ref CoKinds) "__init__" = some (some (.ref fM0Kinds)))
    (ifM0Kinds : PySem.W.isFn K (.ref fM0Kinds) = true)
    (lM0Kinds : K.lookup fM0Kinds = some ⟨ocM0Kinds, odM0Kinds, .func (PySem.W.fnOf "__init__" "Kinds.__init__" (defArgs s_Kinds_init) (defBody s_Kinds_init) (defScope s_Kinds_init) .none kVM0Kinds dcM0Kinds pmM0Kinds anM0Kinds cdM0Kinds ctM0Kinds), slM0Kinds⟩)
    (cM0Kinds : PySem.W.codeIn K cdM0Kinds "Kinds.__init__" = true)
    (kM0Kinds : PySem.W.keepIn K (.ref fM0Kinds) = true)
    (atM2Kinds : PySem.W.findIn K (.ref CoKinds) "leaf" = some (some (.ref qM2Kinds)))
    (geM2Kinds : PySem.W.specialIn K (.ref qM2Kinds) "__get__" = some (some (.builtin "property.__get__")))
    (taM2Kinds : PySem.W.takesIn K (.ref qM2Kinds) = some true)
    (reM2Kinds : PySem.W.recIn K qM2Kinds "property" = some (.ref fM2Kinds :: rsM2Kinds))
    (lM2Kinds : K.lookup fM2Kinds = some ⟨ocM2Kinds, odM2Kinds, .func (PySem.W.fnOf "leaf" "Kinds.leaf" (defArgs s_Kinds_leaf) (defBody s_Kinds_leaf) (defScope s_Kinds_leaf) .none kVM2Kinds dcM2Kinds pmM2Kinds anM2Kinds cdM2Kinds ctM2Kinds), slM2Kinds⟩)
    (cM2Kinds : PySem.W.codeIn K cdM2Kinds "Kinds.leaf" = true)
    (kM2Kinds : PySem.W.keepIn K (.ref fM2Kinds) = true)
    (atM3Kinds : PySem.W.findIn K (.ref CoKinds) "makings" = some (some (.ref qM3Kinds)))
    (geM3Kinds : PySem.W.specialIn K (.ref qM3Kinds) "__get__" = some (some (.builtin "property.__get__")))
    (taM3Kinds : PySem.W.takesIn K (.ref qM3Kinds) = some true)
    (reM3Kinds : PySem.W.recIn K qM3Kinds "property" = some (.ref fM3Kinds :: rsM3Kinds))
    (lM3Kinds : K.lookup fM3Kinds = some ⟨ocM3Kinds, odM3Kinds, .func (PySem.W.fnOf "makings" "Kinds.makings" (defArgs s_Kinds_makings) (defBody s_Kinds_makings) (defScope s_Kinds_makings) .none kVM3Kinds dcM3Kinds pmM3Kinds anM3Kinds cdM3Kinds ctM3Kinds), slM3Kinds⟩)
    (cM3Kinds : PySem.W.codeIn K cdM3Kinds "Kinds.makings" = true)
    (kM3Kinds : PySem.W.keepIn K (.ref fM3Kinds) = true)
    (atM4Kinds : PySem.W.findIn K (.ref CoKinds) "names" = some (some (.ref qM4Kinds)))
    (geM4Kinds : PySem.W.specialIn K (.ref qM4Kinds) "__get__" = some (some (.builtin "property.__get__")))
    (taM4Kinds : PySem.W.takesIn K (.ref qM4Kinds) = some true)
    (reM4Kinds : PySem.W.recIn K qM4Kinds "property" = some (.ref fM4Kinds :: rsM4Kinds))
    (lM4Kinds : K.lookup fM4Kinds = some ⟨ocM4Kinds, odM4Kinds, .func (PySem.W.fnOf "names" "Kinds.names" (defArgs s_Kinds_names) (defBody s_Kinds_names) (defScope s_Kinds_names) .none kVM4Kinds dcM4Kinds pmM4Kinds anM4Kinds cdM4Kinds ctM4Kinds), slM4Kinds⟩)
    (cM4Kinds : PySem.W.codeIn K cdM4Kinds "Kinds.names" = true)
    (kM4Kinds : PySem.W.keepIn K (.ref fM4Kinds) = true)
    (atM9Kinds : PySem.W.findIn K (.ref CoKinds) "__contains__" = some (some (.ref fM9Kinds)))
    (ifM9Kinds : PySem.W.isFn K (.ref fM9Kinds) = true)
    (lM9Kinds : K.lookup fM9Kinds = some ⟨ocM9Kinds, odM9Kinds, .func (PySem.W.fnOf "__contains__" "Kinds.__contains__" (defArgs s_Kinds_contains) (defBody s_Kinds_contains) (defScope s_Kinds_contains) .none kVM9Kinds dcM9Kinds pmM9Kinds anM9Kinds cdM9Kinds ctM9Kinds), slM9Kinds⟩)
    (cM9Kinds : PySem.W.codeIn K cdM9Kinds "Kinds.__contains__" = true)
    (kM9Kinds : PySem.W.keepIn K (.ref fM9Kinds) = true)
    (atM10Kinds : PySem.W.findIn K (.ref CoKinds) "__getitem__" = some (some (.ref fM10Kinds)))
    (ifM10Kinds : PySem.W.isFn K (.ref fM10Kinds) = true)
    (lM10Kinds : K.lookup fM10Kinds = some ⟨ocM10Kinds, odM10Kinds, .func (PySem.W.fnOf "__getitem__" "Kinds.__getitem__" (defArgs s_Kinds_getitem) (defBody s_Kinds_getitem) (defScope s_Kinds_getitem) .none kVM10Kinds dcM10Kinds pmM10Kinds anM10Kinds cdM10Kinds ctM10Kinds), slM10Kinds⟩)
    (cM10Kinds : PySem.W.codeIn K cdM10Kinds "Kinds.__getitem__" = true)
    (kM10Kinds : PySem.W.keepIn K (.ref fM10Kinds) = true)
    (atM12Kinds : PySem.W.findIn K (.ref CoKinds) "__len__" = some (some (.ref fM12Kinds)))
    (ifM12Kinds : PySem.W.isFn K (.ref fM12Kinds) = true)
    (lM12Kinds : K.lookup fM12Kinds = some ⟨ocM12Kinds, odM12Kinds, .func (PySem.W.fnOf "__len__" "Kinds.__len__" (defArgs s_Kinds_len) (defBody s_Kinds_len) (defScope s_Kinds_len) .none kVM12Kinds dcM12Kinds pmM12Kinds anM12Kinds cdM12Kinds ctM12Kinds), slM12Kinds⟩)
    (cM12Kinds : PySem.W.codeIn K cdM12Kinds "Kinds.__len__" = true)
    (kM12Kinds : PySem.W.keepIn K (.ref fM12Kinds) = true)
    (atM13Kinds : PySem.W.findIn K (.ref CoKinds) "__eq__" = some (some (.ref fM13Kinds)))
    (ifM13Kinds : PySem.W.isFn K (.ref fM13Kinds) = true)
    (lM13Kinds : K.lookup fM13Kinds = some ⟨ocM13Kinds, odM13Kinds, .func (PySem.W.fnOf "__eq__" "Kinds.__eq__" (defArgs s_Kinds_eq) (defBody s_Kinds_eq) (defScope s_Kinds_eq) .none kVM13Kinds dcM13Kinds pmM13Kinds anM13Kinds cdM13Kinds ctM13Kinds), slM13Kinds⟩)
    (cM13Kinds : PySem.W.codeIn K cdM13Kinds "Kinds.__eq__" = true)
    (kM13Kinds : PySem.W.keepIn K (.ref fM13Kinds) = true)
    (atM14Kinds : PySem.W.findIn K (.ref CoKinds) "__str__" = some (some (.ref fM14Kinds)))
    (ifM14Kinds : PySem.W.isFn K (.ref fM14Kinds) = true)
    (lM14Kinds : K.lookup fM14Kinds = some ⟨ocM14Kinds, odM14Kinds, .func (PySem.W.fnOf "__str__" "Kinds.__str__" (defArgs s_Kinds_str) (defBody s_Kinds_str) (defScope s_Kinds_str) .none kVM14Kinds dcM14Kinds pmM14Kinds anM14Kinds cdM14Kinds ctM14Kinds), slM14Kinds⟩)
    (cM14Kinds : PySem.W.codeIn K cdM14Kinds "Kinds.__str__" = true)
    (kM14Kinds : PySem.W.keepIn K (.ref fM14Kinds) = true)
    (goPage : PySem.W.nsIn K mainGlobals "Page" = some (some (.ref CoPage)))
    (pgoPage : PySem.W.plainGet K CoPage Str.empty = true)
    (hdoPage : PySem.W.hasDictIn K CoPage = true)
    (pooPage : PySem.W.plainOver K CoPage = true)
    (saoPage : PySem.W.findIn K (.ref CoPage) "__setattr__" = some (some (.builtin "object.__setattr__")))
    (mkoPage : PySem.W.makesIn K CoPage = true)
    (kcoPage : PySem.W.keepIn K (.ref CoPage) = true)
    (neoPage : PySem.W.findIn K (.ref CoPage) "__ne__" = some (some (.builtin "object.__ne__")))
    (oboPage : PySem.W.mroIn K CoPage (.type "object") = some true)
    (kioPage : PySem.W.kitOne K (.ref CoPage) (.ref CoPage) = some true)
    (ktoPage : PySem.W.kitOne K (.type "tuple") (.ref CoPage) = some false)
    (kdoPage : PySem.W.kitOne K (.type "dict") (.ref CoPage) = some false)
    (kroPage : PySem.W.kitOne K (.ref CoPage) (.type "tuple") = some false)
    (ksoPage : PySem.W.kitOne K (.ref CoPage) (.type "str") = some false)
    (kNoneTypeoPage : PySem.W.kitOne K (.type "NoneType") (.ref CoPage) = some false)
    (kintoPage : PySem.W.kitOne K (.type "int") (.ref CoPage) = some false)
    (kbooloPage : PySem.W.kitOne K (.type "bool") (.ref CoPage) = some false)
    (kstroPage : PySem.W.kitOne K (.type "str") (.ref CoPage) = some false)
    (klistoPage : PySem.W.kitOne K (.type "list") (.ref CoPage) = some false)
    (caoPage : PySem.W.findIn K (.ref CoPage) "__class__" = some (some (.builtin "object.__class__")))
    (cgoPage : PySem.W.specialIn K (.builtin "object.__class__") "__get__" = some (some (.builtin "getset_descriptor.__get__")))
    (ctoPage : PySem.W.takesIn K (.builtin "object.__class__") = some true)
    (n_noteoPage : PySem.W.findIn K (.ref CoPage) "_note" = some none)
    (n_pooloPage : PySem.W.findIn K (.ref CoPage) "_pool" = some none)
    (n_madeoPage : PySem.W.findIn K (.ref CoPage) "_made" = some none)
    (n_afteroPage : PySem.W.findIn K (.ref CoPage) "_after" = some none)
    (atM0Page : PySem.W.findIn K (.ref CoPage) "__init__" = some (some (.ref fM0Page)))
    (ifM0Page : PySem.W.isFn K (.ref fM0Page) = true)
    (lM0Page : K.lookup fM0Page = some ⟨ocM0Page, odM0Page, .func (PySem.W.fnOf "__init__" "Page.__init__" (defArgs s_Page_init) (defBody s_Page_init) (defScope s_Page_init) .none kVM0Page dcM0Page pmM0Page anM0Page cdM0Page ctM0Page), slM0Page⟩)
    (cM0Page : PySem.W.codeIn K cdM0Page "Page.__init__" = true)
    (kM0Page : PySem.W.keepIn K (.ref fM0Page) = true)
    (atM2Page : PySem.W.findIn K (.ref CoPage) "note" = some (some (.ref qM2Page)))
    (geM2Page : PySem.W.specialIn K (.ref qM2Page) "__get__" = some (some (.builtin "property.__get__")))
    (taM2Page : PySem.W.takesIn K (.ref qM2Page) = some true)
    (reM2Page : PySem.W.recIn K qM2Page "property" = some (.ref fM2Page :: rsM2Page))
    (lM2Page : K.lookup fM2Page = some ⟨ocM2Page, odM2Page, .func (PySem.W.fnOf "note" "Page.note" (defArgs s_Page_note) (defBody s_Page_note) (defScope s_Page_note) .none kVM2Page dcM2Page pmM2Page anM2Page cdM2Page ctM2Page), slM2Page⟩)
    (cM2Page : PySem.W.codeIn K cdM2Page "Page.note" = true)
    (kM2Page : PySem.W.keepIn K (.ref fM2Page) = true)
    (atM3Page : PySem.W.findIn K (.ref CoPage) "pool" = some (some (.ref qM3Page)))
    (geM3Page : PySem.W.specialIn K (.ref qM3Page) "__get__" = some (some (.builtin "property.__get__")))
    (taM3Page : PySem.W.takesIn K (.ref qM3Page) = some true)
    (reM3Page : PySem.W.recIn K qM3Page "property" = some (.ref fM3Page :: rsM3Page))
    (lM3Page : K.lookup fM3Page = some ⟨ocM3Page, odM3Page, .func (PySem.W.fnOf "pool" "Page.pool" (defArgs s_Page_pool) (defBody s_Page_pool) (defScope s_Page_pool) .none kVM3Page dcM3Page pmM3Page anM3Page cdM3Page ctM3Page), slM3Page⟩)
    (cM3Page : PySem.W.codeIn K cdM3Page "Page.pool" = true)
    (kM3Page : PySem.W.keepIn K (.ref fM3Page) = true)
    (atM4Page : PySem.W.findIn K (.ref CoPage) "made" = some (some (.ref qM4Page)))
    (geM4Page : PySem.W.specialIn K (.ref qM4Page) "__get__" = some (some (.builtin "property.__get__")))
    (taM4Page : PySem.W.takesIn K (.ref qM4Page) = some true)
    (reM4Page : PySem.W.recIn K qM4Page "property" = some (.ref fM4Page :: rsM4Page))
    (lM4Page : K.lookup fM4Page = some ⟨ocM4Page, odM4Page, .func (PySem.W.fnOf "made" "Page.made" (defArgs s_Page_made) (defBody s_Page_made) (defScope s_Page_made) .none kVM4Page dcM4Page pmM4Page anM4Page cdM4Page ctM4Page), slM4Page⟩)
    (cM4Page : PySem.W.codeIn K cdM4Page "Page.made" = true)
    (kM4Page : PySem.W.keepIn K (.ref fM4Page) = true)
    (atM5Page : PySem.W.findIn K (.ref CoPage) "after" = some (some (.ref qM5Page)))
    (geM5Page : PySem.W.specialIn K (.ref qM5Page) "__get__" = some (some (.builtin "property.__get__")))
    (taM5Page : PySem.W.takesIn K (.ref qM5Page) = some true)
    (reM5Page : PySem.W.recIn K qM5Page "property" = some (.ref fM5Page :: rsM5Page))
    (lM5Page : K.lookup fM5Page = some ⟨ocM5Page, odM5Page, .func (PySem.W.fnOf "after" "Page.after" (defArgs s_Page_after) (defBody s_Page_after) (defScope s_Page_after) .none kVM5Page dcM5Page pmM5Page anM5Page cdM5Page ctM5Page), slM5Page⟩)
    (cM5Page : PySem.W.codeIn K cdM5Page "Page.after" = true)
    (kM5Page : PySem.W.keepIn K (.ref fM5Page) = true)
    (atM6Page : PySem.W.findIn K (.ref CoPage) "line" = some (some (.ref qM6Page)))
    (geM6Page : PySem.W.specialIn K (.ref qM6Page) "__get__" = some (some (.builtin "property.__get__")))
    (taM6Page : PySem.W.takesIn K (.ref qM6Page) = some true)
    (reM6Page : PySem.W.recIn K qM6Page "property" = some (.ref fM6Page :: rsM6Page))
    (lM6Page : K.lookup fM6Page = some ⟨ocM6Page, odM6Page, .func (PySem.W.fnOf "line" "Page.line" (defArgs s_Page_line) (defBody s_Page_line) (defScope s_Page_line) .none kVM6Page dcM6Page pmM6Page anM6Page cdM6Page ctM6Page), slM6Page⟩)
    (cM6Page : PySem.W.codeIn K cdM6Page "Page.line" = true)
    (kM6Page : PySem.W.keepIn K (.ref fM6Page) = true)
    (atM7Page : PySem.W.findIn K (.ref CoPage) "place" = some (some (.ref qM7Page)))
    (geM7Page : PySem.W.specialIn K (.ref qM7Page) "__get__" = some (some (.builtin "property.__get__")))
    (taM7Page : PySem.W.takesIn K (.ref qM7Page) = some true)
    (reM7Page : PySem.W.recIn K qM7Page "property" = some (.ref fM7Page :: rsM7Page))
    (lM7Page : K.lookup fM7Page = some ⟨ocM7Page, odM7Page, .func (PySem.W.fnOf "place" "Page.place" (defArgs s_Page_place) (defBody s_Page_place) (defScope s_Page_place) .none kVM7Page dcM7Page pmM7Page anM7Page cdM7Page ctM7Page), slM7Page⟩)
    (cM7Page : PySem.W.codeIn K cdM7Page "Page.place" = true)
    (kM7Page : PySem.W.keepIn K (.ref fM7Page) = true)
    (atM8Page : PySem.W.findIn K (.ref CoPage) "left" = some (some (.ref fM8Page)))
    (ifM8Page : PySem.W.isFn K (.ref fM8Page) = true)
    (lM8Page : K.lookup fM8Page = some ⟨ocM8Page, odM8Page, .func (PySem.W.fnOf "left" "Page.left" (defArgs s_Page_left) (defBody s_Page_left) (defScope s_Page_left) .none kVM8Page dcM8Page pmM8Page anM8Page cdM8Page ctM8Page), slM8Page⟩)
    (cM8Page : PySem.W.codeIn K cdM8Page "Page.left" = true)
    (kM8Page : PySem.W.keepIn K (.ref fM8Page) = true)
    (atM9Page : PySem.W.findIn K (.ref CoPage) "__len__" = some (some (.ref fM9Page)))
    (ifM9Page : PySem.W.isFn K (.ref fM9Page) = true)
    (lM9Page : K.lookup fM9Page = some ⟨ocM9Page, odM9Page, .func (PySem.W.fnOf "__len__" "Page.__len__" (defArgs s_Page_len) (defBody s_Page_len) (defScope s_Page_len) .none kVM9Page dcM9Page pmM9Page anM9Page cdM9Page ctM9Page), slM9Page⟩)
    (cM9Page : PySem.W.codeIn K cdM9Page "Page.__len__" = true)
    (kM9Page : PySem.W.keepIn K (.ref fM9Page) = true)
    (atM10Page : PySem.W.findIn K (.ref CoPage) "__eq__" = some (some (.ref fM10Page)))
    (ifM10Page : PySem.W.isFn K (.ref fM10Page) = true)
    (lM10Page : K.lookup fM10Page = some ⟨ocM10Page, odM10Page, .func (PySem.W.fnOf "__eq__" "Page.__eq__" (defArgs s_Page_eq) (defBody s_Page_eq) (defScope s_Page_eq) .none kVM10Page dcM10Page pmM10Page anM10Page cdM10Page ctM10Page), slM10Page⟩)
    (cM10Page : PySem.W.codeIn K cdM10Page "Page.__eq__" = true)
    (kM10Page : PySem.W.keepIn K (.ref fM10Page) = true)
    (atM11Page : PySem.W.findIn K (.ref CoPage) "__str__" = some (some (.ref fM11Page)))
    (ifM11Page : PySem.W.isFn K (.ref fM11Page) = true)
    (lM11Page : K.lookup fM11Page = some ⟨ocM11Page, odM11Page, .func (PySem.W.fnOf "__str__" "Page.__str__" (defArgs s_Page_str) (defBody s_Page_str) (defScope s_Page_str) .none kVM11Page dcM11Page pmM11Page anM11Page cdM11Page ctM11Page), slM11Page⟩)
    (cM11Page : PySem.W.codeIn K cdM11Page "Page.__str__" = true)
    (kM11Page : PySem.W.keepIn K (.ref fM11Page) = true)
    (rdQ1Page : PySem.W.readsIn K CoPage (.type "type") = true)
    (gaQ1Page : PySem.W.specialIn K (.ref CoPage) "__getattribute__" = some (some (.builtin "type.__getattribute__")))
    (atQ1Page : PySem.W.findCls K (.ref CoPage) (.type "type") "from_line" = some (.get (.builtin "classmethod.__get__") (.ref qQ1Page) .none (.ref CoPage)))
    (reQ1Page : PySem.W.recIn K qQ1Page "classmethod" = some (.ref fQ1Page :: rsQ1Page))
    (lQ1Page : K.lookup fQ1Page = some ⟨ocQ1Page, odQ1Page, .func (PySem.W.fnOf "from_line" "Page.from_line" (defArgs s_Page_from_line) (defBody s_Page_from_line) (defScope s_Page_from_line) .none kVQ1Page dcQ1Page pmQ1Page anQ1Page cdQ1Page ctQ1Page), slQ1Page⟩)
    (cQ1Page : PySem.W.codeIn K cdQ1Page "Page.from_line" = true)
    (kQ1Page : PySem.W.keepIn K (.ref fQ1Page) = true)
    (m0 : PySem.W.nsIn K mainGlobals "MAX_LETTERS" = some (some (.int 8 t0)))
    (m1 : PySem.W.nsIn K mainGlobals "_TOO_LONG" = some (some (.int 1000000000000000000000000000000000000000000000000000000000000 t1)))
    (m2 : PySem.W.nsIn K mainGlobals "MAX_KINDS" = some (some (.int 6 t2)))
    (m3 : PySem.W.nsIn K mainGlobals "MAX_PARTS" = some (some (.int 3 t3)))
    (m4 : PySem.W.nsIn K mainGlobals "MAX_POOL" = some (some (.int 8 t4)))
    (m5 : PySem.W.nsIn K mainGlobals "MAX_MADE" = some (some (.int 2 t5)))
    (gu0 : PySem.W.nsIn K mainGlobals "_SIGNS" = some (some (.ref aU0))) (lu0 : K.lookup aU0 = some ⟨.type "tuple", odU0, .seq #[.str "page" tu0_0, .str "to" tu0_1, .str "then" tu0_2] nU0, slU0⟩)
    (z0 : PySem.W.nsIn K mainGlobals "IndexError" = some none)
    (z1 : PySem.W.nsIn K mainGlobals "KeyError" = some none)
    (z2 : PySem.W.nsIn K mainGlobals "TypeError" = some none)
    (z3 : PySem.W.nsIn K mainGlobals "ValueError" = some none)
    (z4 : PySem.W.nsIn K mainGlobals "abs" = some none)
    (z5 : PySem.W.nsIn K mainGlobals "all" = some none)
    (z6 : PySem.W.nsIn K mainGlobals "bool" = some none)
    (z7 : PySem.W.nsIn K mainGlobals "classmethod" = some none)
    (z8 : PySem.W.nsIn K mainGlobals "dict" = some none)
    (z9 : PySem.W.nsIn K mainGlobals "int" = some none)
    (z10 : PySem.W.nsIn K mainGlobals "isinstance" = some none)
    (z11 : PySem.W.nsIn K mainGlobals "len" = some none)
    (z12 : PySem.W.nsIn K mainGlobals "list" = some none)
    (z13 : PySem.W.nsIn K mainGlobals "max" = some none)
    (z14 : PySem.W.nsIn K mainGlobals "min" = some none)
    (z15 : PySem.W.nsIn K mainGlobals "property" = some none)
    (z16 : PySem.W.nsIn K mainGlobals "range" = some none)
    (z17 : PySem.W.nsIn K mainGlobals "repr" = some none)
    (z18 : PySem.W.nsIn K mainGlobals "set" = some none)
    (z19 : PySem.W.nsIn K mainGlobals "sorted" = some none)
    (z20 : PySem.W.nsIn K mainGlobals "str" = some none)
    (z21 : PySem.W.nsIn K mainGlobals "tuple" = some none) :
    ∃ fd : FuncData, (∀ (s : Shared) (v : Value), BindsTo s fd ⟨[v], []⟩ [("_law_script", v)]) ∧ ∀ base : Heap, K.In base → base.Ns mainGlobals mg → FnG l.prog w K mg base CX0 12 fa fd ["_law_script"] (spLaw K) := by
  have e := hfa.symm.trans (PySem.W.mg_of X G a29)
  cases e
  have T : Top K mg := {
    x_ParseError := ⟨Ce0, fe0, _, ⟨PySem.W.mg_of X G ge0, ⟨_, _, _, _, _, _, _, _, _, _, _, _, _, _, _, he0, te0⟩, oe0, qe0, de0, se0, ue0, ve0, ne0, ie0, ye0, ke0, be0, we0, exm_own be0 xe0 we0 re0⟩, fun_mk le0 ce0 pe0⟩
    x_UnknownName := ⟨Ce1, fe1, _, ⟨PySem.W.mg_of X G ge1, ⟨_, _, _, _, _, _, _, _, _, _, _, _, _, _, _, he1, te1⟩, oe1, qe1, de1, se1, ue1, ve1, ne1, ie1, ye1, ke1, be1, we1, exm_own be1 xe1 we1 re1⟩, fun_mk le1 ce1 pe1⟩
    x_InvalidNumber := ⟨Ce2, fe2, _, ⟨PySem.W.mg_of X G ge2, ⟨_, _, _, _, _, _, _, _, _, _, _, _, _, _, _, he2, te2⟩, oe2, qe2, de2, se2, ue2, ve2, ne2, ie2, ye2, ke2, be2, we2, exm_own be2 xe2 we2 re2⟩, fun_mk le2 ce2 pe2⟩
    p_InvalidPage := ⟨Cy0, ⟨PySem.W.mg_of X G gy0, ⟨_, _, _, _, _, _, _, _, _, _, _, _, _, _, _, _, hy0, ty0⟩, iy0, ky0⟩, xclsB_ok zy0, exm_own by0 xy0 wy0 ry0⟩
    p_InvalidOperation := ⟨Cy1, ⟨PySem.W.mg_of X G gy1, ⟨_, _, _, _, _, _, _, _, _, _, _, _, _, _, _, _, hy1, ty1⟩, iy1, ky1⟩, xclsB_ok zy1, exm_own by1 xy1 wy1 ry1⟩
    p_InvalidKinds := ⟨Cy2, ⟨PySem.W.mg_of X G gy2, ⟨_, _, _, _, _, _, _, _, _, _, _, _, _, _, _, _, hy2, ty2⟩, iy2, ky2⟩, xclsB_ok zy2, exm_own by2 xy2 wy2 ry2⟩
    d_wall := ⟨_, _, fun_mk l0 c0 k0, (fun_mk (st := s_wall) l0 c0 k0).binds (ps := ["k"]) fun _ _ _ _ _ _ us hl => match us, hl with | [_], _ => rfl, PySem.W.mg_of X G a0⟩
    d_is_integer := ⟨_, _, fun_mk l1 c1 k1, (fun_mk (st := s_is_integer) l1 c1 k1).binds (ps := ["value"]) fun _ _ _ _ _ _ us hl => match us, hl with | [_], _ => rfl, PySem.W.mg_of X G a1⟩
    d_is_count := ⟨_, _, fun_mk l2 c2 k2, (fun_mk (st := s_is_count) l2 c2 k2).binds (ps := ["value"]) fun _ _ _ _ _ _ us hl => match us, hl with | [_], _ => rfl, PySem.W.mg_of X G a2⟩
    d_is_name := ⟨_, _, fun_mk l3 c3 k3, (fun_mk (st := s_is_name) l3 c3 k3).binds (ps := ["value"]) fun _ _ _ _ _ _ us hl => match us, hl with | [_], _ => rfl, PySem.W.mg_of X G a3⟩
    d_is_sorted := ⟨_, _, fun_mk l4 c4 k4, kbn_of fun us ws h1 h2 => match us, ws, h1, h2 with | [_], [_], _, _ => by first | rfl | with_unfolding_all rfl, PySem.W.mg_of X G a4⟩
    d_words_of := ⟨_, _, fun_mk l5 c5 k5, (fun_mk (st := s_words_of) l5 c5 k5).binds (ps := ["line"]) fun _ _ _ _ _ _ us hl => match us, hl with | [_], _ => rfl, PySem.W.mg_of X G a5⟩
    d_names_in := ⟨_, _, fun_mk l6 c6 k6, kbn_of fun us ws h1 h2 => match us, ws, h1, h2 with | [_], [_], _, _ => by first | rfl | with_unfolding_all rfl, PySem.W.mg_of X G a6⟩
    d_text_of := ⟨_, _, fun_mk l7 c7 k7, (fun_mk (st := s_text_of) l7 c7 k7).binds (ps := ["names"]) fun _ _ _ _ _ _ us hl => match us, hl with | [_], _ => rfl, PySem.W.mg_of X G a7⟩
    d_is_making := ⟨_, _, fun_mk l8 c8 k8, (fun_mk (st := s_is_making) l8 c8 k8).binds (ps := ["value"]) fun _ _ _ _ _ _ us hl => match us, hl with | [_], _ => rfl, PySem.W.mg_of X G a8⟩
    d_all_names := ⟨_, _, fun_mk l9 c9 k9, (fun_mk (st := s_all_names) l9 c9 k9).binds (ps := ["leaf", "makings"]) fun _ _ _ _ _ _ us hl => match us, hl with | [_, _], _ => rfl, PySem.W.mg_of X G a9⟩
    d_are_kinds := ⟨_, _, fun_mk l10 c10 k10, (fun_mk (st := s_are_kinds) l10 c10 k10).binds (ps := ["leaf", "makings"]) fun _ _ _ _ _ _ us hl => match us, hl with | [_, _], _ => rfl, PySem.W.mg_of X G a10⟩
    d_is_place := ⟨_, _, fun_mk l11 c11 k11, (fun_mk (st := s_is_place) l11 c11 k11).binds (ps := ["value"]) fun _ _ _ _ _ _ us hl => match us, hl with | [_], _ => rfl, PySem.W.mg_of X G a11⟩
    d_page_line := ⟨_, _, fun_mk l12 c12 k12, (fun_mk (st := s_page_line) l12 c12 k12).binds (ps := ["line"]) fun _ _ _ _ _ _ us hl => match us, hl with | [_], _ => rfl, PySem.W.mg_of X G a12⟩
    d_left := ⟨_, _, fun_mk l13 c13 k13, (fun_mk (st := s_left) l13 c13 k13).binds (ps := ["pool", "makings"]) fun _ _ _ _ _ _ us hl => match us, hl with | [_, _], _ => rfl, PySem.W.mg_of X G a13⟩
    d_law_dice := ⟨_, _, fun_mk l14 c14 k14, (fun_mk (st := s_law_dice) l14 c14 k14).binds (ps := ["_law_script", "_law_spot"]) fun _ _ _ _ _ _ us hl => match us, hl with | [_, _], _ => rfl, PySem.W.mg_of X G a14⟩
    d_law_roll := ⟨_, _, fun_mk l15 c15 k15, (fun_mk (st := s_law_roll) l15 c15 k15).binds (ps := ["_law_dice_here", "_law_total"]) fun _ _ _ _ _ _ us hl => match us, hl with | [_, _], _ => rfl, PySem.W.mg_of X G a15⟩
    d_law_pick := ⟨_, _, fun_mk l16 c16 k16, (fun_mk (st := s_law_pick) l16 c16 k16).binds (ps := ["_law_dice_here", "_law_items"]) fun _ _ _ _ _ _ us hl => match us, hl with | [_, _], _ => rfl, PySem.W.mg_of X G a16⟩
    d_law_digit_text := ⟨_, _, fun_mk l17 c17 k17, (fun_mk (st := s_law_digit_text) l17 c17 k17).binds (ps := ["_law_digit_here"]) fun _ _ _ _ _ _ us hl => match us, hl with | [_], _ => rfl, PySem.W.mg_of X G a17⟩
    d_law_digit := ⟨_, _, fun_mk l18 c18 k18, (fun_mk (st := s_law_digit) l18 c18 k18).binds (ps := ["_law_text"]) fun _ _ _ _ _ _ us hl => match us, hl with | [_], _ => rfl, PySem.W.mg_of X G a18⟩
    d_law_without := ⟨_, _, fun_mk l19 c19 k19, (fun_mk (st := s_law_without) l19 c19 k19).binds (ps := ["_law_pool", "_law_parts"]) fun _ _ _ _ _ _ us hl => match us, hl with | [_, _], _ => rfl, PySem.W.mg_of X G a19⟩
    d_law_is_names := ⟨_, _, fun_mk l20 c20 k20, (fun_mk (st := s_law_is_names) l20 c20 k20).binds (ps := ["_law_value", "_law_most"]) fun _ _ _ _ _ _ us hl => match us, hl with | [_, _], _ => rfl, PySem.W.mg_of X G a20⟩
    d_law_page_in := ⟨_, _, fun_mk l21 c21 k21, (fun_mk (st := s_law_page_in) l21 c21 k21).binds (ps := ["_law_line"]) fun _ _ _ _ _ _ us hl => match us, hl with | [_], _ => rfl, PySem.W.mg_of X G a21⟩
    d_law_read := ⟨_, _, fun_mk l22 c22 k22, (fun_mk (st := s_law_read) l22 c22 k22).binds (ps := ["_law_line"]) fun _ _ _ _ _ _ us hl => match us, hl with | [_], _ => rfl, PySem.W.mg_of X G a22⟩
    d_law_drawn_page := ⟨_, _, fun_mk l23 c23 k23, (fun_mk (st := s_law_drawn_page) l23 c23 k23).binds (ps := ["_law_dice_here"]) fun _ _ _ _ _ _ us hl => match us, hl with | [_], _ => rfl, PySem.W.mg_of X G a23⟩
    d_law_bent := ⟨_, _, fun_mk l24 c24 k24, (fun_mk (st := s_law_bent) l24 c24 k24).binds (ps := ["_law_dice_here", "_law_line"]) fun _ _ _ _ _ _ us hl => match us, hl with | [_, _], _ => rfl, PySem.W.mg_of X G a24⟩
    d_law_line_of := ⟨_, _, fun_mk l25 c25 k25, (fun_mk (st := s_law_line_of) l25 c25 k25).binds (ps := ["_law_parts"]) fun _ _ _ _ _ _ us hl => match us, hl with | [_], _ => rfl, PySem.W.mg_of X G a25⟩
    d_law_right := ⟨_, _, fun_mk l26 c26 k26, (fun_mk (st := s_law_right) l26 c26 k26).binds (ps := ["_law_dice_here"]) fun _ _ _ _ _ _ us hl => match us, hl with | [_], _ => rfl, PySem.W.mg_of X G a26⟩
    d_law_left := ⟨_, _, fun_mk l27 c27 k27, (fun_mk (st := s_law_left) l27 c27 k27).binds (ps := ["_law_kinds", "_law_page"]) fun _ _ _ _ _ _ us hl => match us, hl with | [_, _], _ => rfl, PySem.W.mg_of X G a27⟩
    d_law_left_right := ⟨_, _, fun_mk l28 c28 k28, (fun_mk (st := s_law_left_right) l28 c28 k28).binds (ps := ["_law_dice_here"]) fun _ _ _ _ _ _ us hl => match us, hl with | [_], _ => rfl, PySem.W.mg_of X G a28⟩
    c_Kinds := ⟨CoKinds, { gC := PySem.W.mg_of X G goKinds, cl := ⟨pgoKinds, hdoKinds, pooKinds, saoKinds⟩, ne := neoKinds, ob := oboKinds, kit := kioKinds, kitT := ktoKinds, kitD := kdoKinds, ca := caoKinds, cg := cgoKinds, ct := ctoKinds, kitR := kroKinds, kitS := ksoKinds, kit_NoneType := kNoneTypeoKinds, kit_int := kintoKinds, kit_bool := kbooloKinds, kit_str := kstroKinds, kit_list := klistoKinds, n_leaf := n_leafoKinds, n_makings := n_makingsoKinds, n_names := n_namesoKinds, made := ⟨_, _, ⟨mkoKinds, atM0Kinds, ifM0Kinds, kcoKinds⟩, fun_mk (st := s_Kinds_init) lM0Kinds cM0Kinds kM0Kinds, (fun_mk (st := s_Kinds_init) lM0Kinds cM0Kinds kM0Kinds).binds (ps := ["self", "leaf", "makings"]) fun _ _ _ _ _ _ us hl => match us, hl with | [_, _, _], _ => rfl⟩, p_leaf := ⟨_, _, _, ⟨atM2Kinds, geM2Kinds, taM2Kinds, ⟨_, reM2Kinds⟩⟩, fun_mk (st := s_Kinds_leaf) lM2Kinds cM2Kinds kM2Kinds, (fun_mk (st := s_Kinds_leaf) lM2Kinds cM2Kinds kM2Kinds).binds (ps := ["self"]) fun _ _ _ _ _ _ us hl => match us, hl with | [_], _ => rfl⟩, p_makings := ⟨_, _, _, ⟨atM3Kinds, geM3Kinds, taM3Kinds, ⟨_, reM3Kinds⟩⟩, fun_mk (st := s_Kinds_makings) lM3Kinds cM3Kinds kM3Kinds, (fun_mk (st := s_Kinds_makings) lM3Kinds cM3Kinds kM3Kinds).binds (ps := ["self"]) fun _ _ _ _ _ _ us hl => match us, hl with | [_], _ => rfl⟩, p_names := ⟨_, _, _, ⟨atM4Kinds, geM4Kinds, taM4Kinds, ⟨_, reM4Kinds⟩⟩, fun_mk (st := s_Kinds_names) lM4Kinds cM4Kinds kM4Kinds, (fun_mk (st := s_Kinds_names) lM4Kinds cM4Kinds kM4Kinds).binds (ps := ["self"]) fun _ _ _ _ _ _ us hl => match us, hl with | [_], _ => rfl⟩, m_contains := ⟨_, _, fun_mk (st := s_Kinds_contains) lM9Kinds cM9Kinds kM9Kinds, ⟨atM9Kinds, ifM9Kinds, kM9Kinds⟩, ((fun_mk (st := s_Kinds_contains) lM9Kinds cM9Kinds kM9Kinds).binds (ps := ["self", "value"]) fun _ _ _ _ _ _ us hl => match us, hl with | [_, _], _ => rfl), fn_in lM9Kinds⟩, m_getitem := ⟨_, _, fun_mk (st := s_Kinds_getitem) lM10Kinds cM10Kinds kM10Kinds, ⟨atM10Kinds, ifM10Kinds, kM10Kinds⟩, ((fun_mk (st := s_Kinds_getitem) lM10Kinds cM10Kinds kM10Kinds).binds (ps := ["self", "name"]) fun _ _ _ _ _ _ us hl => match us, hl with | [_, _], _ => rfl), fn_in lM10Kinds⟩, m_len := ⟨_, _, fun_mk (st := s_Kinds_len) lM12Kinds cM12Kinds kM12Kinds, ⟨atM12Kinds, ifM12Kinds, kM12Kinds⟩, ((fun_mk (st := s_Kinds_len) lM12Kinds cM12Kinds kM12Kinds).binds (ps := ["self"]) fun _ _ _ _ _ _ us hl => match us, hl with | [_], _ => rfl), fn_in lM12Kinds⟩, m_eq := ⟨_, _, fun_mk (st := s_Kinds_eq) lM13Kinds cM13Kinds kM13Kinds, ⟨atM13Kinds, ifM13Kinds, kM13Kinds⟩, ((fun_mk (st := s_Kinds_eq) lM13Kinds cM13Kinds kM13Kinds).binds (ps := ["self", "other"]) fun _ _ _ _ _ _ us hl => match us, hl with | [_, _], _ => rfl), fn_in lM13Kinds⟩, m_str := ⟨_, _, fun_mk (st := s_Kinds_str) lM14Kinds cM14Kinds kM14Kinds, ⟨atM14Kinds, ifM14Kinds, kM14Kinds⟩, ((fun_mk (st := s_Kinds_str) lM14Kinds cM14Kinds kM14Kinds).binds (ps := ["self"]) fun _ _ _ _ _ _ us hl => match us, hl with | [_], _ => rfl), fn_in lM14Kinds⟩ }⟩
    c_Page := ⟨CoPage, { gC := PySem.W.mg_of X G goPage, cl := ⟨pgoPage, hdoPage, pooPage, saoPage⟩, ne := neoPage, ob := oboPage, kit := kioPage, kitT := ktoPage, kitD := kdoPage, ca := caoPage, cg := cgoPage, ct := ctoPage, kitR := kroPage, kitS := ksoPage, kit_NoneType := kNoneTypeoPage, kit_int := kintoPage, kit_bool := kbooloPage, kit_str := kstroPage, kit_list := klistoPage, n_note := n_noteoPage, n_pool := n_pooloPage, n_made := n_madeoPage, n_after := n_afteroPage, made := ⟨_, _, ⟨mkoPage, atM0Page, ifM0Page, kcoPage⟩, fun_mk (st := s_Page_init) lM0Page cM0Page kM0Page, (fun_mk (st := s_Page_init) lM0Page cM0Page kM0Page).binds (ps := ["self", "note", "pool", "made", "after"]) fun _ _ _ _ _ _ us hl => match us, hl with | [_, _, _, _, _], _ => rfl⟩, p_note := ⟨_, _, _, ⟨atM2Page, geM2Page, taM2Page, ⟨_, reM2Page⟩⟩, fun_mk (st := s_Page_note) lM2Page cM2Page kM2Page, (fun_mk (st := s_Page_note) lM2Page cM2Page kM2Page).binds (ps := ["self"]) fun _ _ _ _ _ _ us hl => match us, hl with | [_], _ => rfl⟩, p_pool := ⟨_, _, _, ⟨atM3Page, geM3Page, taM3Page, ⟨_, reM3Page⟩⟩, fun_mk (st := s_Page_pool) lM3Page cM3Page kM3Page, (fun_mk (st := s_Page_pool) lM3Page cM3Page kM3Page).binds (ps := ["self"]) fun _ _ _ _ _ _ us hl => match us, hl with | [_], _ => rfl⟩, p_made := ⟨_, _, _, ⟨atM4Page, geM4Page, taM4Page, ⟨_, reM4Page⟩⟩, fun_mk (st := s_Page_made) lM4Page cM4Page kM4Page, (fun_mk (st := s_Page_made) lM4Page cM4Page kM4Page).binds (ps := ["self"]) fun _ _ _ _ _ _ us hl => match us, hl with | [_], _ => rfl⟩, p_after := ⟨_, _, _, ⟨atM5Page, geM5Page, taM5Page, ⟨_, reM5Page⟩⟩, fun_mk (st := s_Page_after) lM5Page cM5Page kM5Page, (fun_mk (st := s_Page_after) lM5Page cM5Page kM5Page).binds (ps := ["self"]) fun _ _ _ _ _ _ us hl => match us, hl with | [_], _ => rfl⟩, p_line := ⟨_, _, _, ⟨atM6Page, geM6Page, taM6Page, ⟨_, reM6Page⟩⟩, fun_mk (st := s_Page_line) lM6Page cM6Page kM6Page, (fun_mk (st := s_Page_line) lM6Page cM6Page kM6Page).binds (ps := ["self"]) fun _ _ _ _ _ _ us hl => match us, hl with | [_], _ => rfl⟩, p_place := ⟨_, _, _, ⟨atM7Page, geM7Page, taM7Page, ⟨_, reM7Page⟩⟩, fun_mk (st := s_Page_place) lM7Page cM7Page kM7Page, (fun_mk (st := s_Page_place) lM7Page cM7Page kM7Page).binds (ps := ["self"]) fun _ _ _ _ _ _ us hl => match us, hl with | [_], _ => rfl⟩, m_left := ⟨_, _, fun_mk (st := s_Page_left) lM8Page cM8Page kM8Page, ⟨atM8Page, ifM8Page, kM8Page⟩, ((fun_mk (st := s_Page_left) lM8Page cM8Page kM8Page).binds (ps := ["self", "kinds"]) fun _ _ _ _ _ _ us hl => match us, hl with | [_, _], _ => rfl), fn_in lM8Page⟩, m_len := ⟨_, _, fun_mk (st := s_Page_len) lM9Page cM9Page kM9Page, ⟨atM9Page, ifM9Page, kM9Page⟩, ((fun_mk (st := s_Page_len) lM9Page cM9Page kM9Page).binds (ps := ["self"]) fun _ _ _ _ _ _ us hl => match us, hl with | [_], _ => rfl), fn_in lM9Page⟩, m_eq := ⟨_, _, fun_mk (st := s_Page_eq) lM10Page cM10Page kM10Page, ⟨atM10Page, ifM10Page, kM10Page⟩, ((fun_mk (st := s_Page_eq) lM10Page cM10Page kM10Page).binds (ps := ["self", "other"]) fun _ _ _ _ _ _ us hl => match us, hl with | [_, _], _ => rfl), fn_in lM10Page⟩, m_str := ⟨_, _, fun_mk (st := s_Page_str) lM11Page cM11Page kM11Page, ⟨atM11Page, ifM11Page, kM11Page⟩, ((fun_mk (st := s_Page_str) lM11Page cM11Page kM11Page).binds (ps := ["self"]) fun _ _ _ _ _ _ us hl => match us, hl with | [_], _ => rfl), fn_in lM11Page⟩, k_from_line := ⟨qQ1Page, fQ1Page, _, ⟨rdQ1Page, gaQ1Page⟩, ⟨atQ1Page, ⟨_, reQ1Page⟩, fn_in lQ1Page⟩, fun_mk (st := s_Page_from_line) lQ1Page cQ1Page kQ1Page, (fun_mk (st := s_Page_from_line) lQ1Page cQ1Page kQ1Page).binds (ps := ["cls", "line"]) fun _ _ _ _ _ _ us hl => match us, hl with | [_, _], _ => rfl⟩ }⟩
    g_MAX_LETTERS := ⟨_, PySem.W.mg_of X G m0⟩
    g__TOO_LONG := ⟨_, PySem.W.mg_of X G m1⟩
    g_MAX_KINDS := ⟨_, PySem.W.mg_of X G m2⟩
    g_MAX_PARTS := ⟨_, PySem.W.mg_of X G m3⟩
    g_MAX_POOL := ⟨_, PySem.W.mg_of X G m4⟩
    g_MAX_MADE := ⟨_, PySem.W.mg_of X G m5⟩
    t__SIGNS := ⟨_, _, _, _, PySem.W.mg_of X G gu0, lu0, rfl, rfl, (by show 3 ≤ sizeLine; decide), .cons ⟨_, rfl⟩ (.cons ⟨_, rfl⟩ (.cons ⟨_, rfl⟩ (.nil)))⟩
    b_IndexError := PySem.W.mg_none_of X G z0
    b_KeyError := PySem.W.mg_none_of X G z1
    b_TypeError := PySem.W.mg_none_of X G z2
    b_ValueError := PySem.W.mg_none_of X G z3
    b_abs := PySem.W.mg_none_of X G z4
    b_all := PySem.W.mg_none_of X G z5
    b_bool := PySem.W.mg_none_of X G z6
    b_classmethod := PySem.W.mg_none_of X G z7
    b_dict := PySem.W.mg_none_of X G z8
    b_int := PySem.W.mg_none_of X G z9
    b_isinstance := PySem.W.mg_none_of X G z10
    b_len := PySem.W.mg_none_of X G z11
    b_list := PySem.W.mg_none_of X G z12
    b_max := PySem.W.mg_none_of X G z13
    b_min := PySem.W.mg_none_of X G z14
    b_property := PySem.W.mg_none_of X G z15
    b_range := PySem.W.mg_none_of X G z16
    b_repr := PySem.W.mg_none_of X G z17
    b_set := PySem.W.mg_none_of X G z18
    b_sorted := PySem.W.mg_none_of X G z19
    b_str := PySem.W.mg_none_of X G z20
    b_tuple := PySem.W.mg_none_of X G z21 }
  exact ⟨PySem.W.fnOf "law" "law" (defArgs s_law) (defBody s_law) (defScope s_law) .none kV29 dc29 pm29 an29 cd29 ct29, fun s v => .of_eq rfl, fun base _ _ => ok_law (fun_mk (st := s_law) l29 c29 k29) T⟩
end Kl
open PySem PySem.W PyProof.Rows
set_option maxHeartbeats 0 in
theorem PySem.Challenge.cw_linkbooks_k24_pages_told_holds : PySem.Challenge.rw_linkbooks_k24_pages_told.Holds := by
  w_on; o_law; k_head; (case hw => w_witness2)
  k_fill
  refine Gx.walkG (l := PySem.Challenge.rw_linkbooks_k24_pages_told) (n := 63) (k := 12) (x := "_law_script") (CX := fun _ => L2.CX0) (sp := fun w => Kl.spLaw _) rfl (by decide) rfl ⟨rfl, by decide, by decide⟩ (fun w h Y => PySem.W.kIn_of Y) ?F (fun _ _ a ns hl _ hS => ⟨a, ns, rfl, hS, hl, fun _ => rfl⟩) (fun _ _ _ _ _ h => h)
  case F =>
    intro w mg fa h KX G hmg
    refine' Kl.all_mk KX G hmg ?ge0 ?he0 ?te0 ?oe0 ?qe0 ?de0 ?se0 ?ue0 ?ve0 ?ne0 ?ie0 ?ye0 ?ke0 ?be0 ?we0 ?xe0 ?re0 ?le0 ?ce0 ?pe0 ?ge1 ?he1 ?te1 ?oe1 ?qe1 ?de1 ?se1 ?ue1 ?ve1 ?ne1 ?ie1 ?ye1 ?ke1 ?be1 ?we1 ?xe1 ?re1 ?le1 ?ce1 ?pe1 ?ge2 ?he2 ?te2 ?oe2 ?qe2 ?de2 ?se2 ?ue2 ?ve2 ?ne2 ?ie2 ?ye2 ?ke2 ?be2 ?we2 ?xe2 ?re2 ?le2 ?ce2 ?pe2 ?gy0 ?hy0 ?ty0 ?iy0 ?ky0 ?by0 ?wy0 ?xy0 ?ry0 ?zy0 ?gy1 ?hy1 ?ty1 ?iy1 ?ky1 ?by1 ?wy1 ?xy1 ?ry1 ?zy1 ?gy2 ?hy2 ?ty2 ?iy2 ?ky2 ?by2 ?wy2 ?xy2 ?ry2 ?zy2 ?a0 ?l0 ?c0 ?k0 ?a1 ?l1 ?c1 ?k1 ?a2 ?l2 ?c2 ?k2 ?a3 ?l3 ?c3 ?k3 ?a4 ?l4 ?c4 ?k4 ?a5 ?l5 ?c5 ?k5 ?a6 ?l6 ?c6 ?k6 ?a7 ?l7 ?c7 ?k7 ?a8 ?l8 ?c8 ?k8 ?a9 ?l9 ?c9 ?k9 ?a10 ?l10 ?c10 ?k10 ?a11 ?l11 ?c11 ?k11 ?a12 ?l12 ?c12 ?k12 ?a13 ?l13 ?c13 ?k13 ?a14 ?l14 ?c14 ?k14 ?a15 ?l15 ?c15 ?k15 ?a16 ?l16 ?c16 ?k16 ?a17 ?l17 ?c17 ?k17 ?a18 ?l18 ?c18 ?k18 ?a19 ?l19 ?c19 ?k19 ?a20 ?l20 ?c20 ?k20 ?a21 ?l21 ?c21 ?k21 ?a22 ?l22 ?c22 ?k22 ?a23 ?l23 ?c23 ?k23 ?a24 ?l24 ?c24 ?k24 ?a25 ?l25 ?c25 ?k25 ?a26 ?l26 ?c26 ?k26 ?a27 ?l27 ?c27 ?k27 ?a28 ?l28 ?c28 ?k28 ?a29 ?l29 ?c29 ?k29 ?goKinds ?pgoKinds ?hdoKinds ?pooKinds ?saoKinds ?mkoKinds ?kcoKinds ?neoKinds ?oboKinds ?kioKinds ?ktoKinds ?kdoKinds ?kroKinds ?ksoKinds ?kNoneTypeoKinds ?kintoKinds ?kbooloKinds ?kstroKinds ?klistoKinds ?caoKinds ?cgoKinds ?ctoKinds ?n_leafoKinds ?n_makingsoKinds ?n_namesoKinds ?atM0Kinds ?ifM0Kinds ?lM0Kinds ?cM0Kinds ?kM0Kinds ?atM2Kinds ?geM2Kinds ?taM2Kinds ?reM2Kinds ?lM2Kinds ?cM2Kinds ?kM2Kinds ?atM3Kinds ?geM3Kinds ?taM3Kinds ?reM3Kinds ?lM3Kinds ?cM3Kinds ?kM3Kinds ?atM4Kinds ?geM4Kinds ?taM4Kinds ?reM4Kinds ?lM4Kinds ?cM4Kinds ?kM4Kinds ?atM9Kinds ?ifM9Kinds ?lM9Kinds ?cM9Kinds ?kM9Kinds ?atM10Kinds ?ifM10Kinds ?lM10Kinds ?cM10Kinds ?kM10Kinds ?atM12Kinds ?ifM12Kinds ?lM12Kinds ?cM12Kinds ?kM12Kinds ?atM13Kinds ?ifM13Kinds ?lM13Kinds ?cM13Kinds ?kM13Kinds ?atM14Kinds ?ifM14Kinds ?lM14Kinds ?cM14Kinds ?kM14Kinds ?goPage ?pgoPage ?hdoPage ?pooPage ?saoPage ?mkoPage ?kcoPage ?neoPage ?oboPage ?kioPage ?ktoPage ?kdoPage ?kroPage ?ksoPage ?kNoneTypeoPage ?kintoPage ?kbooloPage ?kstroPage ?klistoPage ?caoPage ?cgoPage ?ctoPage ?n_noteoPage ?n_pooloPage ?n_madeoPage ?n_afteroPage ?atM0Page ?ifM0Page ?lM0Page ?cM0Page ?kM0Page ?atM2Page ?geM2Page ?taM2Page ?reM2Page ?lM2Page ?cM2Page ?kM2Page ?atM3Page ?geM3Page ?taM3Page ?reM3Page ?lM3Page ?cM3Page ?kM3Page ?atM4Page ?geM4Page ?taM4Page ?reM4Page ?lM4Page ?cM4Page ?kM4Page ?atM5Page ?geM5Page ?taM5Page ?reM5Page ?lM5Page ?cM5Page ?kM5Page ?atM6Page ?geM6Page ?taM6Page ?reM6Page ?lM6Page ?cM6Page ?kM6Page ?atM7Page ?geM7Page ?taM7Page ?reM7Page ?lM7Page ?cM7Page ?kM7Page ?atM8Page ?ifM8Page ?lM8Page ?cM8Page ?kM8Page ?atM9Page ?ifM9Page ?lM9Page ?cM9Page ?kM9Page ?atM10Page ?ifM10Page ?lM10Page ?cM10Page ?kM10Page ?atM11Page ?ifM11Page ?lM11Page ?cM11Page ?kM11Page ?rdQ1Page ?gaQ1Page ?atQ1Page ?reQ1Page ?lQ1Page ?cQ1Page ?kQ1Page ?m0 ?m1 ?m2 ?m3 ?m4 ?m5 ?gu0 ?lu0 ?z0 ?z1 ?z2 ?z3 ?z4 ?z5 ?z6 ?z7 ?z8 ?z9 ?z10 ?z11 ?z12 ?z13 ?z14 ?z15 ?z16 ?z17 ?z18 ?z19 ?z20 ?z21
    (case ge0 => k_is); (case he0 => k_is); (case te0 => decide +kernel); (case oe0 => kx_is); (case qe0 => k_is); (case de0 => k_is); (case se0 => k_is); (case ue0 => k_is); (case ve0 => k_is); (case ne0 => k_is); (case ie0 => k_is); (case ye0 => k_is); (case ke0 => k_is); (case be0 => k_is); (case we0 => k_is); (case xe0 => k_is); (case re0 => first | rfl | k_is); (case le0 => k_is); (case ce0 => k_is); (case pe0 => k_is); (case ge1 => k_is); (case he1 => k_is); (case te1 => decide +kernel); (case oe1 => kx_is); (case qe1 => k_is); (case de1 => k_is); (case se1 => k_is); (case ue1 => k_is); (case ve1 => k_is); (case ne1 => k_is); (case ie1 => k_is); (case ye1 => k_is); (case ke1 => k_is); (case be1 => k_is); (case we1 => k_is); (case xe1 => k_is); (case re1 => first | rfl | k_is); (case le1 => k_is); (case ce1 => k_is); (case pe1 => k_is); (case ge2 => k_is); (case he2 => k_is); (case te2 => decide +kernel); (case oe2 => kx_is); (case qe2 => k_is); (case de2 => k_is); (case se2 => k_is); (case ue2 => k_is); (case ve2 => k_is); (case ne2 => k_is); (case ie2 => k_is); (case ye2 => k_is); (case ke2 => k_is); (case be2 => k_is); (case we2 => k_is); (case xe2 => k_is); (case re2 => first | rfl | k_is); (case le2 => k_is); (case ce2 => k_is); (case pe2 => k_is); (case gy0 => k_is); (case hy0 => k_is); (case ty0 => decide +kernel); (case iy0 => k_is); (case ky0 => k_is); (case by0 => k_is); (case wy0 => k_is); (case xy0 => k_is); (case ry0 => first | rfl | k_is); (case zy0 => kernel_rfl); (case gy1 => k_is); (case hy1 => k_is); (case ty1 => decide +kernel); (case iy1 => k_is); (case ky1 => k_is); (case by1 => k_is); (case wy1 => k_is); (case xy1 => k_is); (case ry1 => first | rfl | k_is); (case zy1 => kernel_rfl); (case gy2 => k_is); (case hy2 => k_is); (case ty2 => decide +kernel); (case iy2 => k_is); (case ky2 => k_is); (case by2 => k_is); (case wy2 => k_is); (case xy2 => k_is); (case ry2 => first | rfl | k_is); (case zy2 => kernel_rfl); (case a0 => k_is); (case l0 => k_is); (case c0 => k_is); (case k0 => k_is); (case a1 => k_is); (case l1 => k_is); (case c1 => k_is); (case k1 => k_is); (case a2 => k_is); (case l2 => k_is); (case c2 => k_is); (case k2 => k_is); (case a3 => k_is); (case l3 => k_is); (case c3 => k_is); (case k3 => k_is); (case a4 => k_is); (case l4 => k_is); (case c4 => k_is); (case k4 => k_is); (case a5 => k_is); (case l5 => k_is); (case c5 => k_is); (case k5 => k_is); (case a6 => k_is); (case l6 => k_is); (case c6 => k_is); (case k6 => k_is); (case a7 => k_is); (case l7 => k_is); (case c7 => k_is); (case k7 => k_is); (case a8 => k_is); (case l8 => k_is); (case c8 => k_is); (case k8 => k_is); (case a9 => k_is); (case l9 => k_is); (case c9 => k_is); (case k9 => k_is); (case a10 => k_is); (case l10 => k_is); (case c10 => k_is); (case k10 => k_is); (case a11 => k_is); (case l11 => k_is); (case c11 => k_is); (case k11 => k_is); (case a12 => k_is); (case l12 => k_is); (case c12 => k_is); (case k12 => k_is); (case a13 => k_is); (case l13 => k_is); (case c13 => k_is); (case k13 => k_is); (case a14 => k_is); (case l14 => k_is); (case c14 => k_is); (case k14 => k_is); (case a15 => k_is); (case l15 => k_is); (case c15 => k_is); (case k15 => k_is); (case a16 => k_is); (case l16 => k_is); (case c16 => k_is); (case k16 => k_is); (case a17 => k_is); (case l17 => k_is); (case c17 => k_is); (case k17 => k_is); (case a18 => k_is); (case l18 => k_is); (case c18 => k_is); (case k18 => k_is); (case a19 => k_is); (case l19 => k_is); (case c19 => k_is); (case k19 => k_is); (case a20 => k_is); (case l20 => k_is); (case c20 => k_is); (case k20 => k_is); (case a21 => k_is); (case l21 => k_is); (case c21 => k_is); (case k21 => k_is); (case a22 => k_is); (case l22 => k_is); (case c22 => k_is); (case k22 => k_is); (case a23 => k_is); (case l23 => k_is); (case c23 => k_is); (case k23 => k_is); (case a24 => k_is); (case l24 => k_is); (case c24 => k_is); (case k24 => k_is); (case a25 => k_is); (case l25 => k_is); (case c25 => k_is); (case k25 => k_is); (case a26 => k_is); (case l26 => k_is); (case c26 => k_is); (case k26 => k_is); (case a27 => k_is); (case l27 => k_is); (case c27 => k_is); (case k27 => k_is); (case a28 => k_is); (case l28 => k_is); (case c28 => k_is); (case k28 => k_is); (case a29 => k_is); (case l29 => k_is); (case c29 => k_is); (case k29 => k_is); (case goKinds => k_is); (case pgoKinds => k_is); (case hdoKinds => k_is); (case pooKinds => k_is); (case saoKinds => k_is); (case mkoKinds => k_is); (case kcoKinds => k_is); (case neoKinds => k_is); (case oboKinds => k_is); (case kioKinds => first | rfl | k_is); (case ktoKinds => first | rfl | k_is); (case kdoKinds => first | rfl | k_is); (case kroKinds => first | rfl | k_is); (case ksoKinds => first | rfl | k_is); (case kNoneTypeoKinds => first | rfl | k_is); (case kintoKinds => first | rfl | k_is); (case kbooloKinds => first | rfl | k_is); (case kstroKinds => first | rfl | k_is); (case klistoKinds => first | rfl | k_is); (case caoKinds => k_is); (case cgoKinds => k_is); (case ctoKinds => k_is); (case n_leafoKinds => k_is); (case n_makingsoKinds => k_is); (case n_namesoKinds => k_is); (case atM0Kinds => k_is); (case ifM0Kinds => k_is); (case lM0Kinds => k_is); (case cM0Kinds => k_is); (case kM0Kinds => k_is); (case atM2Kinds => k_is); (case geM2Kinds => k_is); (case taM2Kinds => k_is); (case reM2Kinds => k_is); (case lM2Kinds => k_is); (case cM2Kinds => k_is); (case kM2Kinds => k_is); (case atM3Kinds => k_is); (case geM3Kinds => k_is); (case taM3Kinds => k_is); (case reM3Kinds => k_is); (case lM3Kinds => k_is); (case cM3Kinds => k_is); (case kM3Kinds => k_is); (case atM4Kinds => k_is); (case geM4Kinds => k_is); (case taM4Kinds => k_is); (case reM4Kinds => k_is); (case lM4Kinds => k_is); (case cM4Kinds => k_is); (case kM4Kinds => k_is); (case atM9Kinds => k_is); (case ifM9Kinds => k_is); (case lM9Kinds => k_is); (case cM9Kinds => k_is); (case kM9Kinds => k_is); (case atM10Kinds => k_is); (case ifM10Kinds => k_is); (case lM10Kinds => k_is); (case cM10Kinds => k_is); (case kM10Kinds => k_is); (case atM12Kinds => k_is); (case ifM12Kinds => k_is); (case lM12Kinds => k_is); (case cM12Kinds => k_is); (case kM12Kinds => k_is); (case atM13Kinds => k_is); (case ifM13Kinds => k_is); (case lM13Kinds => k_is); (case cM13Kinds => k_is); (case kM13Kinds => k_is); (case atM14Kinds => k_is); (case ifM14Kinds => k_is); (case lM14Kinds => k_is); (case cM14Kinds => k_is); (case kM14Kinds => k_is); (case goPage => k_is); (case pgoPage => k_is); (case hdoPage => k_is); (case pooPage => k_is); (case saoPage => k_is); (case mkoPage => k_is); (case kcoPage => k_is); (case neoPage => k_is); (case oboPage => k_is); (case kioPage => first | rfl | k_is); (case ktoPage => first | rfl | k_is); (case kdoPage => first | rfl | k_is); (case kroPage => first | rfl | k_is); (case ksoPage => first | rfl | k_is); (case kNoneTypeoPage => first | rfl | k_is); (case kintoPage => first | rfl | k_is); (case kbooloPage => first | rfl | k_is); (case kstroPage => first | rfl | k_is); (case klistoPage => first | rfl | k_is); (case caoPage => k_is); (case cgoPage => k_is); (case ctoPage => k_is); (case n_noteoPage => k_is); (case n_pooloPage => k_is); (case n_madeoPage => k_is); (case n_afteroPage => k_is); (case atM0Page => k_is); (case ifM0Page => k_is); (case lM0Page => k_is); (case cM0Page => k_is); (case kM0Page => k_is); (case atM2Page => k_is); (case geM2Page => k_is); (case taM2Page => k_is); (case reM2Page => k_is); (case lM2Page => k_is); (case cM2Page => k_is); (case kM2Page => k_is); (case atM3Page => k_is); (case geM3Page => k_is); (case taM3Page => k_is); (case reM3Page => k_is); (case lM3Page => k_is); (case cM3Page => k_is); (case kM3Page => k_is); (case atM4Page => k_is); (case geM4Page => k_is); (case taM4Page => k_is); (case reM4Page => k_is); (case lM4Page => k_is); (case cM4Page => k_is); (case kM4Page => k_is); (case atM5Page => k_is); (case geM5Page => k_is); (case taM5Page => k_is); (case reM5Page => k_is); (case lM5Page => k_is); (case cM5Page => k_is); (case kM5Page => k_is); (case atM6Page => k_is); (case geM6Page => k_is); (case taM6Page => k_is); (case reM6Page => k_is); (case lM6Page => k_is); (case cM6Page => k_is); (case kM6Page => k_is); (case atM7Page => k_is); (case geM7Page => k_is); (case taM7Page => k_is); (case reM7Page => k_is); (case lM7Page => k_is); (case cM7Page => k_is); (case kM7Page => k_is); (case atM8Page => k_is); (case ifM8Page => k_is); (case lM8Page => k_is); (case cM8Page => k_is); (case kM8Page => k_is); (case atM9Page => k_is); (case ifM9Page => k_is); (case lM9Page => k_is); (case cM9Page => k_is); (case kM9Page => k_is); (case atM10Page => k_is); (case ifM10Page => k_is); (case lM10Page => k_is); (case cM10Page => k_is); (case kM10Page => k_is); (case atM11Page => k_is); (case ifM11Page => k_is); (case lM11Page => k_is); (case cM11Page => k_is); (case kM11Page => k_is); (case rdQ1Page => first | rfl | k_is); (case gaQ1Page => first | rfl | k_is); (case atQ1Page => first | rfl | k_is); (case reQ1Page => k_is); (case lQ1Page => k_is); (case cQ1Page => k_is); (case kQ1Page => k_is); (case m0 => k_is); (case m1 => k_is); (case m2 => k_is); (case m3 => k_is); (case m4 => k_is); (case m5 => k_is); (case gu0 => k_is); (case lu0 => k_is); (case z0 => k_is); (case z1 => k_is); (case z2 => k_is); (case z3 => k_is); (case z4 => k_is); (case z5 => k_is); (case z6 => k_is); (case z7 => k_is); (case z8 => k_is); (case z9 => k_is); (case z10 => k_is); (case z11 => k_is); (case z12 => k_is); (case z13 => k_is); (case z14 => k_is); (case z15 => k_is); (case z16 => k_is); (case z17 => k_is); (case z18 => k_is); (case z19 => k_is); (case z20 => k_is); (case z21 => k_is)
