import PyProof.Rows.All
import Wide.All
import OpenK.AllK
import Wide.FinOn
import KE.KCallOwn
import KE.KEqDict
import PyProof.InstEq
import HandS.Base
import HandS.Call
import HandS.List
import HandS.Dict
import HandS.More
import HandS.Comp
import HandS.Words
import HandS.Property
import HandS.IsInst
import PyProof.Rows.SortShellAny
import PyProof.Rows.SetFrom
import HandS.Set
import PyProof.Rows.StrCountLaw
import HandS.ForMost
import HandS.Wide
import HandS.StrMore
import HandS.Style
import PyProof.ReprReads
import HandS.Ends
import PyProof.ReprRoads
import PyProof.TupleOfSeq
import KE.KExcInit
import HandS.ForExc
import HandS.TryMany
import HandS.Defaults
import HandS.Deep
import HandS.ExcValue
import KE.KExcMake
import KE.KExcIs
import HandS.Walk
import HandS.FStr
import HandS.DictComp
import HandS.ListItems
import HandS.TupAny
import HandS.Star
import HandS.Strs
import HandS.Small
import HandS.SetFor
import HandS.ReCall
import HandS.Flow
import HandS.Zip
import KE.GoesMore
import KE.GoesZip
import PyProof.Rows.RegFStrParts
import KE.GoesEnum
import HandS.TupMul
import PySem.Challenge.RW_linkbooks_k14_whole_rows_judged_by_trees
set_option Elab.async false
set_option linter.all false
set_option maxRecDepth 100000
set_option maxHeartbeats 4000000
namespace Gx
open PySem PySem.Spec PySem.Calls PyProof.Rows L2
/-! ### own protocols: in, [], len, str, == and != of instances -/
theorem rel_ref (a : Addr) : RelV (V.ref a) (Value.ref a) := rfl
/-- a method of the class at C that keeps the promise sp, by at most level k -/
def CalM (P : Program) (w : World) (K : PySem.W.Frag) (mg : Str → Option Value) (base : Heap) (C : Addr) (m : Str) (k : Nat) (ps : List Str) (sp : Sp) : Prop :=
  ∃ (f : Addr) (fd : FuncData), FnOk P w K mg base CX0 k f fd ps sp ∧ Meth K C m f ∧ Binds K fd ps [] ∧ PySem.W.fnIn K f = true
theorem CalM.mono {P : Program} {w : World} {K : PySem.W.Frag} {mg : Str → Option Value} {base : Heap} {C : Addr} {m : Str} {j k : Nat} {ps : List Str} {sp : Sp} (c : CalM P w K mg base C m j ps sp) (h : j ≤ k) : CalM P w K mg base C m k ps sp := by
  obtain ⟨f, fd, F, more⟩ := c
  exact ⟨f, fd, F.mono h, more⟩
section
variable {X : Cx} {C : Addr} {k : Nat} {ps : List Str} {sp : Sp} {m : Str}
/-- the method runs, somewhere below the body -/
theorem run_below {f : Addr} {fd : FuncData} {A : Around} {pins : List (Addr × Obj)} {σ : L2.St} {H : Hp} {s : Shared} {us : List Value} {vs : List V} {Q : VK} {E : Value → Shared → Prop} (F : FnOk X.prog X.w X.K X.mg X.base CX0 k f fd ps sp) (room : Room k A) (fr : A.frames = X.A.frames) (b : Binds X.K fd ps [])
    (I : Inv X pins σ H s) (r : Vals vs us) (want : sp vs H Q E0) : wpAny (model X.prog X.w) A (call (.ref f) us) (EP X pins σ Q) E s := by
  have e0 : Env0 X.prog X.w X.K X.mg X.base A X.stack s H := by
    have e := I.env0
    exact ⟨by rw [fr]; exact e.frames, e.mod, e.bs, e.bsz, e.funs, e.frf, e.hok, e.bare⟩
  have hl : us.length = ps.length := r.length.symm.trans (F.len _ _ _ _ want)
  have bt : BindsTo s fd ⟨us, []⟩ (ps.zip us) := by
    have q := b s us I.kIn (by rw [List.append_nil]; exact hl)
    rw [List.append_nil] at q
    exact q
  refine wpAny_call (codeAny_mono (F.run A X.stack s H ⟨us, []⟩ us vs Q E0 room e0 bt r want) fun res s' hres => ?_)
  match res, hres with
  | .error e, hres => exact hres.elim
  | .ok (.ret u), hres => exact I.after hres
/-- x in o, x not in o -/
def rInM (C : Addr) (sp : Sp) (neg : Bool) : R2 := fun x y H Q => ∃ a dx fs, y = .ref a ∧ H a = some (.ins C dx fs) ∧ sp [.ref a, x] H (fun v H' => ∃ b, v = .bl b ∧ Q (.bl (if neg then !b else b)) H') E0
theorem op_inM (c : CalM X.prog X.w X.K X.mg X.base C "__contains__" k ps sp) (hr : Room k X.A) : OpR X (compareOp .In) (rInM C sp false) := by
  intro pins s σ H x y v u Q I rx ry h
  obtain ⟨f, fd, F, me, b, _⟩ := c
  obtain ⟨a, dx, fs, rfl, ea, q⟩ := h
  obtain rfl : u = Value.ref a := ry
  obtain ⟨mA, O, _⟩ := ins_get I.hok ea
  obtain ⟨od, J, _⟩ := O.look
  obtain ⟨mm, hF⟩ := I.fr
  refine PySem.W.in_K hF I.ok.mod.kin J me.at_ me.fn (wpAny_mono (run_below F hr rfl b I (.cons (rel_ref a) (.cons rx .nil)) q) (fun r s' z => ?_) fun _ _ e => e)
  obtain ⟨v', H', I', rv, t, rfl, q'⟩ := z
  cases rv
  exact wpAny_truthy_bool ⟨.bl t, H', I', rfl, q'⟩
theorem op_notinM (c : CalM X.prog X.w X.K X.mg X.base C "__contains__" k ps sp) (hr : Room k X.A) : OpR X (compareOp .NotIn) (rInM C sp true) := by
  intro pins s σ H x y v u Q I rx ry h
  obtain ⟨f, fd, F, me, b, _⟩ := c
  obtain ⟨a, dx, fs, rfl, ea, q⟩ := h
  obtain rfl : u = Value.ref a := ry
  obtain ⟨mA, O, _⟩ := ins_get I.hok ea
  obtain ⟨od, J, _⟩ := O.look
  obtain ⟨mm, hF⟩ := I.fr
  refine PySem.W.notIn_K hF I.ok.mod.kin J me.at_ me.fn (wpAny_mono (run_below F hr rfl b I (.cons (rel_ref a) (.cons rx .nil)) q) (fun r s' z => ?_) fun _ _ e => e)
  obtain ⟨v', H', I', rv, t, rfl, q'⟩ := z
  cases rv
  exact wpAny_truthy_bool ⟨.bl (!t), H', I', rfl, q'⟩
/-- o[x] -/
def rIxM (C : Addr) (sp : Sp) : R2 := fun x y H Q => ∃ a dx fs, x = .ref a ∧ H a = some (.ins C dx fs) ∧ sp [.ref a, y] H Q E0
theorem pe_ixM {a b : Expr} {ta tb : TE} {pos : Pos} (c : CalM X.prog X.w X.K X.mg X.base C "__getitem__" k ps sp) (hr : Room (k + 1) X.A) (ha : PE X a ta) (hb : PE X b tb)
    (hs : ∀ v u, subscripted b true v u = runValue (.builtin "lifetime.subscript" ⟨[v, u], []⟩)) : PE X (.Subscript a b pos) (tOp (rIxM C sp) ta tb) := by
  obtain ⟨f, fd, F, me, bi, fi⟩ := c
  refine ⟨fun pins s σ H Q I h => ?_⟩
  refine Subscript_ (binT ha hb I h fun v u s2 x y H2 I2 rx ry q => ?_)
  obtain ⟨p, dx, fs, rfl, ea, q⟩ := q
  obtain rfl : v = Value.ref p := rx
  obtain ⟨mA, O, _⟩ := ins_get I2.hok ea
  obtain ⟨od, J, _⟩ := O.look
  obtain ⟨mm, hF⟩ := I2.fr
  exact PySem.W.sub_K hF I2.ok.mod.kin J me.at_ fi me.fn (run_below F hr.in1 rfl bi I2 (.cons (rel_ref _) (.cons ry .nil)) q) (hs _ _)
/-- len(o) -/
def rLenM (C : Addr) (sp : Sp) : List V → Hp → VK → Prop := fun vs H Q => ∃ a dx fs, vs = [.ref a] ∧ H a = some (.ins C dx fs) ∧ sp [.ref a] H (fun v H' => ∃ n : Nat, v = .int n ∧ n ≤ 1000000 ∧ Q (.int n) H') E0
theorem call_lenM (c : CalM X.prog X.w X.K X.mg X.base C "__len__" k ps sp) (hr : Room (k + 1) X.A) : CallR X (.builtin "len") (rLenM C sp) := by
  intro pins s σ H xs us Q I r h
  obtain ⟨f, fd, F, me, b, _⟩ := c
  obtain ⟨a, dx, fs, rfl, ea, q⟩ := h
  rw [Vals.ref1 r]
  obtain ⟨mA, O, _⟩ := ins_get I.hok ea
  obtain ⟨od, J, _⟩ := O.look
  obtain ⟨mm, hF⟩ := I.fr
  refine PySem.W.len_K hF I.ok.mod.kin J me.at_ me.fn (wpAny_mono (run_below F hr.in1 rfl b I (.cons (rel_ref a) .nil) q) (fun r s' z => ?_) fun _ _ e => e)
  obtain ⟨v', H', I', rv, n, rfl, hn, q'⟩ := z
  obtain ⟨t, rfl⟩ := (show ∃ t, r = Value.int n t from rv)
  exact ⟨⟨by omega, by omega⟩, .int n, H', I'.tok _, ⟨_, rfl⟩, q'⟩
/-- str(o) -/
def rStrM (C : Addr) (sp : Sp) : List V → Hp → VK → Prop := fun vs H Q => ∃ a dx fs, vs = [.ref a] ∧ H a = some (.ins C dx fs) ∧ sp [.ref a] H (fun v H' => ∃ z : Str, v = .str z ∧ Q (.str z) H') E0
theorem call_strM (c : CalM X.prog X.w X.K X.mg X.base C "__str__" k ps sp) (hr : Room (k + 2) X.A) : CallR X (.type "str") (rStrM C sp) := by
  intro pins s σ H xs us Q I r h
  obtain ⟨f, fd, F, me, b, _⟩ := c
  obtain ⟨a, dx, fs, rfl, ea, q⟩ := h
  rw [Vals.ref1 r]
  obtain ⟨mA, O, _⟩ := ins_get I.hok ea
  obtain ⟨od, J, _⟩ := O.look
  have r2 : Room k X.A.in1.in1 := (hr.in1).in1
  refine PySem.W.kso_call r2.units0 I.kIn J me.at_ me.fn (wpAny_mono (run_below F r2 rfl b I (.cons (rel_ref a) .nil) q) (fun r s' z => ?_) fun _ _ e => e)
  obtain ⟨v', H', I', rv, y, rfl, q'⟩ := z
  obtain ⟨t, rfl⟩ := (show ∃ t, r = Value.str y t from rv)
  exact ⟨.str y, H', I', ⟨_, rfl⟩, q'⟩
/-- what an instance of the class at C may be compared with: another one, a tuple, a dict -/
inductive Oth (K : PySem.W.Frag) (H : Hp) (C : Addr) : V → Value → Prop
  | ins {a dx : Addr} {fs : List (Str × V)} (e : H a = some (.ins C dx fs)) : Oth K H C (.ref a) (.ref C)
  | tup {a : Addr} {xs : List V} (e : SqT K H a xs) : Oth K H C (.ref a) (.type "tuple")
  | dict {a : Addr} {kvs : List (Key × V)} (e : H a = some (.dK kvs)) : Oth K H C (.ref a) (.type "dict")
theorem sub_tuple_own {K : PySem.W.Frag} {C : Addr} : PySem.W.subIn K (.type "tuple") (.ref C) = some false := by
  have e : fastBuiltinMro "tuple" = some [.type "tuple", .type "object"] := by decide +kernel
  show (fastBuiltinMro "tuple").map (·.contains (.ref C)) = some false
  rw [e]
  first
    | rfl
    | simp
theorem sub_dict_own {K : PySem.W.Frag} {C : Addr} : PySem.W.subIn K (.type "dict") (.ref C) = some false := by
  have e : fastBuiltinMro "dict" = some [.type "dict", .type "object"] := by decide +kernel
  show (fastBuiltinMro "dict").map (·.contains (.ref C)) = some false
  rw [e]
  first
    | rfl
    | simp
theorem Oth.looks {M : Model} {pins : List (Addr × Obj)} {σ : L2.St} {H : Hp} {s : Shared} {y : V} {u t : Value} (I : Inv X pins σ H s) (o : Oth X.K H C y t) (r : RelV y u) :
    PySem.W.Looks M s.heap (typeOf u) t ∧ PySem.W.notFirst X.K C t = true := by
  cases o with
  | @ins a dx fs e =>
    obtain rfl : u = Value.ref a := r
    obtain ⟨mA, O, _⟩ := ins_get I.hok e
    obtain ⟨od, J, _⟩ := O.look
    exact ⟨J.type, by simp [PySem.W.notFirst]⟩
  | @tup a xs e =>
    obtain rfl : u = Value.ref a := r
    obtain ⟨its, rv, ⟨ob, ho, hc, _⟩, _⟩ := I.tuple e
    refine ⟨?_, by simp [PySem.W.notFirst, sub_tuple_own]⟩
    intro A Q E s' kp q
    exact wpAny_typeOf (T := "tuple") ⟨ob, kp _ _ ho, hc⟩ q
  | @dict a kvs e =>
    obtain rfl : u = Value.ref a := r
    obtain ⟨_, _, vs, _, dd⟩ := dk_of I.hok e
    refine ⟨?_, by simp [PySem.W.notFirst, sub_dict_own]⟩
    intro A Q E s' kp q
    obtain ⟨ob, ho, hc⟩ := dd.typeIs
    exact wpAny_typeOf (T := "dict") ⟨ob, kp _ _ ho, hc⟩ q
/-- o == y by the class's own == -/
def rEqM (K : PySem.W.Frag) (C : Addr) (sp : Sp) : R2 := fun x y H Q => ∃ a dx fs t, x = .ref a ∧ H a = some (.ins C dx fs) ∧ Oth K H C y t ∧ sp [.ref a, y] H (fun v H' => ∃ b, v = .bl b ∧ Q (.bl b) H') E0
theorem op_eqM (c : CalM X.prog X.w X.K X.mg X.base C "__eq__" k ps sp) (hr : Room k X.A) : OpR X (compareOp .Eq) (rEqM X.K C sp) := by
  intro pins s σ H x y v u Q I rx ry h
  obtain ⟨f, fd, F, me, b, _⟩ := c
  obtain ⟨a, dx, fs, t, rfl, ea, o, q⟩ := h
  obtain rfl : v = Value.ref a := rx
  obtain ⟨mA, O, _⟩ := ins_get I.hok ea
  obtain ⟨od, J, _⟩ := O.look
  obtain ⟨mm, hF⟩ := I.fr
  obtain ⟨lk, nf⟩ := o.looks (M := model X.prog X.w) I ry
  show wpAny _ _ (richCompare .Eq (.ref a) u) _ _ _
  refine PySem.W.cmp_K (op := .Eq) hr.units0 hF I.ok.mod.kin J lk nf me.at_ me.fn (wpAny_mono (run_below F hr rfl b I (.cons (rel_ref _) (.cons ry .nil)) q) (fun r s' z => ?_) fun _ _ e => e)
  obtain ⟨v', H', I', rv, t, rfl, q'⟩ := z
  cases rv
  exact ⟨.bl t, H', I', rfl, q'⟩
end
section
variable {prog : Program} {w : World} {A : Around} {E : Value → Shared → Prop} {s : Shared} {K : PySem.W.Frag} {x C f : Addr} {ox : Obj} {od : Option Obj} {y : Value}
theorem objNe_by (inK : K.In s.heap) (J : PySem.W.InstAt s.heap x ox C od) (hs : PySem.W.findIn K (.ref C) "__eq__" = some (some (.ref f))) (hf : PySem.W.isFn K (.ref f) = true) (hu : A.units < cLine) {Q : Fin → Shared → Prop}
    (hcall : wpAny (model prog w) A (call (.ref f) [.ref x, y]) (fun v s' => ∃ b, v = .bool b ∧ Q (.done (.ret (.bool (!b)))) s') E s) : wpAny (model prog w) A (Builtin.«object.__ne__» ⟨[.ref x, y], []⟩) Q E s := by
  unfold Builtin.«object.__ne__»
  repeat (first
    | with_reducible refine wpAny_cRoomFor hu ?_
    | (refine wpAny_bind (m := callSpecialIfBound? (.ref x) (Str.ofString "__eq__") [y]) (PySem.W.ifBound_K inK J hs hf (wpAny_mono hcall (fun r s' hr => by
          obtain ⟨b, rfl, hq⟩ := hr
          repeat (first | exact hq | exact wpAny_pure hq | exact wpAny_truthy_bool hq | (refine wpAny_bind (m := truthy (.bool _)) (wpAny_truthy_bool ?_)) | wp_step)) fun _ _ e => e)))
    | wp_step)
theorem bound_ne {args : List Value} {Q : Option Value → Shared → Prop} (inK : K.In s.heap) (J : PySem.W.InstAt s.heap x ox C od) (hs : PySem.W.findIn K (.ref C) "__ne__" = some (some (.builtin "object.__ne__")))
    (h : wpAny (model prog w) A (call (.builtin "object.__ne__") (.ref x :: args)) (fun v => Q (some v)) E s) : wpAny (model prog w) A (callSpecialIfBound? (.ref x) "__ne__" args) Q E s := by
  simp only [callSpecialIfBound?, bindSpecialIfBound?]
  refine wpAny_holding (wpAny_bind (wpAny_bind (wpAny_bind (J.type.here ((PySem.W.looks_findIn inK hs).here ?_)))))
  refine wpAny_bind (wpAny_askSetting (wpAny_ite ?_))
  have last : wpAny (model prog w) A (call (.builtin "object.__ne__") ([.ref x] ++ args) >>= fun v => pure (some v)) Q E s := wpAny_bind (wpAny_mono h (fun v s' h' => wpAny_pure h') fun _ _ h' => h')
  split
  · exact wpAny_bind (wpAny_of_eq (PySem.F.cmp_object.ne.bind _) (wpAny_pure (by exact last)))
  · exact wpAny_tryCatch (wpAny_bind (wpAny_of_eq (PySem.F.cmp_object.ne.bind _) (wpAny_pure (by exact last))))
theorem rc_neM {tb : Value} {Q : Value → Shared → Prop} (inK : K.In s.heap) (J : PySem.W.InstAt s.heap x ox C od) (hm : PySem.W.mroIn K C (.type "object") = some true) (hn : PySem.W.findIn K (.ref C) "__ne__" = some (some (.builtin "object.__ne__")))
    (hs : PySem.W.findIn K (.ref C) "__eq__" = some (some (.ref f))) (hf : PySem.W.isFn K (.ref f) = true) (hu : A.units < cLine) (hu1 : A.in1.units < cLine) (lk : PySem.W.Looks (model prog w) s.heap (typeOf y) tb) (nf : PySem.W.notFirst K C tb = true)
    (hcall : wpAny (model prog w) A.in1 (call (.ref f) [.ref x, y]) (fun v s' => ∃ b, v = .bool b ∧ Q (.bool (!b)) s') E s) : wpAny (model prog w) A (richCompare .NotEq (.ref x) y) Q E s := by
  have one : wpAny (model prog w) A (tryCompare (.ref x) "__ne__" y) (fun r s' => ∃ v, r = some v ∧ Q v s') E s := by
    unfold tryCompare
    refine wpAny_bind (bound_ne inK J hn (wpAny_call (codeAny_call_builtin PySem.F.cmp_object.ne.plain PySem.F.cmpEntry_ne
      (PySem.W.check_slot PySem.F.cmpKind_ne PySem.F.cmpSplit_ne (J.type.andThen (PySem.W.looks_mroIn inK hm)) (PySem.F.cmpArgs_ne _ _) (objNe_by inK J hs hf hu1 (wpAny_mono hcall (fun v s' hv => ?_) fun _ _ e => e))))))
    obtain ⟨b, rfl, q⟩ := hv
    first
      | exact ⟨b, rfl, wpAny_pure ⟨_, rfl, q⟩⟩
      | exact ⟨b, rfl, wpAny_pure (wpAny_pure ⟨_, rfl, q⟩)⟩
      | exact ⟨b, rfl, ⟨_, rfl, q⟩⟩
  unfold richCompare
  simp only [oneThing_ref]
  refine wpAny_holding (wpAny_bind (wpAny_cRoomFor hu ?_))
  refine wpAny_bind (J.type.here (wpAny_bind (lk.here ?_)))
  split
  · rename_i q
    have e : PySem.W.subIn K tb (.ref C) = some false := by
      rcases Bool.or_eq_true_iff.mp nf with e | e
      · rw [beq_iff_eq.mp e] at q
        simp at q
      · exact beq_iff_eq.mp e
    refine wpAny_bind ((PySem.W.looks_subIn inK e).here ?_)
    simp only [Bool.false_eq_true, if_false]
    refine wpAny_bind (wpAny_mono one (fun r s' z => ?_) fun _ _ e => e)
    obtain ⟨v, rfl, hq⟩ := z
    exact wpAny_pure hq
  · refine wpAny_bind (wpAny_pure ?_)
    simp only [Bool.false_eq_true, if_false]
    refine wpAny_bind (wpAny_mono one (fun r s' z => ?_) fun _ _ e => e)
    obtain ⟨v, rfl, hq⟩ := z
    exact wpAny_pure hq
end
section
variable {X : Cx} {C : Addr} {k : Nat} {ps : List Str} {sp : Sp}
/-- o != y, the class having no != of its own -/
def rNeM (K : PySem.W.Frag) (C : Addr) (sp : Sp) : R2 := fun x y H Q => ∃ a dx fs t, x = .ref a ∧ H a = some (.ins C dx fs) ∧ Oth K H C y t ∧ sp [.ref a, y] H (fun v H' => ∃ b, v = .bl b ∧ Q (.bl (!b)) H') E0
theorem op_neM (c : CalM X.prog X.w X.K X.mg X.base C "__eq__" k ps sp) (hn : PySem.W.findIn X.K (.ref C) "__ne__" = some (some (.builtin "object.__ne__"))) (hm : PySem.W.mroIn X.K C (.type "object") = some true) (hr : Room (k + 1) X.A) :
    OpR X (compareOp .NotEq) (rNeM X.K C sp) := by
  intro pins s σ H x y v u Q I rx ry h
  obtain ⟨f, fd, F, me, b, _⟩ := c
  obtain ⟨a, dx, fs, t, rfl, ea, o, q⟩ := h
  obtain rfl : v = Value.ref a := rx
  obtain ⟨mA, O, _⟩ := ins_get I.hok ea
  obtain ⟨od, J, _⟩ := O.look
  obtain ⟨lk, nf⟩ := o.looks (M := model X.prog X.w) I ry
  show wpAny _ _ (richCompare .NotEq (.ref a) u) _ _ _
  refine rc_neM I.kIn J hm hn me.at_ me.fn hr.units0 hr.in1.units0 lk nf (wpAny_mono (run_below F hr.in1 rfl b I (.cons (rel_ref _) (.cons ry .nil)) q) (fun r s' z => ?_) fun _ _ e => e)
  obtain ⟨v', H', I', rv, t, rfl, q'⟩ := z
  cases rv
  exact ⟨t, rfl, .bl (!t), H', I', rfl, q'⟩
/-! ### dicts of data compared -/
/-- the pairs ks, one by one, in the dict of the pairs ls -/
inductive HitsV (K : PySem.W.Frag) (H : Hp) (ls : List (Key × V)) : List (Key × V) → Bool → Prop
  | nil : HitsV K H ls [] true
  | miss {p : Key × V} {r : List (Key × V)} (e : valV ls p.1 = none) : HitsV K H ls (p :: r) false
  | hit {p : Key × V} {r : List (Key × V)} {y : V} {d e : PyData} {b : Bool} (at_ : valV ls p.1 = some y) (hd : Dp K H p.2 d) (he : Dp K H y e) (sd : SeqAt.shaped d = true) (se : SeqAt.shaped e = true) (more : HitsV K H ls r b) : HitsV K H ls (p :: r) (PyData.eqv d e && b)
theorem HitsV.raw {pins : List (Addr × Obj)} {σ : L2.St} {H : Hp} {s : Shared} (I : Inv X pins σ H s) (hu : X.A.in1.units + 64 < cLine) {ls : List (Key × V)} {vb : List (Key × Value)} (rb : KV ls vb) {ks : List (Key × V)} {r : Bool} (h : HitsV X.K H ls ks r) :
    ∀ {va : List (Key × Value)}, KV ks va → PySem.W.KeqHits X.A.in1 s vb va r := by
  induction h with
  | nil =>
    intro va ra
    unfold KV at ra
    cases ra
    exact .nil
  | @miss p r e =>
    intro va ra
    unfold KV at ra
    cases ra with
    | @cons _ q _ qs h t =>
      obtain ⟨k, v⟩ := q
      obtain ⟨h1, h2⟩ := h
      have h1' : p.1 = k := h1
      have rr := rb.val p.1
      rw [e, h1'] at rr
      refine .miss ?_
      cases c : valueAt vb k with
      | none => rfl
      | some z => rw [c] at rr; exact rr.elim
  | @hit p r y d e b at_ hd he sd se more ih =>
    intro va ra
    unfold KV at ra
    cases ra with
    | @cons _ q _ qs h t =>
      obtain ⟨k, v⟩ := q
      obtain ⟨h1, h2⟩ := h
      have h1' : p.1 = k := h1
      have rr := rb.val p.1
      rw [at_, h1'] at rr
      obtain ⟨z, hz, rz⟩ := RelO.some_of rr
      obtain ⟨as, r1⟩ := Dp.reads I d p.2 v hd h2
      obtain ⟨bs, r2⟩ := Dp.reads I e y z he rz
      exact .hit hz (PySem.W.keq_at r1 r2 sd se hu) (ih t)
def rEqDX (K : PySem.W.Frag) : R2 := fun x y H Q => ∃ a b ks ls r, x = .ref a ∧ y = .ref b ∧ H a = some (.dK ks) ∧ H b = some (.dK ls) ∧ (ks.length = ls.length → HitsV K H ls ks r) ∧ Q (.bl (ks.length == ls.length && r)) H
theorem op_eqDX (hu : X.A.units + 66 < cLine) : OpR X (compareOp .Eq) (rEqDX X.K) := by
  intro pins s σ H x y v u Q I rx ry h
  obtain ⟨a, b, ks, ls, r, rfl, rfl, ea, eb, hits, q⟩ := h
  obtain rfl : v = Value.ref a := rx
  obtain rfl : u = Value.ref b := ry
  obtain ⟨_, ya, va, ra, da⟩ := dk_of I.hok ea
  obtain ⟨_, yb, vb, rb, db⟩ := dk_of I.hok eb
  have l1 := ra.length
  have l2 := rb.length
  have u1 : X.A.in1.units + 64 < cLine := by
    have e : X.A.in1.units ≤ X.A.units + 1 := by
      show X.A.units + 1 ≤ _
      exact Nat.le_refl _
    omega
  refine PySem.W.keq_eq (knd := mixKind X.prog X.w) (r := r) ya yb da db (by omega) (fun e => (hits (by omega)).raw I u1 rb ra) (fin_bl I q ?_)
  rw [l1, l2]
/-! ### a star before a dict -/
def tStarD (te : TE) (t : TA) : TA := fun σ H Q => te σ H fun x H1 => ∃ p kvs, x = V.ref p ∧ H1 p = some (.dK kvs) ∧ t σ H1 fun ys H2 => Q ((kvs.map fun kv => kV kv.1) ++ ys) H2
theorem star_dict {pins : List (Addr × Obj)} {σ : L2.St} {H : Hp} {s : Shared} (hc : X.calm = true) {a : Addr} {kvs : List (Key × V)} {E : Value → Shared → Prop} {Q : List Value → Shared → Prop} (I : Inv X pins σ H s) (h : H a = some (.dK kvs)) (hQ : ∀ us s', Inv X pins σ H s' → Vals (kvs.map fun kv => kV kv.1) us → Q us s') :
    PySem.W.StarOf (model X.prog X.w) X.A E (.ref a) Q s := by
  obtain ⟨z, lo, vs, rel, dd⟩ := dk_of I.hok h
  obtain ⟨ep, hat⟩ := dd.dictAt
  have hT : s.TypeIs (.ref a) "dict" := dd.typeIs
  have z2 : vs.length ≤ sizeLine := by rw [← rel.length]; exact z
  have ek : (kvs.map fun kv => kV kv.1) = vs.map fun p => kV p.1 := by
    have e := congrArg (List.map kV) rel.keys
    rw [List.map_map, List.map_map] at e
    exact e
  have g : wpAny (model X.prog X.w) X.A (collect (.ref a)) Q E s := by
    refine PySem.W.kdu_collect (PySem.W.kdl_dict (knd := mixKind X.prog X.w) (kvs := vs) (ep := ep) lo) (I.ok.hd hc) hat z2 fun h' tk acc hk hacc => ?_
    have hv : Vals (vs.map fun p => kV p.1) acc.toList := keys_at (by rw [Array.length_toList]; exact hacc.1) fun j v e => hacc.2 j v (by rw [← Array.getElem?_toList]; exact e)
    exact hQ _ _ (I.kept (t' := tk) hk) (by rw [ek]; exact hv)
  unfold PySem.W.StarOf notIterableAtAll
  exact wpAny_bind (wpAny_specialOf hT PySem.F.slot_dict_iter.lookup (wpAny_pure ⟨rfl, g⟩))
theorem pa_starD {e : Expr} {es : List Expr} {te : TE} {t : TA} {p : Pos} (hc : X.calm = true) (he : PE X e te) (hr : PA X es t) (hs : starEach (.Starred e p :: es) X.env = (true, eval e X.env) :: starEach es X.env := by rfl) : PA X (.Starred e p :: es) (tStarD te t) := by
  refine ⟨fun pos pins s σ H Q I h => ?_⟩
  refine PySem.W.items_star (thn (he.run pins s σ H _ I h) fun v s1 ⟨y, H1, I1, ry, a, kvs, ey, hx, q⟩ => ?_) hs
  subst ey
  obtain rfl : v = Value.ref a := ry
  refine star_dict hc I1 hx fun us s2 I2 rv => ?_
  exact thn (hr.run pos pins s2 σ H1 _ I2 q) fun ws s3 ⟨vs, H3, I3, r3, q3⟩ => ⟨_, H3, I3, rv.append r3, q3⟩
end
end Gx

set_option maxRecDepth 100000
set_option maxHeartbeats 4000000
namespace Gx
open PySem PySem.Spec PyProof.Rows L2
/-! ### classes of the top: methods, properties, making -/
theorem fn_in {K : PySem.W.Frag} {f : Addr} {oc : Value} {od : Option Addr} {fd : FuncData} {sl : Array (Option Value)} (l : K.lookup f = some ⟨oc, od, .func fd, sl⟩) : PySem.W.fnIn K f = true := by
  unfold PySem.W.fnIn
  rw [l]
/-- the class at C has the def st as its property m -/
def PropD (K : PySem.W.Frag) (C : Addr) (m qual : Str) (st : Stmt) : Prop := ∃ (p f : Addr) (fd : FuncData), PropOf K C m p f ∧ Fun K m qual st f fd ∧ Binds K fd ["self"] []
/-- .. as its method m -/
def DefM (K : PySem.W.Frag) (C : Addr) (m qual : Str) (st : Stmt) (ps : List Str) : Prop := ∃ (f : Addr) (fd : FuncData), Fun K m qual st f fd ∧ Meth K C m f ∧ Binds K fd ps [] ∧ PySem.W.fnIn K f = true
/-- a property that keeps the promise sp -/
def CalP (P : Program) (w : World) (K : PySem.W.Frag) (mg : Str → Option Value) (base : Heap) (C : Addr) (m : Str) (k : Nat) (sp : Sp) : Prop :=
  ∃ (p f : Addr) (fd : FuncData), PropOf K C m p f ∧ FnOk P w K mg base CX0 k f fd ["self"] sp ∧ Binds K fd ["self"] []
/-- C(..) by its __init__'s promise -/
def CalI (P : Program) (w : World) (K : PySem.W.Frag) (mg : Str → Option Value) (base : Heap) (C : Addr) (k : Nat) (ps : List Str) (sp : Sp) : Prop :=
  ∃ (f : Addr) (fd : FuncData), Mk K C f ∧ FnOk P w K mg base CX0 k f fd ps sp ∧ Binds K fd ps []
section
variable {P : Program} {w : World} {K : PySem.W.Frag} {mg : Str → Option Value} {base : Heap} {C : Addr} {m qual : Str} {st : Stmt} {k : Nat} {ps : List Str} {sp : Sp}
theorem DefM.cal (d : DefM K C m qual st ps) (h : ∀ f fd, Fun K m qual st f fd → FnOk P w K mg base CX0 k f fd ps sp) : CalM P w K mg base C m k ps sp := by
  obtain ⟨f, fd, F, me, b, fi⟩ := d
  exact ⟨f, fd, h f fd F, me, b, fi⟩
theorem PropD.cal (d : PropD K C m qual st) (h : ∀ f fd, Fun K m qual st f fd → FnOk P w K mg base CX0 k f fd ["self"] sp) : CalP P w K mg base C m k sp := by
  obtain ⟨p, f, fd, pr, F, b⟩ := d
  exact ⟨p, f, fd, pr, h f fd F, b⟩
theorem CalP.mono {j : Nat} (c : CalP P w K mg base C m j sp) (h : j ≤ k) : CalP P w K mg base C m k sp := by
  obtain ⟨p, f, fd, pr, F, b⟩ := c
  exact ⟨p, f, fd, pr, F.mono h, b⟩
theorem CalI.mono {j : Nat} (c : CalI P w K mg base C j ps sp) (h : j ≤ k) : CalI P w K mg base C k ps sp := by
  obtain ⟨f, fd, M, F, b⟩ := c
  exact ⟨f, fd, M, F.mono h, b⟩
end
section
variable {X : Cx} {C : Addr} {m x : Str} {k : Nat} {ps : List Str} {sp : Sp} {ta : TE} {t : TA} {o e : Expr} {es : List Expr} {pos apos p : Pos}
/-- o.m, a property -/
def tPropC (C : Addr) (sp : Sp) (ta : TE) : TE := fun σ H Q => ta σ H fun x H1 => ∃ a dx fs, x = .ref a ∧ H1 a = some (.ins C dx fs) ∧ sp [.ref a] H1 Q E0
theorem pe_propC (he : PE X o ta) (cl : Cls X.K C) (c : CalP X.prog X.w X.K X.mg X.base C m k sp) (hr : Room (k + 1) X.A) (hab : attributeBase o m X.env (eval o X.env) = eval o X.env := by rfl) : PE X (.Attribute o m pos) (tPropC C sp ta) := by
  obtain ⟨p, f, fd, pr, F, b⟩ := c
  have h := pe_prop (pos := pos) (E := E0) he cl pr F hr b .nil pass0 hab
  exact h
/-- o.m(..) -/
def tMethC (C : Addr) (m : Str) (sp : Sp) (ta : TE) (t : TA) : TE := fun σ H Q => ta σ H fun x H1 => ∃ a dx fs, x = .ref a ∧ H1 a = some (.ins C dx fs) ∧ fs.lookup m = none ∧ t σ H1 fun vs H2 => sp (x :: vs) H2 Q E0
theorem tMethC_eq : tMeth C m sp [] E0 ta t = tMethC C m sp ta t := by
  funext σ H Q
  show ta σ H _ = ta σ H _
  congr 1
  funext x H1
  simp only [List.append_nil]
theorem pe_methC {pl : Sem Bool} (he : PE X o ta) (cl : Cls X.K C) (c : CalM X.prog X.w X.K X.mg X.base C m k ps sp) (hr : Room k X.A) (ha : PA X (e :: es) t)
    (hst : starEach (e :: es) X.env = (false, eval e X.env) :: starEach es X.env := by rfl) (hpl : (backTo pos (starEach es X.env)).any (·.1) = false := by rfl)
    (ht : eval (.Call (.Attribute o m apos) (e :: es) [] pos) X.env = (do
      let ov ← eval o X.env
      standAt apos.atName
      let (f, first) ← holding [ov] (getMethod ov m pl)
      callWith pos f first (backTo pos (starEach (e :: es) X.env)) (backToKw pos (keywordEach [] X.env))) := by rfl) :
    PE X (.Call (.Attribute o m apos) (e :: es) [] pos) (tMethC C m sp ta t) := by
  obtain ⟨f, fd, F, me, b, fi⟩ := c
  rw [← tMethC_eq]
  exact pe_meth (pl := pl) he cl me F hr b .nil pass0 ha hst hpl ht
/-- C(..) -/
def tMakeC (C : Addr) (sp : Sp) (t : TA) : TE := fun σ H Q => t σ H fun vs H1 => ∀ x dx, H1 x = none → H1 dx = none → dx ≠ x →
  sp (.ref x :: vs) (upd (upd H1 dx (.own x)) x (.ins C dx [])) (fun v H2 => v = .non ∧ Q (.ref x) H2) E0
theorem tMakeC_eq : tMake C sp [] E0 t = tMakeC C sp t := by
  funext σ H Q
  show t σ H _ = t σ H _
  congr 1
  funext vs H1
  simp only [List.append_nil]
theorem pe_makeC (c : CalI X.prog X.w X.K X.mg X.base C k ps sp) (hr : Room (k + 1) X.A) (hg : Gl X x) (hm : X.mg x = some (.ref C)) (ha : PA X (e :: es) t)
    (hdb : (x == ("__debug__" : Str)) = false := by decide) (he : starEach (e :: es) X.env = (false, eval e X.env) :: starEach es X.env := by rfl) (hpl : (backTo pos (starEach es X.env)).any (·.1) = false := by rfl) :
    PE X (.Call (.Name x p) (e :: es) [] pos) (tMakeC C sp t) := by
  obtain ⟨f, fd, M, F, b⟩ := c
  rw [← tMakeC_eq]
  exact pe_make M F hr hg hm b .nil pass0 ha hdb he hpl
end
/-! ### dicts walked under their lock -/
theorem same_lock {H : Hp} {d : Addr} {u : HO} {o : Obj} (e : H d = some u) {b : Addr} {ob : HO} (n : b ≠ d) (h : H b = some ob) : upd H d (.frz o u) b = some ob := by
  rw [upd_ne n]
  exact h
theorem same_unlock {H H' : Hp} {d : Addr} {u : HO} {o : Obj} (e : H d = some u) (s : Same (upd H d (.frz o u)) H') : Same H (upd H' d u) := by
  intro b ob h
  by_cases n : b = d
  · subst n
    rw [upd_same]
    exact e.symm.trans h
  · rw [upd_ne n]
    exact s b ob (by rw [upd_ne n]; exact h)
end Gx

set_option maxRecDepth 100000
set_option maxHeartbeats 4000000
namespace Gx
open PySem PySem.Spec PyProof.Rows L2
/-! ### sets of texts: set(list), sorted(set) -/
/-- a member's text -/
def txE (m : Int × Value) : Str :=
  match m.2 with
  | .str z _ => z
  | _ => Str.empty
def TxE (P : Program) (w : World) (m : Int × Value) : Prop := ∃ z tk, m.2 = Value.str z tk ∧ m.1 = (PySem.strKind P w).hash z
/-- at a stands the set of the texts of L, some of which may be there twice; its table can be walked -/
def SetX (P : Program) (w : World) (h : Heap) (a : Addr) (L : List Str) : Prop :=
  ∃ ob ms ep tb, h.get? a = some ob ∧ ob.ExactSet ∧ ob.data = .set ms ep tb ∧ (∀ m ∈ ms.toList, TxE P w m) ∧ (ms.toList.map txE).Nodup ∧ (∀ z, z ∈ L ↔ z ∈ ms.toList.map txE) ∧
    ms.size < scanBound ∧ tb.fits ms.size = true ∧ ms.size ≤ L.length ∧ Ris tb.place.toList ∧ (w.params.followText "set-order" = true ∨ tb.led = true)
section
variable {P : Program} {w : World} {h h' : Heap} {a : Addr} {L : List Str}
theorem SetX.at (R : SetX P w h a L) (k : ∀ o, h.get? a = some o → h'.get? a = some o) : SetX P w h' a L := by
  obtain ⟨ob, ms, ep, tb, here, more⟩ := R
  exact ⟨ob, ms, ep, tb, k ob here, more⟩
theorem SetX.same {L' : List Str} (R : SetX P w h a L) (e : ∀ z, z ∈ L' ↔ z ∈ L) (hl : L.length ≤ L'.length) : SetX P w h a L' := by
  obtain ⟨ob, ms, ep, tb, here, ex, dt, gd, nd, mem, bd, ft, le, more⟩ := R
  exact ⟨ob, ms, ep, tb, here, ex, dt, gd, nd, fun z => (e z).trans (mem z), bd, ft, Nat.le_trans le hl, more⟩
theorem tx_elems {l : List (Int × Value)} (gd : ∀ m ∈ l, TxE P w m) : ElemsOf (PySem.strKind P w) l := by
  intro m hm
  obtain ⟨z, tk, e1, e2⟩ := gd m hm
  refine ⟨⟨z, ?_, e2⟩, ?_⟩
  · rw [e1]
    exact strKind_is P w z tk
  · rw [e1]
    rfl
theorem tx_is {m : Int × Value} (gd : TxE P w m) (z : Str) : (PySem.strKind P w).is z m.2 = true ↔ txE m = z := by
  obtain ⟨y, tk, e1, _⟩ := gd
  have e3 : txE m = y := by unfold txE; rw [e1]
  rw [e3, e1]
  constructor
  · intro q
    obtain ⟨t, q⟩ := Value.isStrOf_shape (show Value.isStrOf z (.str y tk) = true from q)
    cases q
    rfl
  · rintro rfl
    exact strKind_is P w y tk
theorem tx_mem {l : List (Int × Value)} (gd : ∀ m ∈ l, TxE P w m) (z : Str) : z ∈ l.map txE ↔ ∃ m ∈ l, (PySem.strKind P w).is z m.2 = true := by
  rw [List.mem_map]
  exact ⟨fun ⟨m, hm, q⟩ => ⟨m, hm, (tx_is (gd m hm) z).2 q⟩, fun ⟨m, hm, q⟩ => ⟨m, hm, (tx_is (gd m hm) z).1 q⟩⟩
end
section
variable {P : Program} {w : World} {A : Around} {E : Value → Shared → Prop} {s : Shared} {a : Addr} {L : List Str}
/-! ### one text more -/
theorem setX_tail {g : Bool → Sem Unit} (hg : ∀ (b : Bool) (s₁ : Shared) (Q' : Unit → Shared → Prop), Q' () s₁ → wpAny (model P w) A (g b) Q' E s₁)
    {ob : Obj} {ms : Array (Int × Value)} {ep : Nat} {tb : SetTable} (here : s.heap.get? a = some ob) (ex : ob.ExactSet) (dt : ob.data = .set ms ep tb)
    {ms1 : Array (Int × Value)} {tb2 : SetTable} {L' : List Str} (g1 : ∀ m ∈ ms1.toList, TxE P w m) (nd1 : (ms1.toList.map txE).Nodup) (m1 : ∀ z, z ∈ L' ↔ z ∈ ms1.toList.map txE)
    (bd1 : ms1.size < scanBound) (ft2 : tb2.fits ms1.size = true) (le1 : ms1.size ≤ L'.length) (ri : Ris tb2.place.toList) (ld : w.params.followText "set-order" = true ∨ tb2.led = true) {dummy : Bool} {R : Option Bool → Shared → Prop}
    (hR : ∀ h', Heap.SameBut a s.heap h' → SetX P w h' a L' → R (some true) { s with heap := h' }) :
    wpAny (model P w) A (do
        storeSet a ms1 tb2
        if (!dummy && tb2.tooFull) = true then do
            g (relayAll tb2 ms1 (SetTable.grown ms1.size)).2.2
            storeSet a (relayAll tb2 ms1 (SetTable.grown ms1.size)).1 (relayAll tb2 ms1 (SetTable.grown ms1.size)).2.1
            pure (some true)
          else pure (some true)) R E s := by
  refine wpAny_bind (wpAny_storeSet_of here dt ?_ (fits_of_scanBound bd1))
  have at1 := store_at (es' := ms1) (t' := tb2) here dt
  have but1 := Heap.SameBut.update s.heap a (Obj.putSet ms1 tb2)
  split
  · have perm2 := relayAll_perm tb2 ms1 (SetTable.grown ms1.size)
    have ft3 := relayAll_fits tb2 ms1 (SetTable.grown ms1.size)
    have ri3 := relayAll_ris tb2 ms1 (SetTable.grown ms1.size)
    have ld3 := relayAll_led tb2 ms1 (SetTable.grown ms1.size)
    generalize relayAll tb2 ms1 (SetTable.grown ms1.size) = laid at perm2 ft3 ri3 ld3 ⊢
    obtain ⟨ms2, tb3, gave⟩ := laid
    dsimp only at perm2 ft3 ri3 ld3 ⊢
    have sz2 : ms2.size = ms1.size := by rw [← Array.length_toList, perm2.length_eq, Array.length_toList]
    have bd2 : ms2.size < scanBound := sz2 ▸ bd1
    refine wpAny_bind (hg _ _ _ ?_)
    refine wpAny_bind (wpAny_storeSet_of at1 rfl ?_ (fits_of_scanBound bd2))
    have at2 := store_at (es' := ms2) (t' := tb3) at1 rfl
    refine wpAny_pure (hR _ (but1.trans (Heap.SameBut.update _ a _)) ⟨_, ms2, _, tb3, at2, ex, rfl, fun m hm => g1 m (perm2.mem_iff.mp hm), (perm2.map txE).nodup_iff.mpr nd1, fun z => (m1 z).trans (perm2.map txE).mem_iff.symm, bd2, ?_, by rw [sz2]; exact le1, ri3, ?_⟩)
    · exact ft3
    · exact ld.imp id fun z => by rw [ld3]; exact z
  · exact wpAny_pure (hR _ but1 ⟨_, ms1, _, tb2, at1, ex, rfl, g1, nd1, m1, bd1, ft2, le1, ri, ld⟩)
theorem setX_add {z : Str} {tk : Tok} {Q : Bool → Shared → Prop} (R : SetX P w s.heap a L) (room : L.length + 1 < scanBound)
    (hQ : ∀ h' b, Heap.SameBut a s.heap h' → SetX P w h' a (L ++ [z]) → Q b { s with heap := h' }) :
    wpAny (model P w) A (setAddHashed a (.str z tk) ((PySem.strKind P w).hash z)) Q E s := by
  obtain ⟨ob, ms, ep, tb, here, ex, dt, gd, nd, mem, bd, ft, le, ri, ld⟩ := R
  have isz : (PySem.strKind P w).is z (.str z tk) = true := strKind_is P w z tk
  have scz : (Value.str z tk).scannable = true := rfl
  have els : ElemsOf (PySem.strKind P w) ms.toList := tx_elems gd
  unfold setAddHashed setAddHashedIn
  refine wpAny_holding (wpAny_bind (wpAny_setState_of here dt ft ?_))
  dsimp only
  rw [byScan_of scz bd els]
  simp only [↓reduceIte]
  unfold setAddByScan
  refine wpAny_bind ?_
  refine wpAny_bind (wpAny_rule ?_)
  refine wpAny_bind (wpAny_setScan_of isz here dt ft els ?_)
  cases hfi : List.findIdx? (fun m => (PySem.strKind P w).is z m.2) ms.toList with
  | some j =>
    dsimp only
    obtain ⟨hj, pj, _⟩ := List.findIdx?_eq_some_iff_getElem.mp hfi
    have inL : z ∈ L := (mem z).2 ((tx_mem (P := P) (w := w) gd z).2 ⟨ms.toList[j], List.getElem_mem hj, pj⟩)
    refine wpAny_pure (wpAny_pure ?_)
    refine hQ s.heap _ (Heap.SameBut.refl a s.heap) ⟨ob, ms, ep, tb, here, ex, dt, gd, nd, fun y => ?_, bd, ft, by rw [List.length_append]; omega, ri, ld⟩
    rw [← mem y, List.mem_append, List.mem_singleton]
    exact ⟨fun q => q.elim id fun e => e ▸ inL, .inl⟩
  | none =>
    dsimp only
    have notIn : z ∉ ms.toList.map txE := by
      intro q
      obtain ⟨m, hm, q⟩ := (tx_mem (P := P) (w := w) gd z).1 q
      have c := List.findIdx?_eq_none_iff.mp hfi m hm
      rw [q] at c
      cases c
    have way : ∀ (b : Bool) {s₁ : Shared} {Q' : Unit → Shared → Prop}, Q' () s₁ → wpAny (model P w) A (match b with | true => rule "set.scan.the-table-gave-way" | false => pure ()) Q' E s₁ := by
      intro b s₁ Q' q
      cases b
      · exact wpAny_pure q
      · exact wpAny_rule q
    have perm1 := layNew_perm tb ms ((PySem.strKind P w).hash z) (.str z tk)
    have ft1 := layNew_fits tb ms ((PySem.strKind P w).hash z) (.str z tk)
    have ri1 := layNew_ris tb ms ((PySem.strKind P w).hash z) (.str z tk) ri
    have ld1 := layNew_led tb ms ((PySem.strKind P w).hash z) (.str z tk)
    generalize layNew tb ms ((PySem.strKind P w).hash z) (.str z tk) = laid at perm1 ft1 ri1 ld1 ⊢
    obtain ⟨ms1, tb1, dummy, gave⟩ := laid
    dsimp only at perm1 ft1 ri1 ld1 ⊢
    rw [Array.toList_push] at perm1
    have permC : ms1.toList.Perm (((PySem.strKind P w).hash z, Value.str z tk) :: ms.toList) := perm1.trans (List.perm_append_singleton _ _)
    have permK : (ms1.toList.map txE).Perm (z :: ms.toList.map txE) := permC.map txE
    have g1 : ∀ m ∈ ms1.toList, TxE P w m := by
      intro m hm
      rcases List.mem_cons.mp (permC.mem_iff.mp hm) with q | q
      · rw [q]
        exact ⟨z, tk, rfl, rfl⟩
      · exact gd m q
    have nd1 : (ms1.toList.map txE).Nodup := permK.nodup_iff.mpr (List.nodup_cons.mpr ⟨notIn, nd⟩)
    have m1 : ∀ y, y ∈ L ++ [z] ↔ y ∈ ms1.toList.map txE := by
      intro y
      rw [List.mem_append, List.mem_singleton, mem y, permK.mem_iff, List.mem_cons]
      exact Or.comm
    have sz1 : ms1.size = ms.size + 1 := by rw [← Array.length_toList, permC.length_eq, List.length_cons, Array.length_toList]
    have bd1 : ms1.size < scanBound := by omega
    have le1 : ms1.size ≤ (L ++ [z]).length := by rw [List.length_append, List.length_singleton]; omega
    have led1 : w.params.followText "set-order" = true ∨ tb1.led = true := ld.imp id fun q => by rw [ld1]; exact q
    refine wpAny_bind (way _ ?_)
    split
    · refine wpAny_bind ?_
      rw [hashByValue_scannable 8 scz]
      refine wpAny_pure ?_
      refine setX_tail ?_ here ex dt g1 nd1 m1 bd1 ?_ le1 ?_ ?_ ?_
      · intro b s₁ Q' q
        cases b <;> first | exact wpAny_pure q | exact wpAny_rule q
      · first | (split <;> first | exact ft1 | exact SetTable.fits_plain_off ft1) | exact ft1
      · first | (split <;> exact ri1) | exact ri1
      · first | (split <;> exact led1) | exact led1
      · intro h' sb r
        dsimp only
        exact wpAny_pure (hQ h' _ sb r)
    · refine wpAny_bind (wpAny_pure ?_)
      simp only [↓reduceIte]
      refine setX_tail ?_ here ex dt g1 nd1 m1 bd1 ft1 le1 ri1 led1 ?_
      · intro b s₁ Q' q
        cases b <;> first | exact wpAny_pure q | exact wpAny_rule q
      · intro h' sb r
        dsimp only
        exact wpAny_pure (hQ h' _ sb r)
end
/-- the texts of a list of values, by place -/
theorem texts_at : ∀ {us : List Value} {xs : List Str}, StrsAre us xs → ∀ (i : Nat) (v : Value), us[i]? = some v → ∃ x t, xs[i]? = some x ∧ v = .str x t
  | _, _, .nil, i, v, h => by cases h
  | _, _, .cons n t r, 0, v, h => by
    cases h
    exact ⟨n, t, rfl, rfl⟩
  | _, _, .cons n t r, i + 1, v, h => texts_at r i v h
section
variable {prog : Program} {w : World} {A : Around} {R : Result → Shared → Prop} {I : Addr} {fp wr : List Addr} {G : Array GenState → Array GenState → Prop} {n : Nat} {P : Nat → Value → Prop} {St : Nat → Shared → Prop}
/-- all texts of an iterator put into the set at S -/
theorem setX_loop (W : WalksS prog w A.in1 I fp wr G n P St) (S : Addr) (off : S ∉ fp) (xs : List Str) (len : xs.length = n) (few : n + 1 < scanBound)
    (val : ∀ i v, P i v → ∃ x t, xs[i]? = some x ∧ v = .str x t) : ∀ (k i : Nat) (s : Shared), n - i = k → i ≤ n → St i s → SetX prog w s.heap S (xs.take i) →
      (∀ s', Moved (S :: wr) G s s' → SetX prog w s'.heap S xs → R (.ok (.ret .none)) s') →
      codeAny (model prog w) A (.builtin "set.update.loop" ⟨[.ref S, .ref I], []⟩) R s := by
  have offW : S ∉ wr := fun z => off (W.sub _ z)
  have sub : ∀ b ∈ wr, b ∈ S :: wr := fun b hb => List.mem_cons_of_mem _ hb
  intro k
  induction k with
  | zero =>
    intro i s hk hi st hS hR
    obtain rfl : i = n := by omega
    rw [← len, List.take_length] at hS
    refine codeAny_builtin PyProof.Rows.F.entry_set_update_loop ?_
    rw [Around.under_plainId PyProof.Rows.F.plain_set_update_loop _]
    show wpAny _ A.in1 (pyNext (.ref I) >>= _) _ _ s
    refine wpAny_bind (W.done s _ _ st fun s' mv => ?_)
    show wpAny _ A.in1 (ret Value.none) _ _ s'
    exact wpAny_pure (hR s' (mv.mono sub) (hS.at fun o e => mv.heap S _ offW e))
  | succ k ih =>
    intro i s hk hi st hS hR
    have lt : i < n := by omega
    refine codeAny_builtin PyProof.Rows.F.entry_set_update_loop ?_
    rw [Around.under_plainId PyProof.Rows.F.plain_set_update_loop _]
    show wpAny _ A.in1 (pyNext (.ref I) >>= _) _ _ s
    refine wpAny_bind (W.item i s _ _ lt st fun v s' hP st' mv => ?_)
    obtain ⟨x, t, hx, rfl⟩ := val i v hP
    have hS' : SetX prog w s'.heap S (xs.take i) := hS.at fun o e => mv.heap S _ offW e
    show wpAny _ A.in1 (holding [Value.str x t] (setAdd S (.str x t)) >>= _) _ _ s'
    refine wpAny_bind (wpAny_holding ?_)
    unfold setAdd
    refine wpAny_holding ?_
    refine wpAny_bind ((PySem.strKind prog w).pyHash (k := x) (strKind_is _ _ _ _) ?_)
    refine setX_add (s := { s' with toks := s'.toks + 1 }) hS' (by rw [List.length_take]; omega) fun h' b sb hS2 => ?_
    have hS3 : SetX prog w h' S (xs.take (i + 1)) := by
      have e : xs.take (i + 1) = xs.take i ++ [x] := by rw [List.take_add_one, hx]; rfl
      rw [e]
      exact hS2
    refine wpAny_pure ⟨plainId_quiet PyProof.Rows.F.plain_set_update_loop _, ih (i + 1) _ (by omega) lt (W.frame _ s' _ _ st' (Nat.le_succ _) fun b hb o e => ?_) hS3 fun s'' mv2 hS4 => ?_⟩
    · rw [sb.2 b (fun z : b = S => off (z ▸ hb))]
      exact e
    · refine hR s'' (Moved.trans W.gtrans ((mv.mono sub).then_heap (Nat.le_succ _) fun b o hb e => ?_) mv2) hS4
      rw [sb.2 b (fun z : b = S => hb (by rw [z]; exact List.mem_cons_self))]
      exact e
end
section
variable {P : Program} {w : World} {A : Around} {E : Value → Shared → Prop} {s : Shared}
theorem code_setX {x : Value} {Q₁ : Value → Shared → Prop}
    (h : Q₁ (.ref s.heap.objs.size) { s with heap := s.heap.push { cls := .type "set", dict := none, data := .set #[] 0 (.fresh 0 0 (!w.params.followText "set-order")) } }) :
    codeAny (model P w) A (.call (.builtin "set.__new__") ⟨[.type "set", x], []⟩) (wants Q₁ E) s := by
  refine codeAny_of_tree ?_
  show wpAny _ A.in1 (do checkBuiltinCall "set.__new__" ⟨[.type "set", x], []⟩; again (.builtin "set.__new__" ⟨[.type "set", x], []⟩)) _ _ s
  refine wpAny_bind (wpAny_of_eq (PySem.F.newCall_set_1 x) (wpAny_pure ⟨plainId_quiet F.plain_set_new _, codeAny_builtin F.entry_set_new ?_⟩))
  rw [Around.under_plainId F.plain_set_new _]
  unfold Builtin.«set.__new__» Builtin.Frozenset.newClass
  have hsub := sub_set_self
  obtain ⟨hp, g, d, tk, os⟩ := s
  dsimp only
  wp_walk
  refine wpAny_askSetting (wpAny_pure ?_)
  dsimp only
  simp only [newObj]
  exact wpAny_bind (wpAny_alloc (wpAny_pure (wpAny_pure h)))
theorem setX_fresh {h : Heap} : SetX P w (h.push { cls := .type "set", dict := none, data := .set #[] 0 (.fresh 0 0 (!w.params.followText "set-order")) }) h.objs.size [] := by
  refine ⟨_, #[], 0, _, Heap.get?_push_size _ rfl, ⟨rfl, rfl, rfl⟩, rfl, (fun m hm => by simp at hm), (by simp), (fun z => by simp), (by decide), (by rfl), (Nat.zero_le _), List.Pairwise.nil, ?_⟩
  show _ ∨ (!w.params.followText "set-order") = true
  cases w.params.followText "set-order"
  · exact .inr rfl
  · exact .inl rfl
set_option maxHeartbeats 6400000 in
/-- set(list of texts) -/
theorem call_setX {l : Addr} {items : Array Value} {xs : List Str} {Q : Value → Shared → Prop} (hh : A.handled = none) (hl : s.heap.IsList l items) (hi : StrsAre items.toList xs) (few : xs.length + 1 < scanBound)
    (h : ∀ (h' : Heap) (tk : Nat), SetX P w h' s.heap.objs.size xs → (∀ b o, b < s.heap.objs.size → s.heap.get? b = some o → h'.get? b = some o) → Q (.ref s.heap.objs.size) { s with heap := h', toks := tk }) :
    wpAny (model P w) A (call (.type "set") [.ref l]) Q E s := by
  obtain ⟨c, tl, hmro⟩ := PySem.F.called_set.mro
  have hmade := PySem.F.called_set.made
  have hsub := PySem.F.called_set.sub
  refine wpAny_call (codeAny_of_tree ?_)
  show wpAny _ _ (callAny (.type "set") _) _ _ _
  refine wpAny_pure ⟨Code.quiet_builtin _ (by decide +kernel), codeAny_builtin PySem.F.entry_type_call ?_⟩
  rw [Around.under_plain (weight_type_call_type "set" [.ref l] []) rfl]
  have h1 := PySem.F.called_set.notType
  have h2 := PySem.F.called_set.canCreate
  have hct := PySem.F.typeCall_set_1 (.ref l)
  repeat (any_goals (first | assumption | wp_step))
  have R0 : SetX P w (s.heap.push { cls := .type "set", dict := none, data := .set #[] 0 (.fresh 0 0 (!w.params.followText "set-order")) }) s.heap.objs.size [] := setX_fresh
  refine codeAny_mono (code_setX (x := .ref l) (E := E) (Q₁ := fun obj s₁ => obj = .ref s.heap.objs.size ∧ s₁ = { s with heap := s.heap.push { cls := .type "set", dict := none, data := .set #[] 0 (.fresh 0 0 (!w.params.followText "set-order")) } }) ⟨rfl, rfl⟩) fun r s₁ hr => ?_
  have hS : (s.heap.push { cls := .type "set", dict := none, data := .set #[] 0 (.fresh 0 0 (!w.params.followText "set-order")) }).get? s.heap.objs.size = some { cls := .type "set", dict := none, data := .set #[] 0 (.fresh 0 0 (!w.params.followText "set-order")) } := Heap.get?_push_size _ rfl
  cases r with
  | error e => exact hr
  | ok fl =>
    cases fl with
    | ret obj =>
      obtain ⟨rfl, rfl⟩ := hr
      have hT : Shared.TypeIs { s with heap := s.heap.push ({ cls := .type "set", dict := none, data := .set #[] 0 (.fresh 0 0 (!w.params.followText "set-order")) } : Obj) } (.ref s.heap.objs.size) "set" := ⟨_, hS, rfl⟩
      have hli := PySem.F.called_set.init.lookup
      have hbi := PySem.F.called_set.init.bind (.ref s.heap.objs.size)
      repeat (any_goals (first | assumption | wp_step))
      refine codeAny_mono (codeAny_call_builtin (R := wants (fun r s₂ => r = .none ∧ ∃ h' tk, s₂ = { s with heap := h', toks := tk } ∧ SetX P w h' s.heap.objs.size xs ∧
          (∀ b o, b < s.heap.objs.size → s.heap.get? b = some o → h'.get? b = some o)) E) PySem.F.called_set.init.plain PySem.F.entry_set_init (check_set_init_1 hT ?_)) fun r₂ s₂ hr₂ => ?_
      · obtain ⟨ol, hol, hcl, nl, hdl⟩ := hl
        obtain ⟨ocls, odict, odata, oslots⟩ := ol
        simp only at hcl hdl
        subst hcl; subst hdl
        have hol' : (s.heap.push ({ cls := .type "set", dict := none, data := .set #[] 0 (.fresh 0 0 (!w.params.followText "set-order")) } : Obj)).get? l = some { cls := .type "list", dict := odict, data := .seq items nl, slots := oslots } := Heap.get?_push_of_some _ hol
        have hsls := PySem.F.sub_list_set
        have hslf := PySem.F.sub_list_frozenset
        have hne : (Value.type "list" == Value.type "dict") = false := by decide
        have hl1 : (s.heap.push ({ cls := .type "set", dict := none, data := .set #[] 0 (.fresh 0 0 (!w.params.followText "set-order")) } : Obj)).IsList l items := ⟨_, hol', rfl, nl, rfl⟩
        unfold Builtin.«set.__init__» noKeywords Builtin.Frozenset.updateFrom
        generalize hPI : pyIter = PI
        wp_walk
        subst hPI
        refine wpAny_pyIter_list hl1 ?_
        refine wpAny_bind (wpAny_runValue ?_)
        have hlS : l < s.heap.objs.size := Heap.lt_size hol
        have hh3 : A.in1.in1.in1.handled = none := by simp [hh]
        have szp : (s.heap.push ({ cls := .type "set", dict := none, data := .set #[] 0 (.fresh 0 0 (!w.params.followText "set-order")) } : Obj)).objs.size = s.heap.objs.size + 1 := Heap.size_push _ _
        have hneI : l ≠ (s.heap.push ({ cls := .type "set", dict := none, data := .set #[] 0 (.fresh 0 0 (!w.params.followText "set-order")) } : Obj)).objs.size := by rw [szp]; exact Nat.ne_of_lt (Nat.lt_succ_of_lt hlS)
        have hSf : s.heap.objs.size ∉ [(s.heap.push ({ cls := .type "set", dict := none, data := .set #[] 0 (.fresh 0 0 (!w.params.followText "set-order")) } : Obj)).objs.size, l] := by
          rw [szp]
          simp only [List.mem_cons, List.not_mem_nil, or_false, not_or]
          exact ⟨Nat.ne_of_lt (Nat.lt_succ_self _), Nat.ne_of_gt hlS⟩
        have hsz : xs.length = items.size := by rw [← StrsAre.len_eq hi, Array.length_toList]
        refine setX_loop ((Walks.list hh3 _ l hneI items).toS) s.heap.objs.size hSf xs hsz (by rw [← hsz]; exact few) (fun i v hv => texts_at hi i v (by rw [Array.getElem?_toList]; exact hv))
          (items.size - 0) 0 _ (by omega) (Nat.zero_le _) ⟨⟨_, Heap.get?_push_size _ rfl, rfl, rfl⟩, (hl1.push _)⟩ ?hS0 ?hR
        case hS0 => exact R0.at fun o e => Heap.get?_push_of_some _ e
        case hR =>
          intro s' hm hS'
          obtain ⟨h', g', d', tk', os'⟩ := s'
          obtain rfl : g' = s.gens := hm.gens
          obtain rfl : d' = s.drawn := hm.drawn
          obtain rfl : os' = s.os := hm.os
          show wpAny _ _ _ _ _ _
          refine wpAny_pure ?_
          show wpAny _ _ (ret Value.none) _ _ _
          refine wpAny_pure ⟨rfl, h', tk', rfl, hS', fun b o hb e => hm.heap b o ?_ (Heap.get?_push_of_some _ (Heap.get?_push_of_some _ e))⟩
          rw [szp]
          simp only [List.mem_cons, List.not_mem_nil, or_false, not_or]
          exact ⟨Nat.ne_of_lt hb, Nat.ne_of_lt (Nat.lt_succ_of_lt hb)⟩
      · cases r₂ with
        | error e => exact hr₂
        | ok fl₂ =>
          cases fl₂ with
          | ret r =>
            obtain ⟨rfl, h', tk, rfl, hS', hk'⟩ := hr₂
            repeat (any_goals (first | assumption | wp_step))
            exact h _ _ hS' hk'
          | _ => exact hr₂.elim
    | _ => exact hr.elim
theorem strs_of : ∀ (l : List Value), (∀ v ∈ l, ∃ z tk, v = Value.str z tk) → ∃ xs, StrsAre l xs ∧ xs = l.map fun v => txE (0, v)
  | [], _ => ⟨[], .nil, rfl⟩
  | v :: l, h => by
    obtain ⟨z, tk, rfl⟩ := h v List.mem_cons_self
    obtain ⟨xs, h1, rfl⟩ := strs_of l fun u hu => h u (List.mem_cons_of_mem _ hu)
    exact ⟨_, .cons z tk h1, rfl⟩
/-- sorted(set of texts) -/
theorem sorted_setX {a : Addr} {L : List Str} {Q : Value → Shared → Prop} (R : SetX P w s.heap a L) (hh : A.handled = none)
    (hQ : ∀ s' p (out : Array Value) (c : Nat) (ys : List Str), (∀ b o, s.heap.get? b = some o → s'.heap.get? b = some o) → s'.gens = s.gens → s'.os = s.os → s.heap.objs.size ≤ p →
      s'.heap.get? p = some (seqObj "list" out c) → StrsAre out.toList ys → sortedS ys = true → ys.Nodup → (∀ z, z ∈ ys ↔ z ∈ L) → Q (.ref p) s') :
    wpAny (model P w) A (call (.builtin "sorted") [.ref a]) Q E s := by
  obtain ⟨ob, ms, ep, tb, here, ex, dt, gd, nd, mem, bd, ft, le, ri, ld⟩ := R
  refine Calls.call_function_entry kind_sorted plain_sorted entry_sorted (args_sorted1 _) ?_
  unfold Builtin.«sorted»
  refine wpAny_bind (m := checkCount "sorted" 1 1 _) (wpAny_pure ?_)
  refine wpAny_bind (collect_set (A := A.in1) hh ⟨ob, here, ex.1, dt⟩ ft bd ri ld fun s1 vs k1 hz g1 o1 pm => ?_)
  have lenV : vs.length = ms.size := by rw [pm.length_eq, List.length_map, Array.length_toList]
  obtain ⟨xs, hS, exs⟩ := strs_of vs fun v hv => by
    obtain ⟨m, hm, q⟩ := List.mem_map.mp (pm.mem_iff.mp hv)
    obtain ⟨z, tk, e1, _⟩ := gd m hm
    exact ⟨z, tk, by rw [← q]; exact e1⟩
  have permX : xs.Perm (ms.toList.map txE) := by
    have q := pm.map fun v => txE (0, v)
    rw [List.map_map] at q
    rw [exs]
    exact q
  have lineV : vs.length ≤ sizeLine := by rw [lenV]; exact fits_of_scanBound bd
  refine wpAny_bind (wpAny_newList ?_ lineV)
  have hoL : (s1.heap.push (seqObj "list" vs.toArray 0)).get? s1.heap.objs.size = some (seqObj "list" vs.toArray 0) := Heap.get?_push_size _ rfl
  refine wpAny_bind (wpAny_holding (wpAny_call_entry slot_list_sort ⟨_, hoL, rfl⟩ entry_list_sort
    (list_sort_treeKAny strKind_oneLt (s := { s1 with heap := s1.heap.push (seqObj "list" vs.toArray 0) }) hoL hS.keysOf (fun v₁ v₂ rest e => keyKind_strs (by rw [← e]; exact hS)) lineV fun st' hp hs => ⟨_, rfl, ?_⟩) (args_list_sort _)))
  obtain ⟨ys, y1, y2, y3⟩ := sorted_out_str hS hp hs
  obtain ⟨c, hc⟩ := sortedHeap_at (vs := vs) (out := (arrOf st').map (·.2)) hoL
  have permY : ys.Perm (ms.toList.map txE) := y2.trans permX
  refine wpAny_pure ⟨_, rfl, hQ _ s1.heap.objs.size ((arrOf st').map (·.2)) c ys (fun b u e => ?_) g1 o1 hz hc y1 y3 (permY.nodup_iff.mpr nd) fun z => by rw [permY.mem_iff, ← mem z]⟩
  have q := k1 b u e
  have lt := Heap.lt_size q
  show (sortedHeap (s1.heap.push (seqObj "list" vs.toArray 0)) s1.heap.objs.size vs ((arrOf st').map (·.2))).get? b = some u
  rw [sortedHeap_old (Nat.ne_of_lt lt) (by rw [size_push']; exact Nat.lt_succ_of_lt lt)]
  exact Heap.get?_push_of_some _ q
end
/-! ### over the hand layer -/
/-- the set of the texts of L at a -/
def SetO' (P : Program) (w : World) (a : Addr) (L : List Str) : HO := .ext fun h => SetX P w h a L
section
variable {X : Cx}
def rSetX (K : PySem.W.Frag) (P : Program) (w : World) : List V → Hp → VK → Prop := fun vs H Q => ∃ (l : Addr) (xs : List Str), vs = [V.ref l] ∧ SqL K H l (xs.map V.str) ∧ xs.length ≤ 1000 ∧ ∀ p, H p = none → Q (.ref p) (upd H p (SetO' P w p xs))
theorem cr_setX (hc : X.calm = true) : CallR X (.type "set") (rSetX X.K X.prog X.w) := by
  intro pins s σ H vs us Q I r h
  obtain ⟨l, xs, rfl, hq, few, q⟩ := h
  rw [Vals.ref1 r]
  obtain ⟨its, rv, pl, hz⟩ := I.list hq
  refine call_setX (I.ok.hd hc) pl.isList (by simpa using rv.strs) (Nat.lt_of_le_of_lt (Nat.succ_le_succ few) (by decide)) fun h' tk hS hk => ?_
  have kp : ∀ b o, s.heap.get? b = some o → h'.get? b = some o := fun b o e => hk b o (Heap.lt_size e) e
  obtain ⟨ob, ms, ep, tb, here, more⟩ := id hS
  exact ⟨.ref s.heap.objs.size, _, I.laid (t' := tk) kp (Nat.le_refl _) (show ObjOk X.prog X.w _ h' _ (SetO' X.prog X.w s.heap.objs.size xs) from ⟨hS, ⟨ob, here⟩, fun h1 h2 p k => SetX.at p k⟩), rfl, q _ (I.hok.fresh (Nat.le_refl _))⟩
def rSortedX (P : Program) (w : World) : List V → Hp → VK → Prop := fun vs H Q => ∃ (a : Addr) (L : List Str), vs = [V.ref a] ∧ H a = some (SetO' P w a L) ∧ L.length ≤ 1000 ∧
  ∀ (ys : List Str) (p : Addr), sortedS ys = true → ys.Nodup → (∀ z, z ∈ ys ↔ z ∈ L) → H p = none → Q (.ref p) (upd H p (.lst (ys.map V.str)))
theorem vals_texts : ∀ {us : List Value} {xs : List Str}, StrsAre us xs → Vals (xs.map V.str) us
  | _, _, .nil => .nil
  | _, _, .cons n t r => .cons ⟨t, rfl⟩ (vals_texts r)
theorem cr_sortedX (hc : X.calm = true) : CallR X (.builtin "sorted") (rSortedX X.prog X.w) := by
  intro pins s σ H vs us Q I r h
  obtain ⟨a, L, rfl, ha, few, q⟩ := h
  rw [Vals.ref1 r]
  have hX : SetX X.prog X.w s.heap a L := (I.hok a _ ha).1
  refine sorted_setX hX (I.ok.hd hc) fun s' p out c ys k g o hp hg hi hs nd hm => ?_
  have lt : ys.length ≤ L.length := List.Nodup.length_le_of_subset nd fun z hz => (hm z).1 hz
  have hlen : (ys.map V.str).length ≤ sizeLine := by rw [List.length_map]; exact Nat.le_trans (Nat.le_trans lt few) (by decide)
  have hn : H p = none := I.hok.fresh hp
  have J : Inv X pins σ (upd H p (.lst (ys.map V.str))) { s with heap := s'.heap, gens := s'.gens, drawn := s'.drawn, toks := s'.toks } :=
    I.call (ch := []) (Un.laid k hp hn) (I.hok.laid k hp ⟨hlen, out.toList, c, vals_texts hi, hg⟩) (by rw [g]; exact I.bare) (fun _ z => nomatch z)
  obtain ⟨h', g', d', t', o'⟩ := s'
  obtain rfl : o' = s.os := o
  exact ⟨.ref p, _, J, rfl, q ys p hs nd hm hn⟩
end
end Gx

set_option maxRecDepth 100000
set_option maxHeartbeats 4000000
namespace Gx
open PySem PySem.Spec PyProof.Rows L2
/-! ### rules of my own, over any program -/
section
variable {X : Cx}
/-- repr of a truth -/
theorem call_repr_bl : CallR X (.builtin "repr") (fun xs H Q => ∃ b : Bool, xs = [.bl b] ∧ Q (.str (if b then "True" else "False")) H) := by
  intro pins s σ H xs us Q I r h
  obtain ⟨b, rfl, q⟩ := h
  obtain ⟨u, rfl, rx⟩ := vals1 r
  cases (show u = Value.bool b from rx)
  exact PySem.P.repr_of_bool ⟨.str _, H, I.tok _, ⟨_, rfl⟩, q⟩
/-- the signs of a text, a text each -/
def signV (x : Str) : List V := x.cps.toList.map fun c => V.str ⟨#[c]⟩
theorem vals_signs {x : Str} {acc : Array Value} (h : ItemsOf (SignAt x) acc x.cps.size) : Vals (signV x) acc.toList := by
  have key : ∀ (l : List Nat) (vs : List Value), vs.length = l.length → (∀ (j : Nat) (v : Value), vs[j]? = some v → ∃ (c : Nat) (u : Tok), l[j]? = some c ∧ v = Value.str ⟨#[c]⟩ u) → Vals (l.map fun c => V.str ⟨#[c]⟩) vs := by
    intro l
    induction l with
    | nil =>
      intro vs hl _
      cases vs with
      | nil => exact .nil
      | cons a r => cases hl
    | cons c l ih =>
      intro vs hl hv
      cases vs with
      | nil => cases hl
      | cons v vs =>
        obtain ⟨c', u, e1, e2⟩ := hv 0 v rfl
        have e1' : c = c' := Option.some.inj e1
        subst e1'
        exact .cons ⟨u, e2⟩ (ih vs (Nat.succ.inj hl) fun j w hw => hv (j + 1) w hw)
  refine key x.cps.toList acc.toList (by rw [Array.length_toList, Array.length_toList]; exact h.1) fun j v hv => ?_
  obtain ⟨c, u, hc, e⟩ := h.2 j v (by simpa using hv)
  exact ⟨c, u, by simpa using hc, e⟩
/-- list(text) -/
theorem call_list_text (hc : X.calm = true) : CallR X (.type "list") (fun xs H Q => ∃ x : Str, xs = [.str x] ∧ x.length ≤ sizeLine ∧ ∀ l, H l = none → Q (.ref l) (upd H l (.lst (signV x)))) := by
  intro pins s σ H xs us Q I r h
  obtain ⟨x, rfl, hz, q⟩ := h
  obtain ⟨u, rfl, t, rfl⟩ := vals1 r
  refine PySem.call_list_str (I.ok.hd hc) x t (fun h' tk acc' c' kp e ha => ?_) hz
  have hv := vals_signs ha
  refine ⟨.ref s.heap.objs.size, _, I.laid (t' := tk) kp (Nat.le_refl _) (show ObjOk X.prog X.w _ h' _ (.lst (signV x)) from ⟨?_, acc'.toList, c', hv, by simpa using e⟩), rfl, q _ (I.hok.fresh (Nat.le_refl _))⟩
  rw [hv.length, Array.length_toList]
  have := ha.1
  rw [this]
  exact hz
/-- tuple(text) -/
theorem call_tuple_text (hc : X.calm = true) : CallR X (.type "tuple") (fun xs H Q => ∃ x : Str, xs = [.str x] ∧ x.length ≤ sizeLine ∧ ∀ l, H l = none → Q (.ref l) (upd H l (.tup (signV x)))) := by
  intro pins s σ H xs us Q I r h
  obtain ⟨x, rfl, hz, q⟩ := h
  obtain ⟨u, rfl, t, rfl⟩ := vals1 r
  refine PySem.call_tuple_str (I.ok.hd hc) x t (fun h' tk acc kp ha => ?_) hz
  have hv := vals_signs ha
  have I1 : Inv X pins σ H { s with heap := h', toks := tk } := I.kept (t' := tk) kp
  have hlen : (signV x).length ≤ sizeLine := by
    rw [hv.length, Array.length_toList]
    have := ha.1
    rw [this]
    exact hz
  have I2 : Inv X pins σ (upd H h'.objs.size (.tup (signV x))) { s with heap := h'.push { cls := .type "tuple", data := .seq acc }, toks := tk } :=
    I1.laid (t' := tk) (fun b o e => Heap.get?_push_of_some _ e) (Nat.le_refl _) (show ObjOk X.prog X.w _ _ _ (.tup (signV x)) from ⟨hlen, acc.toList, hv, by simpa using IsTup.new _ _⟩)
  exact ⟨.ref h'.objs.size, _, I2, rfl, q _ (I1.hok.fresh (Nat.le_refl _))⟩
/-- text * k -/
theorem op_mul_text : OpR X (binaryOp .Mult) (fun x y H Q => ∃ (a : Str) (n : Int), x = .str a ∧ y = .int n ∧ MulOk a n ∧ Q (.str (Txt.mul a n)) H) := by
  intro pins s σ H x y v u Q I rx ry h
  obtain ⟨a, n, rfl, rfl, hz, q⟩ := h
  obtain ⟨t, rfl⟩ := rx
  obtain ⟨t', rfl⟩ := ry
  exact SB.mul hz fun t' k => ⟨.str _, H, I.tok _, ⟨_, rfl⟩, q⟩
end
theorem mulOk_small {a : Str} {n : Int} (h1 : 2 ≤ n) (h2 : n ≤ 1000) (ha : a.length ≤ 1000) : MulOk a n := by
  refine ⟨?_, fun _ _ => ?_, fun _ _ => ?_⟩
  · rw [Bool.or_eq_false_iff]
    exact ⟨decide_eq_false (by omega), decide_eq_false (by omega)⟩
  · have : (1000 : Int) ≤ (2 ^ 63 - 1) / n := by
      refine (Int.le_ediv_iff_mul_le (by omega)).mpr ?_
      have : (1000 : Int) * n ≤ 1000 * 1000 := Int.mul_le_mul_of_nonneg_left h2 (by decide)
      omega
    omega
  · unfold Builtin.Str.tooLong
    refine decide_eq_false ?_
    have h3 : a.length * n.toNat ≤ 1000 * 1000 := Nat.mul_le_mul ha (by omega)
    rw [sizeLine_eq]
    omega

/-! ### defs of the top, and what they promise -/
/-- the def st stands at the top under its name -/
def Def (K : PySem.W.Frag) (mg : Str → Option Value) (x qual : Str) (st : Stmt) (ps : List Str) : Prop :=
  ∃ (f : Addr) (fd : FuncData), Fun K x qual st f fd ∧ Binds K fd ps [] ∧ mg x = some (.ref f)
/-- the name x is a def that keeps the promise sp, by at most level k -/
def Cal (P : Program) (w : World) (K : PySem.W.Frag) (mg : Str → Option Value) (base : Heap) (k : Nat) (x : Str) (ps : List Str) (sp : Sp) : Prop :=
  ∃ (f : Addr) (fd : FuncData), FnOk P w K mg base CX0 k f fd ps sp ∧ PySem.W.keepIn K (.ref f) = true ∧ Binds K fd ps [] ∧ mg x = some (.ref f)
section
variable {P : Program} {w : World} {K : PySem.W.Frag} {mg : Str → Option Value} {base : Heap}
theorem Cal.mono {j k : Nat} {x : Str} {ps : List Str} {sp : Sp} (c : Cal P w K mg base j x ps sp) (h : j ≤ k) : Cal P w K mg base k x ps sp := by
  obtain ⟨f, fd, F, kp, b, g⟩ := c
  exact ⟨f, fd, F.mono h, kp, b, g⟩
theorem Cal.imp {k : Nat} {x : Str} {ps : List Str} {sp sp' : Sp} (c : Cal P w K mg base k x ps sp) (h : ∀ vs H Q E, sp' vs H Q E → sp vs H Q E) : Cal P w K mg base k x ps sp' := by
  obtain ⟨f, fd, F, kp, b, g⟩ := c
  exact ⟨f, fd, F.imp h, kp, b, g⟩
theorem Def.cal {x qual : Str} {st : Stmt} {ps : List Str} (d : Def K mg x qual st ps) {k : Nat} {sp : Sp} (h : ∀ f fd, Fun K x qual st f fd → FnOk P w K mg base CX0 k f fd ps sp) : Cal P w K mg base k x ps sp := by
  obtain ⟨f, fd, F, b, g⟩ := d
  exact ⟨f, fd, h f fd F, F.kp, b, g⟩
end
section
variable {X : Cx}
/-- f(..), without the empty list of defaults -/
def tCl (sp : Sp) (t : TA) : TE := fun σ H Q => t σ H fun vs H1 => sp vs H1 Q E0
theorem tCl_eq (sp : Sp) (t : TA) : tCall sp [] E0 t = tCl sp t := by
  funext σ H Q
  show t σ H _ = t σ H _
  congr 1
  funext vs H1
  rw [List.append_nil]
theorem pe_cal {x : Str} {ps : List Str} {sp : Sp} {k : Nat} {e : Expr} {es : List Expr} {t : TA} {p pos : Pos} (c : Cal X.prog X.w X.K X.mg X.base k x ps sp) (hr : Room k X.A) (hg : Gl X x) (h : PA X (e :: es) t)
    (hdb : (x == ("__debug__" : Str)) = false := by decide) (he : starEach (e :: es) X.env = (false, eval e X.env) :: starEach es X.env := by rfl) (hpl : (backTo pos (starEach es X.env)).any (·.1) = false := by rfl) :
    PE X (.Call (.Name x p) (e :: es) [] pos) (tCl sp t) := by
  obtain ⟨f, fd, F, kp, b, g⟩ := c
  rw [← tCl_eq]
  exact pe_call F hr hg g kp b .nil pass0 h hdb he hpl
theorem pe_cal0 {x : Str} {ps : List Str} {sp : Sp} {k : Nat} {p pos : Pos} (c : Cal X.prog X.w X.K X.mg X.base k x ps sp) (hr : Room k X.A) (hg : Gl X x)
    (hdb : (x == ("__debug__" : Str)) = false := by decide) : PE X (.Call (.Name x p) [] [] pos) (tCl sp tNil) := by
  obtain ⟨f, fd, F, kp, b, g⟩ := c
  rw [← tCl_eq]
  exact pe_call0 F hr hg g kp b .nil pass0 hdb
end
/-- a statement, then the rest, with a word between them: what follows is shown once -/
def tCut (t u : TS) : TS := fun D σ H => ∃ Mid : L2.St → Hp → Prop, t { D with nx := Mid } σ H ∧ ∀ σ' H', Mid σ' H' → u D σ' H'
section
variable {X : Cx}
theorem pss_cut {st : Stmt} {rest : List Stmt} {t u : TS} (h1 : PS X st t) (h2 : PSs X rest u) : PSs X (st :: rest) (tCut t u) := by
  refine ⟨fun pins s σ H D I h => ?_⟩
  obtain ⟨Mid, hm, hu⟩ := h
  refine wpAny_execs_cons (thn (h1.run pins s σ H { D with nx := Mid } I hm) fun f s1 q => ?_)
  cases f with
  | next =>
    obtain ⟨σ', H', I', q⟩ := q
    exact h2.run pins s1 σ' H' D I' (hu σ' H' q)
  | ret v => exact q
  | brk => exact q
  | cont => exact q
end
theorem sqL_ne {K : PySem.W.Frag} {H : Hp} {a d : Addr} {o : HO} {xs : List V} (n : a ≠ d) (h : SqL K H a xs) : SqL K (upd H d o) a xs := by
  rcases h with (h | ⟨u, h⟩) | h
  · exact .inl (.inl (by rw [upd_ne n]; exact h))
  · exact .inl (.inr ⟨u, by rw [upd_ne n]; exact h⟩)
  · exact .inr h
theorem sqT_ne {K : PySem.W.Frag} {H : Hp} {a d : Addr} {o : HO} {xs : List V} (n : a ≠ d) (h : SqT K H a xs) : SqT K (upd H d o) a xs := by
  rcases h with (h | ⟨u, h⟩) | h
  · exact .inl (.inl (by rw [upd_ne n]; exact h))
  · exact .inl (.inr ⟨u, by rw [upd_ne n]; exact h⟩)
  · exact .inr h
theorem atI_int {α : Type} {xs : List α} {r : Int} (h0 : 0 ≤ r) (h1 : r < xs.length) : ∃ v, v ∈ xs ∧ atI xs r = some v := by
  obtain ⟨k, rfl⟩ := Int.eq_ofNat_of_zero_le h0
  have hk : k < xs.length := by omega
  exact ⟨xs[k], List.getElem_mem hk, atI_nat (List.getElem?_eq_getElem hk)⟩
theorem signV_len (z : Str) : (signV z).length = z.length := by
  unfold signV
  rw [List.length_map, Array.length_toList]
  rfl
/-- for c in text -/
theorem for_str {x : Str} {g : TG} {tb : TS} {D : Ends} {σ : L2.St} {H : Hp} (Pv : Nat → L2.St → Hp → Prop) (h0 : Pv 0 σ H)
    (hs : ∀ (i c : Nat) (σ : L2.St) (H : Hp), x.cps.toList[i]? = some c → Pv i σ H → g (.str ⟨#[c]⟩) σ H fun σ2 H2 => tb { D with nx := Pv (i + 1), ct := Pv (i + 1), bk := D.nx } σ2 H2) (hd : ∀ σ H, Pv x.cps.size σ H → D.nx σ H) :
    ∃ W : Nat → Nat → L2.St → Hp → Prop, (∃ m, W 0 m σ H) ∧ ∀ i m σ H, W i m σ H →
      ((Its x).stop i H ∧ D.nx σ H) ∨ ((Its x).go i H ∧ ∃ N : L2.St → Hp → Prop, (∀ σ' H', N σ' H' → ∃ m', m' < m ∧ W (i + 1) m' σ' H') ∧ ∀ v H', (Its x).yld i H v H' → g v σ H' fun σ2 H2 => tb { D with nx := N, ct := N, bk := D.nx } σ2 H2) := by
  refine ⟨fun i m σ H => m = x.cps.size - i ∧ i ≤ x.cps.size ∧ Pv i σ H, ⟨x.cps.size, by simp, Nat.zero_le _, h0⟩, ?_⟩
  rintro i m σ H ⟨rfl, hi, p⟩
  by_cases hlt : i < x.cps.size
  · refine .inr ⟨hlt, Pv (i + 1), fun σ' H' p' => ⟨x.cps.size - (i + 1), by omega, rfl, hlt, p'⟩, fun v H' y => ?_⟩
    obtain ⟨e, c, hc, ev⟩ := y
    subst e ev
    exact hs i c σ _ (by simpa using hc) p
  · have e : i = x.cps.size := by omega
    subst e
    exact .inl ⟨Nat.le_refl _, hd σ H p⟩
theorem decI (a b : Int) : decide (V.int a = V.int b) = decide (a = b) := decide_eq_decide.mpr ⟨V.int.inj, fun e => e ▸ rfl⟩
theorem decS (a b : Str) : decide (V.str a = V.str b) = decide (a = b) := decide_eq_decide.mpr ⟨V.str.inj, fun e => e ▸ rfl⟩
theorem app_len (a b : Str) : (a ++ b).length = a.length + b.length := by
  show (a.cps ++ b.cps).size = _
  rw [Array.size_append]
  rfl
/-- texts of one sign each, joined by nothing -/
theorem join_one {e : Str} (he : e.length = 0) : ∀ zs : List Str, (∀ z ∈ zs, z.length = 1) → (Txt.join e zs).length = zs.length := by
  have key : ∀ zs : List Str, (∀ z ∈ zs, z.length = 1) → (Str.join e zs).length = zs.length := by
    intro zs
    induction zs with
    | nil => intro _; rfl
    | cons x r ih =>
      intro h
      cases r with
      | nil => exact h x (List.mem_cons_self ..)
      | cons y r =>
        show (x ++ e ++ Str.join e (y :: r)).length = _
        rw [app_len, app_len, he, ih fun z hz => h z (List.mem_cons_of_mem _ hz), h x (List.mem_cons_self ..), List.length_cons (a := x)]
        omega
  intro zs h
  rw [TL.join_eq]
  exact key zs h
theorem sum_ones : ∀ zs : List Str, (∀ z ∈ zs, z.length = 1) → (zs.map (·.length)).sum = zs.length
  | [], _ => rfl
  | x :: r, h => by
    rw [List.map_cons, List.sum_cons, sum_ones r fun z hz => h z (List.mem_cons_of_mem _ hz), h x (List.mem_cons_self ..), List.length_cons]
    omega
theorem mul_len {a : Str} {n : Int} (h1 : 2 ≤ n) (ha : 1 ≤ a.length) : (Txt.mul a n).length = a.length * n.toNat := by
  unfold Txt.mul
  rw [if_neg (by omega)]
  have e1 : (n == 1) = false := by rw [beq_eq_false_iff_ne]; omega
  have e2 : (a.length == 0) = false := by rw [beq_eq_false_iff_ne]; omega
  rw [e1, e2, if_neg (by decide)]
  have key : ∀ (k : Nat) (acc : Array Nat), ((List.replicate k a.cps).foldl (· ++ ·) acc).size = acc.size + k * a.cps.size := by
    intro k
    induction k with
    | zero => intro acc; show acc.size = _; omega
    | succ k ih =>
      intro acc
      rw [List.replicate_succ, List.foldl_cons, ih, Array.size_append, Nat.succ_mul]
      omega
  show ((List.replicate n.toNat a.cps).foldl (· ++ ·) #[]).size = a.cps.size * n.toNat
  rw [key, Nat.mul_comm]
  show 0 + _ = _
  omega
theorem same_at {H H' : Hp} {p : Addr} {o : HO} (n : H p = none) (s : Same H H') : Same H (upd H' p o) := fun b u e => by
  rw [upd_ne (ne_of_none e n)]
  exact s b u e
/-- the three numbers of some dice -/
def DiceAt (H : Hp) (d : Addr) : Prop := ∃ x b c : Int, H d = some (.lst [.int x, .int b, .int c])
end Gx

set_option maxRecDepth 100000
set_option maxHeartbeats 4000000
namespace Gx
open PySem PySem.Spec PyProof.Rows L2
/-! ### promises that hold where no repr is under way -/
/-- no repr is under way -/
abbrev Gd (A : Around) : Prop := A.guards = some []
structure FnG (P : Program) (w : World) (K : PySem.W.Frag) (mg : Str → Option Value) (base : Heap) (CX : CXT) (k : Nat) (f : Addr) (fd : FuncData) (ps : List Str) (sp : Sp) : Prop where
  len : ∀ vs H Q E, sp vs H Q E → vs.length = ps.length
  run : ∀ (A : Around) (outer : List Env) (s : Shared) (H : Hp) (args : Args) (us : List Value) (vs : List V) (Q : VK) (E : XK),
    Gd A → Room k A → Env0 P w K mg base A outer s H → BindsTo s fd args (ps.zip us) → Vals vs us → sp vs H Q E →
      codeAny (model P w) A (.call (.ref f) args) (CR CX outer P w H s Q E) s
section
variable {P : Program} {w : World} {K : PySem.W.Frag} {mg : Str → Option Value} {base : Heap} {CX : CXT} {k : Nat} {f : Addr} {fd : FuncData} {ps : List Str} {sp : Sp}
theorem fnG_of (F : FnOk P w K mg base CX k f fd ps sp) : FnG P w K mg base CX k f fd ps sp := ⟨F.len, fun A outer s H args us vs Q E _ => F.run A outer s H args us vs Q E⟩
theorem FnG.up {j : Nat} (F : FnG P w K mg base CX j f fd ps sp) (h : j ≤ k) : FnG P w K mg base CX k f fd ps sp :=
  ⟨F.len, fun A outer s H args us vs Q E g hr => F.run A outer s H args us vs Q E g (hr.mono h)⟩
theorem FnG.less {sp' : Sp} (F : FnG P w K mg base CX k f fd ps sp) (h : ∀ vs H Q E, sp' vs H Q E → sp vs H Q E) : FnG P w K mg base CX k f fd ps sp' :=
  ⟨fun vs H Q E q => F.len vs H Q E (h vs H Q E q), fun A outer s H args us vs Q E g hr he hb hv hs => F.run A outer s H args us vs Q E g hr he hb hv (h vs H Q E hs)⟩
end
/-- a def by its body, where no repr is under way -/
theorem fnG_body {CX : CXT} {P : Program} {w : World} {K : PySem.W.Frag} {mg : Str → Option Value} {base : Heap} {k : Nat} {f : Addr} {nm ql : Str} {prm : Arguments} {bd : List Stmt} {sc : Scope}
    {dv kv dc pm cd ct oc : Value} {an od : Option Addr} {sl : Array (Option Value)} {N ps : List Str} {sp : Sp}
    (look : K.lookup f = some ⟨oc, od, .func (PySem.W.fnOf nm ql prm bd sc dv kv dc pm an cd ct), sl⟩) (hcode : PySem.W.codeIn K cd ql = true) (S : FnScope N ps sc)
    (hlen : ∀ vs H Q E, sp vs H Q E → vs.length = ps.length)
    (hb : ∀ (A : Around) (outer : List Env) (s : Shared) (H : Hp) (vs : List V) (Q : VK) (E : XK), Gd A → Room k (A.deeper (envOfC ql sc s.heap.objs.size f cd)) → sp vs H Q E →
      ∃ t, PSs (cxOf CX P w K mg base N ql sc f cd A outer s H E) bd t ∧ t { nx := fun _ H' => Q .non H', rt := Q } (start N vs) H) :
    FnG P w K mg base CX (k + 1) f (PySem.W.fnOf nm ql prm bd sc dv kv dc pm an cd ct) ps sp := by
  constructor
  · exact hlen
  · intro A outer s H args us vs Q E g room env bind rel want
    have inS : K.In s.heap := env.mod.kin.keeps fun b o e => (env.bs b o e).1
    have noLim : s.heap.NoLimit := env.mod.nolimit.keeps fun b o e => (env.bs b o e).1
    have kinds : ∀ y ∈ ps.zip us, sc.names.lookup y.1 = some .local ∨ (sc.names.lookup y.1 = some .cell ∧ ((cellsFrom (s.heap.objs.size + 1) sc.names []).lookup y.1).isSome = true) := by
      rintro ⟨n, v⟩ hy
      rcases S.par n (List.of_mem_zip hy).1 with q | q
      · exact Or.inl q
      · exact Or.inr ⟨q, PySem.W.cellsFrom_some _ _ _ (Or.inl q)⟩
    refine codeAny_call_function room.depth (inS _ _ look) rfl S.co S.gen rfl (PySem.W.codeRec_of inS hcode)
      (bind _ _ _ _ (wpAny_newFunctionEnv_cells S.kind kinds fun env' he s1 made => ?_))
    subst he
    refine ⟨noLim.keeps made.toInCall.keep, codeAny_func ?_⟩
    obtain ⟨t, ht, hq⟩ := hb A outer s H vs Q E g (room.deeper _) want
    have I0 := inv_start (CX := CX) (E := E) (N := N) S room.hd env (hlen _ _ _ _ want) rel made
    refine wpAny_mono (ht.run [] s1 (start N vs) H _ I0 hq) ?_ (fun e s' hs => hs)
    intro fl s' hs
    cases fl with
    | brk =>
      obtain ⟨_, _, _, no⟩ := hs
      exact no.elim
    | cont =>
      obtain ⟨_, _, _, no⟩ := hs
      exact no.elim
    | next =>
      obtain ⟨σ', H', J, q⟩ := hs
      exact ⟨V.non, H', J.os, J.bare, J.base, J.hok, rfl, q⟩
    | ret u =>
      obtain ⟨v, σ', H', J, rv, q⟩ := hs
      exact ⟨v, H', J.os, J.bare, J.base, J.hok, rv, q⟩
section
variable {P : Program} {w : World} {K : PySem.W.Frag} {mg : Str → Option Value} {base : Heap}
/-- .. of the text -/
theorem okG {x qual : Str} {st : Stmt} {f : Addr} {fd : FuncData} {N ps : List Str} {k : Nat} {sp : Sp} (F : Fun K x qual st f fd) (S : FnScope N ps (defScope st)) (hlen : ∀ vs H Q E, sp vs H Q E → vs.length = ps.length)
    (hb : ∀ (cdv : Value) (A : Around) (outer : List Env) (s : Shared) (H : Hp) (vs : List V) (Q : VK) (E : XK), Gd (A.deeper (envOfC qual (defScope st) s.heap.objs.size f cdv)) → Room k (A.deeper (envOfC qual (defScope st) s.heap.objs.size f cdv)) → sp vs H Q E →
      ∃ t, PSs (cxOf CX0 P w K mg base N qual (defScope st) f cdv A outer s H E).nox (defBody st) t ∧ t { nx := fun _ H' => Q .non H', rt := Q } (start N vs) H) : FnG P w K mg base CX0 (k + 1) f fd ps sp := by
  obtain ⟨oc, od, kV, doc, pm, an, cdv, ct, osl, rfl, lk, hcd⟩ := F.ex
  refine fnG_body lk hcd S hlen fun A outer s H vs Q E g hr want => ?_
  obtain ⟨t, h, q⟩ := hb cdv A outer s H vs Q E g hr want
  exact ⟨t, h.nox, q⟩
/-- .. which may raise -/
theorem okGX {x qual : Str} {st : Stmt} {f : Addr} {fd : FuncData} {N ps : List Str} {k : Nat} {sp : Sp} (F : Fun K x qual st f fd) (S : FnScope N ps (defScope st)) (hlen : ∀ vs H Q E, sp vs H Q E → vs.length = ps.length) {CX : CXT}
    (hb : ∀ (cdv : Value) (A : Around) (outer : List Env) (s : Shared) (H : Hp) (vs : List V) (Q : VK) (E : XK), Gd (A.deeper (envOfC qual (defScope st) s.heap.objs.size f cdv)) → Room k (A.deeper (envOfC qual (defScope st) s.heap.objs.size f cdv)) → sp vs H Q E →
      ∃ t, PSs (cxOf CX P w K mg base N qual (defScope st) f cdv A outer s H E) (defBody st) t ∧ t { nx := fun _ H' => Q .non H', rt := Q } (start N vs) H) : FnG P w K mg base CX (k + 1) f fd ps sp := by
  obtain ⟨oc, od, kV, doc, pm, an, cdv, ct, osl, rfl, lk, hcd⟩ := F.ex
  exact fnG_body lk hcd S hlen fun A outer s H vs Q E g hr want => hb cdv A outer s H vs Q E g hr want
/-- the name x is a def that keeps the promise sp where no repr is under way -/
def CalG (P : Program) (w : World) (K : PySem.W.Frag) (mg : Str → Option Value) (base : Heap) (k : Nat) (x : Str) (ps : List Str) (sp : Sp) : Prop :=
  ∃ (f : Addr) (fd : FuncData), FnG P w K mg base CX0 k f fd ps sp ∧ PySem.W.keepIn K (.ref f) = true ∧ Binds K fd ps [] ∧ mg x = some (.ref f)
theorem Cal.g {k : Nat} {x : Str} {ps : List Str} {sp : Sp} (c : Cal P w K mg base k x ps sp) : CalG P w K mg base k x ps sp := by
  obtain ⟨f, fd, F, r⟩ := c
  exact ⟨f, fd, fnG_of F, r⟩
theorem CalG.up {j k : Nat} {x : Str} {ps : List Str} {sp : Sp} (c : CalG P w K mg base j x ps sp) (h : j ≤ k) : CalG P w K mg base k x ps sp := by
  obtain ⟨f, fd, F, r⟩ := c
  exact ⟨f, fd, F.up h, r⟩
theorem Def.calG {x qual : Str} {st : Stmt} {ps : List Str} (d : Def K mg x qual st ps) {k : Nat} {sp : Sp} (h : ∀ f fd, Fun K x qual st f fd → FnG P w K mg base CX0 k f fd ps sp) : CalG P w K mg base k x ps sp := by
  obtain ⟨f, fd, F, b, g⟩ := d
  exact ⟨f, fd, h f fd F, F.kp, b, g⟩
end
section
variable {X : Cx}
/-- the callee runs -/
theorem runG {CX : CXT} {k : Nat} {f : Addr} {fd : FuncData} {ps : List Str} {sp : Sp} {E : XK} {ds : List Value} {dvs : List V} {pins : List (Addr × Obj)} {σ : L2.St} {H : Hp} {s : Shared} {Q : VK} {us : List Value} {vs : List V}
    (F : FnG X.prog X.w X.K X.mg X.base CX k f fd ps sp) (g : Gd X.A) (room : Room k X.A) (hb : Binds X.K fd ps ds) (hd : Vals dvs ds) (hx : Passes CX X E)
    (I : Inv X pins σ H s) (r : Vals vs us) (want : sp (vs ++ dvs) H Q E) : wpAny (model X.prog X.w) X.A (call (.ref f) us) (EP X pins σ Q) X.xe s := by
  have rel := r.append hd
  have hl : (us ++ ds).length = ps.length := rel.length.symm.trans (F.len _ _ _ _ want)
  have hc := F.run X.A X.stack s H ⟨us, []⟩ (us ++ ds) (vs ++ dvs) Q E g room I.env0 (hb s us I.kIn hl) rel want
  refine wpAny_call (codeAny_mono hc ?_)
  intro res s' hres
  match res, hres with
  | .error e, hres => exact hx pins σ H s e s' I hres
  | .ok (.ret u), hres => exact I.after hres
theorem pe_calG {x : Str} {ps : List Str} {sp : Sp} {k : Nat} {e : Expr} {es : List Expr} {t : TA} {p pos : Pos} (c : CalG X.prog X.w X.K X.mg X.base k x ps sp) (g : Gd X.A) (room : Room k X.A) (hg : Gl X x) (h : PA X (e :: es) t)
    (hdb : (x == ("__debug__" : Str)) = false := by decide) (hst : starEach (e :: es) X.env = (false, eval e X.env) :: starEach es X.env := by rfl) (hpl : (backTo pos (starEach es X.env)).any (·.1) = false := by rfl) :
    PE X (.Call (.Name x p) (e :: es) [] pos) (tCl sp t) := by
  obtain ⟨f, fd, F, kp, b, hm⟩ := c
  rw [← tCl_eq]
  refine ⟨fun pins s σ H Q I want => wpAny_Call_Name_kw (ld_glob I hg hm ?_ hdb)⟩
  exact PySem.W.callWith_K (h₀ := X.base) I.ok.mod.kin kp (thn (h.run pos pins s σ H _ I want) fun us s1 ⟨vs, H1, I1, r, q⟩ => ⟨I1.kIn, runG F g room b .nil pass0 I1 r q⟩) hst hpl
theorem pe_calG0 {x : Str} {ps : List Str} {sp : Sp} {k : Nat} {p pos : Pos} (c : CalG X.prog X.w X.K X.mg X.base k x ps sp) (g : Gd X.A) (room : Room k X.A) (hg : Gl X x)
    (hdb : (x == ("__debug__" : Str)) = false := by decide) : PE X (.Call (.Name x p) [] [] pos) (tCl sp tNil) := by
  obtain ⟨f, fd, F, kp, b, hm⟩ := c
  rw [← tCl_eq]
  exact ⟨fun pins s σ H Q I want => wpAny_Call_Name_kw (ld_glob I hg hm (PySem.W.callWith_K0 I.kIn kp (runG (us := []) F g room b .nil pass0 I .nil want)) hdb)⟩
end
/-! ### repr of data -/
theorem repr_ref {prog : Program} {w : World} {A : Around} {E : Value → Shared → Prop} {s : Shared} {Q : Value → Shared → Prop} {a : Addr} {d : PyData} {as : List Addr}
    (r : Reads s.heap (.ref a) d as) (hs : d.showable = true) (hsm : d.hasDict = true → sysModules ∉ as) (hsz : d.shown.length ≤ sizeLine) (g : Gd A) (hu : A.units + 1 + d.depth < cLine)
    (h : ∀ h' u tk, (∀ b o, s.heap.get? b = some o → h'.get? b = some o) → Q (.str d.shown u) { s with heap := h', toks := tk }) : wpAny (model prog w) A (call (.builtin "repr") [.ref a]) Q E s := by
  obtain ⟨T, idr, B⟩ := showsBy_of_reads (prog := prog) (w := w) r hs hsm hsz
  have hT := B.typeIs s fun _ _ e => e
  refine Calls.call_function_entry F.kind_repr F.plain_repr F.entry_repr (F.args_repr1 _) ?_
  unfold Builtin.«repr»
  refine wpAny_bind (m := oneArg "repr" _) (wpAny_pure ?_)
  refine wpAny_bind (wpAny_cRoomFor (by show A.units + 1 < cLine; omega) ?_)
  refine wpAny_bind (wpAny_specialOf (name := Str.ofString "__repr__") hT B.slotRepr.lookup ?_)
  refine wpAny_bind (m := callSpecialIfBound? (.ref a) (Str.ofString "__repr__")) (wpAny_callSpecialIfBound?_slotG (name := Str.ofString "__repr__") hT B.slotRepr (B.call _ _ s _ g (by show A.units + 1 + _ < cLine; omega) (fun _ _ e => e) fun h' u tk hk => ?_))
  refine wpAny_bind (wpAny_isInstance (T := "str") (b := true) rfl isSubtype_str_str ?_)
  exact wpAny_pure ⟨_, rfl, h h' u tk hk⟩
section
variable {X : Cx}
/-- repr(x), x data without dicts -/
def rRepr (K : PySem.W.Frag) : List V → Hp → VK → Prop := fun xs H Q => ∃ (x : V) (d : PyData), xs = [x] ∧ Dp K H x d ∧ d.showable = true ∧ d.hasDict = false ∧ d.depth ≤ 60 ∧ d.shown.length ≤ sizeLine ∧ Q (.str d.shown) H
theorem call_reprD (g : Gd X.A) (hu : X.A.units + 64 < cLine) : CallR X (.builtin "repr") (rRepr X.K) := by
  intro pins s σ H xs us Q I r h
  obtain ⟨x, d, rfl, hd, h1, h2, h3, h4, q⟩ := h
  obtain ⟨u, rfl, rx⟩ := vals1 r
  obtain ⟨as, hr⟩ := Dp.reads I d x u hd rx
  cases hr with
  | none => simp only [PyData.shown] at q; exact PySem.P.repr_of_none ⟨.str _, H, I.tok _, ⟨_, rfl⟩, q⟩
  | bool b => simp only [PyData.shown] at q; exact PySem.P.repr_of_bool ⟨.str _, H, I.tok _, ⟨_, rfl⟩, q⟩
  | int i t => simp only [PyData.shown] at q; exact PySem.P.repr_of_int (by simpa [PyData.showable] using h1) ⟨.str _, H, I.tok _, ⟨_, rfl⟩, q⟩
  | str y t => simp only [PyData.shown] at q h4; exact PySem.P.repr_of_str ⟨.str _, H, I.tok _, ⟨_, rfl⟩, q⟩ h4
  | list e1 e2 e3 e4 =>
    exact repr_ref (.list e1 e2 e3 e4) h1 (fun e => by rw [h2] at e; cases e) h4 g (by omega) fun h' u tk hk => ⟨.str _, H, I.kept (t' := tk) hk, ⟨_, rfl⟩, q⟩
  | tuple e1 e2 e3 e4 =>
    exact repr_ref (.tuple e1 e2 e3 e4) h1 (fun e => by rw [h2] at e; cases e) h4 g (by omega) fun h' u tk hk => ⟨.str _, H, I.kept (t' := tk) hk, ⟨_, rfl⟩, q⟩
  | dict e1 e2 e3 e4 e5 =>
    exact repr_ref (.dict e1 e2 e3 e4 e5) h1 (fun e => by rw [h2] at e; cases e) h4 g (by omega) fun h' u tk hk => ⟨.str _, H, I.kept (t' := tk) hk, ⟨_, rfl⟩, q⟩
end
/-! ### sorted of a tuple of texts -/
section
variable {X : Cx}
def rSortedTS (K : PySem.W.Frag) : List V → Hp → VK → Prop := fun vs H Q => ∃ (a : Addr) (xs : List Str), vs = [V.ref a] ∧ SqT K H a (xs.map V.str) ∧ xs.length ≤ 100000 ∧
  ∀ (ys : List Str) (p : Addr), ys.Perm xs → sortedS ys = true → H p = none → Q (.ref p) (upd H p (.lst (ys.map V.str)))
theorem cr_sortedTS : CallR X (.builtin "sorted") (rSortedTS X.K) := by
  intro pins s σ H vs us Q I r h
  obtain ⟨a, xs, rfl, ht, hz, q⟩ := h
  obtain ⟨its, rv, ⟨o, ho, hc, n, hd⟩, _⟩ := I.tuple ht
  rw [Vals.ref1 r]
  have hln : xs.length = its.length := by
    have e := rv.length
    rw [List.length_map] at e
    exact e
  have hS : StrsAre its xs := rv.strs
  have hL : its.length ≤ sizeLine := Nat.le_trans (by omega) (show 100000 ≤ sizeLine by decide)
  refine Calls.call_function_entry kind_sorted plain_sorted entry_sorted (args_sorted1 _) ?_
  unfold Builtin.«sorted»
  refine wpAny_bind (m := checkCount "sorted" 1 1 _) (wpAny_pure ?_)
  refine wpAny_bind (wpAny_collect_seq a (.inr rfl) ho hc hd (fun h' hk => ?_) (by rw [List.size_toArray]; exact hL))
  have I1 : Inv _ pins σ H { s with heap := h' } := I.kept (t' := s.toks) hk
  rw [List.toList_toArray]
  refine wpAny_bind (wpAny_newList ?_ hL)
  have hoL : (h'.push (seqObj "list" its.toArray 0)).get? h'.objs.size = some (seqObj "list" its.toArray 0) := Heap.get?_push_size _ rfl
  show wpAny _ _ _ _ _ { s with heap := h'.push (seqObj "list" its.toArray 0) }
  refine wpAny_bind (wpAny_holding (wpAny_call_entry slot_list_sort ⟨_, hoL, rfl⟩ entry_list_sort
    (list_sort_treeKAny strKind_oneLt (s := { s with heap := h'.push (seqObj "list" its.toArray 0) }) hoL hS.keysOf (fun v₁ v₂ rest e => keyKind_strs (by rw [← e]; exact hS)) hL fun st' hp hs => ⟨_, rfl, ?_⟩) (args_list_sort _)))
  obtain ⟨ys, g1, g2, g3⟩ := sorted_out_str hS hp hs
  obtain ⟨e', he'⟩ := sortedHeap_at (vs := its) (out := (arrOf st').map (·.2)) hoL
  have hlen : (ys.map V.str).length ≤ sizeLine := by
    rw [List.length_map, g2.length_eq, hln]
    exact hL
  refine wpAny_pure ⟨_, rfl, .ref h'.objs.size, upd H h'.objs.size (.lst (ys.map V.str)), I1.laid (t' := s.toks) (fun b u e => ?_) (Nat.le_refl _)
    (show ObjOk X.prog X.w _ _ _ (.lst (ys.map V.str)) from ⟨hlen, ((arrOf st').map (·.2)).toList, e', vals_of_strs g1, by rw [Array.toArray_toList]; exact he'⟩), rfl, q ys _ g2 g3 (I1.hok.fresh (Nat.le_refl _))⟩
  have hb : b < h'.objs.size := Heap.lt_size e
  rw [sortedHeap_old (Nat.ne_of_lt hb) (by rw [size_push']; exact Nat.lt_succ_of_lt hb)]
  exact Heap.get?_push_of_some _ e
end
/-! ### the end of a law whose promise holds where no repr is under way -/
/-- the abstract heap at the law's call: the script alone, if the module does not own it -/
def H00 (a : Addr) (o : Obj) (ns : List Int) (own : Bool) : Hp := fun b => if own = false ∧ b = a then some (.frz o (.lst (ns.map V.int))) else none
theorem h00_none {a b : Addr} {o : Obj} {ns : List Int} {own : Bool} (h : own = true ∨ b ≠ a) : H00 a o ns own b = none := by
  unfold H00
  rw [if_neg]
  rintro ⟨h1, h2⟩
  rcases h with h | h
  · rw [h1] at h; cases h
  · exact h h2
theorem h00_some {a b : Addr} {o : Obj} {ns : List Int} {own : Bool} {u : HO} (h : H00 a o ns own b = some u) : own = false ∧ b = a ∧ u = .frz o (.lst (ns.map V.int)) := by
  unfold H00 at h
  by_cases c : own = false ∧ b = a
  · rw [if_pos c] at h
    exact ⟨c.1, c.2, (Option.some.inj h).symm⟩
  · rw [if_neg c] at h
    cases h
theorem lawG {P : Program} {w : World} {K : PySem.W.Frag} {mg mb : Str → Option Value} {CX : CXT} {k : Nat} {fa a : Addr} {fd : FuncData} {x : Str} {sp : Sp} {t : Shared} {vs : List Value} {ns : List Int}
    (inK : K.In t.heap) (glob : t.heap.Ns mainGlobals mg) (blt : t.heap.Ns builtinsNs mb) (boot : ∀ y : Str, y ≠ "__name__" → mb y = bootBuiltins y) (noLim : t.heap.NoLimit) (gens : t.gens = #[])
    (scr : t.heap.get? a = some { cls := .type "list", data := .seq vs.toArray }) (hints : IntsAre vs ns) (short : ns.length ≤ sizeLine) (room : Room k callerA)
    (F : ∀ base : Heap, K.In base → base.Ns mainGlobals mg → FnG P w K mg base CX k fa fd [x] sp) (bind : ∀ (s : Shared) (u : Value), BindsTo s fd ⟨[u], []⟩ [(x, u)])
    (want : ∀ H : Hp, Only H → SqL K H a (ns.map V.int) → sp [.ref a] H (fun v _ => v = .bl true) fun _ _ _ => False)
    (noErr : ∀ H e s', CX [] H t (fun _ _ _ => False) e s' → False) :
    codeAny (model P w) callerA (.call (.ref fa) ⟨[.ref a], []⟩) (fun r s' => r = .ok (.ret (.bool true)) ∧ OldK t.heap s'.heap ∧ s'.os = t.os ∧ AllBare s'.gens) t := by
  have hv : Vals (ns.map V.int) vs := vals_ints hints
  have hlv : vs.length = ns.length := hints.length
  -- does the module own the script?
  obtain ⟨own, hown⟩ : ∃ own : Bool, own = (K.lookup a).isSome := ⟨_, rfl⟩
  let o : Obj := { cls := .type "list", data := .seq vs.toArray }
  have hOk : HOk P w (H00 a o ns own) t.heap := by
    intro b u e
    obtain ⟨_, rfl, rfl⟩ := h00_some e
    exact ⟨scr, by rw [List.length_map]; exact short, vs, _, hv, scr⟩
  have keepT : ∀ {b : Addr} {ob : Obj}, t.heap.get? b = some ob → own = true ∨ b ≠ a → (hidT t.heap (H00 a o ns own)).get? b = some ob := fun e n => hidT_get e (h00_none n)
  have notScr : ∀ {b : Addr} {m : Str → Option Value}, t.heap.Ns b m → b ≠ a := by
    rintro b m ⟨ob, es, ep, e, dd, _⟩ rfl
    rw [scr] at e
    cases e
    cases dd
  have nsKeep : ∀ {b : Addr} {m : Str → Option Value}, t.heap.Ns b m → (hidT t.heap (H00 a o ns own)).Ns b m := by
    intro b m n
    have ne := notScr n
    obtain ⟨ob, es, ep, e, r⟩ := n
    exact ⟨ob, es, ep, keepT e (.inr ne), r⟩
  have inK' : K.In (hidT t.heap (H00 a o ns own)) := by
    intro b ob e
    refine keepT (inK b ob e) ?_
    by_cases hb : b = a
    · subst hb
      left
      rw [hown, e]
      rfl
    · exact .inr hb
  have noLim' : (hidT t.heap (H00 a o ns own)).NoLimit := by
    obtain ⟨mc, h1, h2⟩ := noLim
    exact ⟨mc, nsKeep h1, h2⟩
  have env : Env0 P w K mg (hidT t.heap (H00 a o ns own)) callerA [] t (H00 a o ns own) := by
    refine ⟨rfl, ⟨inK', nsKeep glob, ⟨mb, nsKeep blt, boot⟩, noLim'⟩, fun b ob e => of_hidT e, Nat.le_of_eq (hidT_size _ _), trivial, ?_, hOk, .of_eq gens⟩
    intro b hb
    exact absurd (show b ∈ ([] : List Addr) from hb) List.not_mem_nil
  have only : Only (H00 a o ns own) := by
    intro b
    cases e : H00 a o ns own b with
    | none => exact .inl rfl
    | some u =>
      obtain ⟨_, _, rfl⟩ := h00_some e
      exact .inr ⟨_, _, rfl⟩
  have hS : SqL K (H00 a o ns own) a (ns.map V.int) := by
    cases own with
    | false => exact .inl (.inr ⟨o, by unfold H00; rw [if_pos ⟨rfl, rfl⟩]⟩)
    | true =>
      obtain ⟨ob, e⟩ := Option.isSome_iff_exists.mp hown.symm
      have e2 := inK a ob e
      rw [scr] at e2
      cases e2
      exact .inr ⟨_, vs.toArray, _, e, rfl, rfl, rfl, by rw [List.size_toArray, hlv]; exact short, by simpa using hv⟩
  have runs := (F _ inK' (nsKeep glob)).run callerA [] t (H00 a o ns own) ⟨[.ref a], []⟩ [.ref a] [.ref a] _ _ rfl room env (bind t (.ref a)) (.cons rfl .nil) (want _ only hS)
  refine codeAny_mono runs ?_
  intro res s' hres
  match res, hres with
  | .error e, hres => exact (noErr _ e s' hres).elim
  | .ok (.ret u), hres =>
    obtain ⟨v, H', hos, bare, un, ok', rel, rfl⟩ := hres
    obtain rfl : u = Value.bool true := rel
    refine ⟨rfl, OldK.of_keep fun b ob e => ?_, hos, bare⟩
    cases q : H00 a o ns own b with
    | none => exact un.keep b ob e q (fun z => absurd (show b ∈ ([] : List Addr) from z) List.not_mem_nil) List.not_mem_nil
    | some u =>
      obtain ⟨_, _, rfl⟩ := h00_some q
      have q' := un.frzs b _ _ q
      have e1 := (hOk b _ q).1
      rw [e] at e1
      cases e1
      exact (ok' b _ q').1
/-- what k_head leaves -/
theorem walkG {l : PySem.W.OpenLaw} {n k : Nat} {q : Program} {loose : List Str} {XP : (Str → Option Value) → Heap → Prop} {YP : World → Heap → Prop} {d : DefRec} {K : Params → PySem.W.Frag} {CX : World → CXT} {sp : World → Sp} {x : Str}
    (most : l.most = some n) (small : n ≤ sizeLine) (plain : d.params.defaults = []) (room : Room k callerA) (hY : ∀ (w : World) (h : Heap), YP w h → (K w.params).In h)
    (F : ∀ (w : World) (mg : Str → Option Value) (fa : Addr) (h : Heap), (K w.params).In h → h.Ns mainGlobals mg → mg d.name = some (.ref fa) →
      ∃ fd : FuncData, (∀ (s : Shared) (u : Value), BindsTo s fd ⟨[u], []⟩ [(x, u)]) ∧ ∀ base : Heap, (K w.params).In base → base.Ns mainGlobals mg → FnG l.prog w (K w.params) mg base (CX w) k fa fd [x] (sp w))
    (want : ∀ (w : World) (H : Hp) (a : Addr) (ns : List Int), ns.length ≤ n → Only H → SqL (K w.params) H a (ns.map V.int) → sp w [.ref a] H (fun v _ => v = .bl true) fun _ _ _ => False)
    (noErr : ∀ (w : World) (H : Hp) (s : Shared) (e : Value) (s' : Shared), CX w [] H s (fun _ _ _ => False) e s' → False) :
    PySem.W.WalkO q loose XP YP l.row.toRowW d [] (fun f vs => PySem.call f vs) := by
  refine Att.attach_call most plain fun w s₀ t mg mb fa o pm cd doc a vs ns G Y ho hd hcd hmg scr hints hlen gens => ?_
  obtain ⟨fd, bind, body⟩ := F w mg fa _ (hY w _ Y) G.T.g hmg
  exact lawG (hY w _ Y) G.T.g G.T.b G.T.builtins G.T.nolimit gens scr hints (Nat.le_trans hlen small) room body bind (fun H hO hS => want w H a ns hlen hO hS) fun H e s' => noErr w H t e s'
end Gx

set_option maxRecDepth 100000
set_option maxHeartbeats 4000000
namespace Gx
open PySem PySem.Spec PySem.W PySem.Calls Builtin Builtin.ObjectAttr
section
variable {prog : Program} {w : World} {A : Around} {R : Result → Shared → Prop} {hp : Heap} {g : Array GenState} {d : Drawn} {t : Nat} {os : OsState} {K : Frag}
/-- the first field of an own exception, over any built-in base -/
theorem exc_storeX {B : String} {bmB : List Value} {name : Str} {tk : Tok} {v : Value} {x C t0 : Addr} (SF : StoreFacts B bmB "object.__setattr__" "object")
    (inK : K.In hp) (hx : hp.get? x = some (excObj C t0 none .none)) (over : excOver K C bmB = true) (noTake : takerIn K C name = some none) (hasD : hasDictIn K C = true)
    (hq : ∀ (h' : Heap) (tk' : Nat) (dx : Addr), (∀ b o, b ≠ x → hp.get? b = some o → h'.get? b = some o) → hp.objs.size ≤ dx → dx ≠ x → h'.get? x = some (excObj C t0 (some dx) .none) →
      h'.Ns1 dx (fun y => if y = name then some v else none) → R (.ok (.ret .none)) ⟨h', g, d, tk', os⟩) :
    codeAny (model prog w) A (.call (.builtin "object.__setattr__") ⟨[.ref x, .str name tk, v], []⟩) R ⟨hp, g, d, t, os⟩ := by
  have xs : x ≠ hp.objs.size := Nat.ne_of_lt (Heap.lt_size hx)
  refine osa_openX (s := ⟨hp, g, d, t, os⟩) (od := none) SF inK ⟨hx, rfl, rfl, trivial⟩ over noTake fun b => ?_
  obtain ⟨cd, hc, hd⟩ := any_some hasD
  refine wpAny_bind (wpAny_pure (wpAny_bind (instanceDict_exc (s := ⟨hp, g, d, t, os⟩) hx (looks_clsIn inK hc) hd ?_)))
  show wpAny _ _ (storeInDict hp.objs.size (.str name tk) name v) _ _ _
  have hx1 : (hp.push (dictOf [] 0)).get? x = some (excObj C t0 none .none) := Heap.get?_push_of_some _ hx
  refine PySem.HandSPX.store_in_new ⟨_, #[], _, (Heap.get?_update_ne _ _ _ _ xs.symm).trans (Heap.get?_push_at rfl rfl), rfl, fun e he => absurd he (by simp), fun _ => rfl⟩ fun h' tk' hn hs => ?_
  refine hq h' tk' hp.objs.size (fun b o hb ho => ?_) (Nat.le_refl _) xs.symm ((hs.2 x xs).trans (Heap.get?_update_self _ hx1 rfl)) hn
  have bl : b ≠ hp.objs.size := Nat.ne_of_lt (Heap.lt_size ho)
  exact (hs.2 b bl).trans ((Heap.get?_update_ne _ _ _ _ hb).trans (Heap.get?_push_of_some _ ho))
end
end Gx
namespace Gx
open PySem PySem.Spec PySem.W PySem.Calls PyProof.Rows L2
/-! ### own exceptions with one field: class cn(B): def __init__(self, fld): self.fld = fld -/
/-- what the written part says of the class -/
structure XTxt (K : Frag) (mg : Str → Option Value) (cn fld : Str) (newId : String) (bmB : List Value) (C fI : Addr) : Prop where
  gC : mg cn = some (.ref C)
  cls : ∃ nm q N bs bm sn sub ab col dd k0 k1 k2 k3 k5, K.lookup C = some (excClassObj nm q C N bs bm true sn sub ab col dd k0 k1 k2 k3 k5 newId) ∧ excTail bmB bm = true
  over : excOver K C bmB = true
  tak : takerIn K C fld = some none
  hdC : hasDictIn K C = true
  sa : findIn K (.ref C) "__setattr__" = some (some (.builtin "object.__setattr__"))
  ga : findIn K (.ref C) "__getattribute__" = some (some (.builtin "BaseException.__getattribute__"))
  gg : findIn K (.ref C) "__getattr__" = some none
  noN : findIn K (.ref C) fld = some none
  iC : findIn K (.ref C) "__init__" = some (some (.ref fI))
  tC : typeIn K (.ref fI) = some (.type "function")
  kC : keepIn K (.ref C) = true
  exC : subIn K (.ref C) (.type "BaseException") = some true
  tyC : typeIn K (.ref C) = some (.type "type")
  te : exmOne K (.ref C) (.ref C) = some true
/-- what __init__ leaves of a new exception at x -/
structure XInit (h h' : Heap) (x C dx t0 : Addr) (fld : Str) (v : Value) : Prop where
  keep : ∀ b o, b ≠ x → h.get? b = some o → h'.get? b = some o
  obj : h'.get? x = some (excObj C t0 (some dx) .none)
  big : h.objs.size ≤ dx
  ne : dx ≠ x
  ns : h'.Ns1 dx (fun y => if y = fld then some v else none)
/-- __init__ stores the field -/
def InitDoes (K : Frag) (C fI : Addr) (fld : Str) : Prop := ∀ (prog : Program) (w : World) (A : Around) (R : Result → Shared → Prop) (s : Shared) (x t0 : Addr) (v : Value),
  K.In s.heap → s.heap.NoLimit → s.heap.get? x = some (excObj C t0 none .none) → K.lookup x = none → A.depth < recursionLimit →
  (∀ h' tk dx, XInit s.heap h' x C dx t0 fld v → R (.ok (.ret .none)) { s with heap := h', toks := tk }) → codeAny (model prog w) A (.call (.ref fI) ⟨[.ref x, v], []⟩) R s
/-- such an exception, made -/
structure XMade (h h' : Heap) (e C d : Addr) (fld : Str) (v : Value) : Prop where
  keep : ∀ b o, h.get? b = some o → h'.get? b = some o
  new : h.objs.size ≤ e
  obj : ∃ oe vs, h'.get? e = some oe ∧ oe.cls = .ref C ∧ oe.dict = some d ∧ oe.data = .fields vs ∧ vs[1]? = some .none
  big : h.objs.size ≤ d
  ne : d ≠ e
  ns : h'.Ns1 d (fun y => if y = fld then some v else none)
theorem one_line (v : Value) : [v].length ≤ sizeLine := by
  show 1 ≤ sizeLine
  decide
section
variable {prog : Program} {w : World} {A : Around} {R : Result → Shared → Prop} {s : Shared} {K : Frag} {mg : Str → Option Value} {C fI : Addr} {cn fld : Str} {B newId initId : String} {bmB : List Value}
theorem x_made (FB : ExcBaseFacts B newId initId bmB) (T : XTxt K mg cn fld newId bmB C fI) (D : InitDoes K C fI fld) {v : Value} (inK : K.In s.heap) (lim : s.heap.NoLimit) (room : A.depth + 1 < recursionLimit)
    (hq : ∀ h' tk e d, XMade s.heap h' e C d fld v → R (.ok (.ret (.ref e))) { s with heap := h', toks := tk }) : codeAny (model prog w) A (.call (.ref C) ⟨[v], []⟩) R s := by
  obtain ⟨nm, q, N, bs, bm, sn, sub, ab, col, dd, k0, k1, k2, k3, k5, hC, tail⟩ := T.cls
  obtain ⟨hp, g, dr, tk, os⟩ := s
  have stay : ∀ b o, hp.get? b = some o → ((hp.push (kdv_tup [v])).push (excObj C hp.objs.size none .none)).get? b = some o := fun b o e => Heap.get?_push_of_some _ (Heap.get?_push_of_some _ e)
  have there : ((hp.push (kdv_tup [v])).push (excObj C hp.objs.size none .none)).get? (hp.objs.size + 1) = some (excObj C hp.objs.size none .none) := by heap_get
  have fresh : K.lookup (hp.objs.size + 1) = none := by
    cases e : K.lookup (hp.objs.size + 1) with
    | none => rfl
    | some o => exact absurd (Nat.lt_of_succ_lt (Heap.lt_size (inK _ _ e))) (Nat.lt_irrefl _)
  refine PySem.HandSPX.call_own FB (fun Y => excTail_contains Y bm tail) (inK _ _ hC) (looks_findIn inK T.iC) (fun self => bind_fn inK self T.tC) (one_line v) ?_
  refine D prog w _ _ ⟨(hp.push (kdv_tup [v])).push (excObj C hp.objs.size none .none), g, dr, tk, os⟩ _ _ v (inK.keeps stay) (lim.keeps stay) there fresh room fun h' tk' dx M => ?_
  have old : ∀ b o, hp.get? b = some o → h'.get? b = some o := fun b o e => M.keep b o (Nat.ne_of_lt (Nat.lt_succ_of_lt (Heap.lt_size e))) (stay b o e)
  have z : hp.objs.size + 1 + 1 ≤ dx := by
    have q := M.big
    first
      | exact q
      | simpa only [Heap.size_push] using q
  exact ⟨rfl, hq h' tk' (hp.objs.size + 1) dx ⟨old, Nat.le_succ _, ⟨_, _, M.obj, rfl, rfl, rfl, rfl⟩, Nat.le_trans (Nat.le_trans (Nat.le_succ _) (Nat.le_succ _)) z, M.ne, M.ns⟩⟩
end
theorem relO_one {fld : Str} {v : V} {u : Value} (r : RelV v u) (f : Str) : RelO (List.lookup f [(fld, v)]) (if f = fld then some u else none) := by
  by_cases e : f = fld
  · subst e
    rw [if_pos rfl, show List.lookup f [(f, v)] = some v by simp [List.lookup]]
    exact r
  · have q : (f == fld) = false := by simpa using e
    rw [if_neg e, show List.lookup f [(fld, v)] = none by simp [List.lookup, q]]
    trivial
section
variable {X : Cx} {C fI : Addr} {cn fld : Str} {B newId initId : String} {bmB : List Value}
/-- cn(e) -/
def tMkX (C : Addr) (fld : Str) (ta : TA) : L2.St → Hp → XK → Prop := fun σ H Q => ta σ H fun vs H1 => ∃ v, vs = [v] ∧ ∀ d, H1 d = none → Q (.ref C) (some d) (upd H1 d (.xd [(fld, v)]))
theorem pmk_x {a : Expr} {ta : TA} {p pos : Pos} {k : Nat} (FB : ExcBaseFacts B newId initId bmB) (T : XTxt X.K X.mg cn fld newId bmB C fI) (D : InitDoes X.K C fI fld) (room : Room k X.A) (ha : PA X [a] ta) (hg : Gl X cn)
    (hdb : (cn == ("__debug__" : Str)) = false := by decide) (hst : starEach (a :: []) X.env = (false, eval a X.env) :: starEach [] X.env := by rfl) (hpl : (backTo pos (starEach [] X.env)).any (·.1) = false := by rfl) :
    PMk X (.Call (.Name cn p) [a] [] pos) (tMkX C fld ta) := by
  intro pins s σ H Q I h
  refine wpAny_Call_Name_kw (ld_glob I hg T.gC ?_ hdb)
  refine PySem.W.callWith_K (h₀ := X.base) I.ok.mod.kin T.kC (thn (ha.run pos pins s σ H _ I h) ?_) hst hpl
  rintro us s1 ⟨vs, H1, I1, r1, v, rfl, q1⟩
  refine ⟨I1.kIn, ?_⟩
  obtain ⟨u, rfl, rv⟩ := vals1 r1
  show wpAny _ _ (call (.ref C) [u]) _ _ _
  have lim := I1.nolimit
  obtain ⟨hp, g, dr, tk, os⟩ := s1
  refine wpAny_call (x_made FB T D I1.kIn lim (by have := room.dp; omega) fun h' tk' e d M => ?_)
  show MkP X pins σ Q (.ref e) ⟨h', g, dr, tk', os⟩
  obtain ⟨oe, fv, hoe, hc, hd, hdat, h1⟩ := M.obj
  obtain ⟨G', g1, g2⟩ := restrict h' fun b => decide (b ≠ e)
  have off : ∀ b, b ≠ e → G'.get? b = h'.get? b := fun b hb => g1 b (decide_eq_true hb)
  have gone : G'.get? e = none := g2 e (by simp)
  have old : ∀ b o, hp.get? b = some o → G'.get? b = some o := fun b o q => (off b (Nat.ne_of_lt (Nat.lt_of_lt_of_le (Heap.lt_size q) M.new))).trans (M.keep b o q)
  have ob : ObjOk X.prog X.w (upd H1 d (.xd [(fld, v)])) G' d (.xd [(fld, v)]) := ⟨_, M.ns.at (fun o q => (off d M.ne).trans q), fun f => relO_one rv f⟩
  have J : Inv X pins σ (upd H1 d (.xd [(fld, v)])) ⟨G', g, dr, tk', os⟩ := I1.laid (t' := tk') old M.big ob
  refine ⟨e, oe, fv, ⟨G', g, dr, tk', os⟩, _, .ref C, some d, rfl, J, ?_, gone, hoe, ⟨hc, hd⟩, hdat, h1, ?_, rfl, I1.bare, raises_own T.exC T.tyC, q1 d (I1.hok.fresh M.big)⟩
  · intro b o q
    have q' : G'.get? b = some o := q
    by_cases hb : b = e
    · rw [hb, gone] at q'
      cases q'
    · exact (off b hb).symm.trans q
  · rw [upd_ne (Ne.symm M.ne)]
    exact I1.hok.fresh M.new
/-- raise cn(e) -/
def tRaiseX (C : Addr) (fld : Str) (W : WX) (ta : TA) : TS := fun _ σ H => tMkX C fld ta σ H fun cls d H' => W cls d σ H'
theorem ps_raiseX {a : Expr} {ta : TA} {W : WX} {p pos pos2 : Pos} {k : Nat} (hc : X.calm = true) (FB : ExcBaseFacts B newId initId bmB) (T : XTxt X.K X.mg cn fld newId bmB C fI) (D : InitDoes X.K C fI fld) (room : Room k X.A) (tk : Takes X W) (ha : PA X [a] ta) (hg : Gl X cn)
    (hdb : (cn == ("__debug__" : Str)) = false := by decide) (hst : starEach (a :: []) X.env = (false, eval a X.env) :: starEach [] X.env := by rfl) (hpl : (backTo pos (starEach [] X.env)).any (·.1) = false := by rfl) :
    PS X (.Raise (some (.Call (.Name cn p) [a] [] pos)) none pos2) (tRaiseX C fld W ta) := ps_raise hc tk (pmk_x FB T D room ha hg hdb hst hpl)
/-- e.fld, e the exception that the suite holds (at a; its class cls, its dict d) -/
def tByX (C : Addr) (fld : Str) (a : Addr) (cls : Value) (d : Option Addr) (te : TE) : TE := fun σ H Q => te σ H fun x H1 => x = .ref a ∧ cls = .ref C ∧ ∃ (dd : Addr) (v : V), d = some dd ∧ H1 dd = some (.xd [(fld, v)]) ∧ Q v H1
theorem pe_byX {a : Addr} {oe : Obj} {cls : Value} {d : Option Addr} {pn : List (Addr × Obj)} {e : Expr} {te : TE} {pos : Pos} (T : XTxt X.K X.mg cn fld newId bmB C fI) (hz : Zc cls d oe) (hf : ∃ vs, oe.data = .fields vs) (he : PE (X.suite a ((a, oe) :: pn)) e te)
    (hb : attributeBase e fld X.env (eval e X.env) = eval e X.env := by rfl) : PE (X.suite a ((a, oe) :: pn)) (.Attribute e fld pos) (tByX C fld a cls d te) := by
  constructor
  intro pins s σ H Q I h
  refine attr_of hb (thn (he.run pins s σ H _ I h) ?_)
  rintro u s1 ⟨x, H1, I1, rx, rfl, rfl, dd, v, rfl, ea, q⟩
  obtain rfl : u = Value.ref a := rx
  obtain ⟨here, _⟩ := I1.pin (a, oe) (List.mem_append_left _ List.mem_cons_self)
  obtain ⟨vs, hd⟩ := hf
  obtain ⟨mA, hns, hr⟩ := (show ObjOk X.prog X.w H1 s1.heap dd (.xd [(fld, v)]) from I1.hok dd _ ea)
  obtain ⟨od, ho, hl⟩ := lookIn_ns hns
  have l : List.lookup fld [(fld, v)] = some v := by simp [List.lookup]
  have hrf := hr fld
  rw [l] at hrf
  obtain ⟨u, hu, ru⟩ := RelO.some_of (v := v) (o := mA fld) hrf
  have J : PySem.W.InstAt s1.heap a oe C (some od) := ⟨here, hz.1, by unfold PySem.W.notCls; rw [hd] <;> rfl, by rw [hz.2]; exact ho⟩
  exact HandSPX.exc_get I1.kIn J T.ga T.gg T.exC (PySem.W.findObj_own T.hdC T.noN rfl (by rw [hl, hu])) (handed_of ru) ⟨v, H1, I1.tok _, ru, q⟩
end
end Gx
namespace Gx
open PySem PySem.Spec PySem.Calls PyProof.Rows L2
/-! ### calls of defs that may raise, also with keywords, where no repr is under way -/
section
variable {P : Program} {w : World} {K : PySem.W.Frag} {mg : Str → Option Value} {base : Heap}
theorem FnG.toX {k : Nat} {f : Addr} {fd : FuncData} {ps : List Str} {sp : Sp} (F : FnG P w K mg base CX0 k f fd ps sp) : FnG P w K mg base (L2.CX P w) k f fd ps sp := by
  refine ⟨F.len, fun A outer s H args us vs Q E g hr he hb hv hs => codeAny_mono (F.run A outer s H args us vs Q E g hr he hb hv hs) ?_⟩
  intro r s' h
  match r, h with
  | .error e, h => exact h.elim
  | .ok (.ret u), h => exact h
/-- the name x is a def that keeps sp, and may raise -/
def CalX (P : Program) (w : World) (K : PySem.W.Frag) (mg : Str → Option Value) (base : Heap) (k : Nat) (x : Str) (ps : List Str) (sp : Sp) : Prop :=
  ∃ (f : Addr) (fd : FuncData), FnG P w K mg base (L2.CX P w) k f fd ps sp ∧ PySem.W.keepIn K (.ref f) = true ∧ Binds K fd ps [] ∧ mg x = some (.ref f)
theorem CalX.up {j k : Nat} {x : Str} {ps : List Str} {sp : Sp} (c : CalX P w K mg base j x ps sp) (h : j ≤ k) : CalX P w K mg base k x ps sp := by
  obtain ⟨f, fd, F, r⟩ := c
  exact ⟨f, fd, F.up h, r⟩
theorem CalG.toX {k : Nat} {x : Str} {ps : List Str} {sp : Sp} (c : CalG P w K mg base k x ps sp) : CalX P w K mg base k x ps sp := by
  obtain ⟨f, fd, F, r⟩ := c
  exact ⟨f, fd, F.toX, r⟩
theorem Def.calX {x qual : Str} {st : Stmt} {ps : List Str} (d : Def K mg x qual st ps) {k : Nat} {sp : Sp} (h : ∀ f fd, Fun K x qual st f fd → FnG P w K mg base (L2.CX P w) k f fd ps sp) : CalX P w K mg base k x ps sp := by
  obtain ⟨f, fd, F, b, g⟩ := d
  exact ⟨f, fd, h f fd F, F.kp, b, g⟩
/-- .. called with n values by position and keywords ks; gV puts them in the parameters' order -/
def CalK (P : Program) (w : World) (K : PySem.W.Frag) (mg : Str → Option Value) (base : Heap) (k : Nat) (x : Str) (ps : List Str) (n : Nat) (ks : List Str) (gV : List V → List V → List V) (sp : Sp) : Prop :=
  ∃ (f : Addr) (fd : FuncData) (g : List Value → List Value → List Value), FnG P w K mg base (L2.CX P w) k f fd ps sp ∧ PySem.W.keepIn K (.ref f) = true ∧ KBn K fd ps n ks g gV ∧ mg x = some (.ref f)
theorem CalK.up {j k n : Nat} {x : Str} {ps ks : List Str} {gV : List V → List V → List V} {sp : Sp} (c : CalK P w K mg base j x ps n ks gV sp) (h : j ≤ k) : CalK P w K mg base k x ps n ks gV sp := by
  obtain ⟨f, fd, g, F, r⟩ := c
  exact ⟨f, fd, g, F.up h, r⟩
/-- the top's def with keyword-only parameters and no defaults -/
def DefK (K : PySem.W.Frag) (mg : Str → Option Value) (x qual : Str) (st : Stmt) (ps : List Str) (n : Nat) (ks : List Str) : Prop :=
  ∃ (f : Addr) (fd : FuncData), Fun K x qual st f fd ∧ KBn K fd ps n ks (fun us ws => us ++ ws) (fun vs zs => vs ++ zs) ∧ mg x = some (.ref f)
theorem DefK.calK {x qual : Str} {st : Stmt} {ps ks : List Str} {n : Nat} (d : DefK K mg x qual st ps n ks) {k : Nat} {sp : Sp} (h : ∀ f fd, Fun K x qual st f fd → FnG P w K mg base (L2.CX P w) k f fd ps sp) : CalK P w K mg base k x ps n ks (fun vs zs => vs ++ zs) sp := by
  obtain ⟨f, fd, F, b, g⟩ := d
  exact ⟨f, fd, _, h f fd F, F.kp, b, g⟩
theorem kbn_of {fd : FuncData} {ps ks : List Str} {n : Nat} (h : ∀ us ws : List Value, us.length = n → ws.length = ks.length → bindArgs fd ⟨us, ks.zip ws⟩ = pure (ps.zip (us ++ ws))) : KBn K fd ps n ks (fun us ws => us ++ ws) (fun vs zs => vs ++ zs) :=
  ⟨fun s us ws _ h1 h2 => .of_eq (h us ws h1 h2), fun r1 r2 => r1.append r2⟩
end
section
variable {X : Cx}
/-- nothing is raised -/
theorem neverAt (σ : L2.St) : PassesAt (L2.CX X.prog X.w) X σ ((fun _ => E0) σ) := by
  rintro pins H s e s' I ⟨a, B, H', cls, d, _, _, _, _, _, _, _, no⟩
  exact no.elim
theorem runX {k : Nat} {f : Addr} {fd : FuncData} {ps : List Str} {sp : Sp} {E : L2.St → XK} {args : Args} {pins : List (Addr × Obj)} {σ : L2.St} {H : Hp} {s : Shared} {Q : VK} {us : List Value} {vs : List V}
    (F : FnG X.prog X.w X.K X.mg X.base (L2.CX X.prog X.w) k f fd ps sp) (g : Gd X.A) (room : Room k X.A) (hb : BindsTo s fd args (ps.zip us)) (hx : PassesAt (L2.CX X.prog X.w) X σ (E σ))
    (I : Inv X pins σ H s) (r : Vals vs us) (want : sp vs H Q (E σ)) : wpAny (model X.prog X.w) X.A (call (.ref f) args.pos args.kw) (EP X pins σ Q) X.xe s := by
  have hc := F.run X.A X.stack s H args us vs Q (E σ) g room I.env0 hb r want
  refine wpAny_call (codeAny_mono hc ?_)
  intro res s' hres
  match res, hres with
  | .error e, hres => exact hx pins H s e s' I hres
  | .ok (.ret u), hres => exact I.after hres
def tClX (sp : Sp) (E : L2.St → XK) (t : TA) : TE := fun σ H Q => t σ H fun vs H1 => sp vs H1 Q (E σ)
theorem pe_calX {x : Str} {ps : List Str} {sp : Sp} {k : Nat} {e : Expr} {es : List Expr} {t : TA} {E : L2.St → XK} {p pos : Pos} (c : CalX X.prog X.w X.K X.mg X.base k x ps sp) (g : Gd X.A) (room : Room k X.A) (hg : Gl X x) (hx : ∀ σ, PassesAt (L2.CX X.prog X.w) X σ (E σ)) (h : PA X (e :: es) t)
    (hdb : (x == ("__debug__" : Str)) = false := by decide) (hst : starEach (e :: es) X.env = (false, eval e X.env) :: starEach es X.env := by rfl) (hpl : (backTo pos (starEach es X.env)).any (·.1) = false := by rfl) :
    PE X (.Call (.Name x p) (e :: es) [] pos) (tClX sp E t) := by
  obtain ⟨f, fd, F, kp, b, hm⟩ := c
  refine ⟨fun pins s σ H Q I want => wpAny_Call_Name_kw (ld_glob I hg hm ?_ hdb)⟩
  refine PySem.W.callWith_K (h₀ := X.base) I.ok.mod.kin kp (thn (h.run pos pins s σ H _ I want) fun us s1 ⟨vs, H1, I1, r, q⟩ => ⟨I1.kIn, ?_⟩) hst hpl
  have hl : us.length = ps.length := r.length.symm.trans (F.len _ _ _ _ q)
  have b1 := b s1 us I1.kIn (by rw [List.append_nil]; exact hl)
  rw [List.append_nil] at b1
  exact runX (args := ⟨us, []⟩) F g room b1 (hx σ) I1 r q
def tClK (n m : Nat) (sp : Sp) (gV : List V → List V → List V) (E : L2.St → XK) (t tk : TA) : TE := fun σ H Q => t σ H fun vs H1 => tk σ H1 fun zs H2 => vs.length = n ∧ zs.length = m ∧ sp (gV vs zs) H2 Q (E σ)
theorem pe_calK {x : Str} {ps ks : List Str} {n : Nat} {gV : List V → List V → List V} {sp : Sp} {k : Nat} {e : Expr} {es : List Expr} {kws : List Keyword} {t tk : TA} {E : L2.St → XK} {p pos : Pos} (c : CalK X.prog X.w X.K X.mg X.base k x ps n ks gV sp) (g : Gd X.A) (room : Room k X.A) (hg : Gl X x)
    (hx : ∀ σ, PassesAt (L2.CX X.prog X.w) X σ (E σ)) (h : PA X (e :: es) t) (hk : PK X kws tk) (hall : (backToKw pos (keywordEach kws X.env)).all (·.1.isSome) = true := by rfl) (hks : (backToKw pos (keywordEach kws X.env)).filterMap (·.1) = ks := by rfl)
    (hdb : (x == ("__debug__" : Str)) = false := by decide) (hst : starEach (e :: es) X.env = (false, eval e X.env) :: starEach es X.env := by rfl)
    (hpl : ((backTo pos (starEach (e :: es) X.env)).any (·.1) || (backToKw pos (keywordEach kws X.env)).any (·.1.isNone)) = false := by rfl) :
    PE X (.Call (.Name x p) (e :: es) kws pos) (tClK n ks.length sp gV E t tk) := by
  obtain ⟨f, fd, gg, F, kp, b, hm⟩ := c
  refine ⟨fun pins s σ H Q I want => wpAny_Call_Name_kw (ld_glob I hg hm ?_ hdb)⟩
  refine PySem.W.callWith_KW (h₀ := X.base) I.ok.mod.kin kp hall (thn (h.run pos pins s σ H _ I want) ?_) hpl hst
  rintro us s1 ⟨vs, H1, I1, r, q⟩
  refine thn (hk.run pos pins s1 σ H1 _ I1 q) ?_
  rintro ws s2 ⟨zs, H2, I2, rz, l1, l2, q2⟩
  refine ⟨I2.kIn, ?_⟩
  rw [hks]
  exact runX (args := ⟨us, ks.zip ws⟩) F g room (b.to s2 us ws I2.kIn (r.length.symm.trans l1) (rz.length.symm.trans l2)) (hx σ) I2 (b.rel r rz) q2
end
end Gx

set_option maxRecDepth 100000
set_option maxHeartbeats 4000000
namespace Mx
open PySem PySem.Spec PyProof.Rows L2 Gx
/-! ### names: the mathematics -/
def isLow (c : Nat) : Bool := decide (97 ≤ c ∧ c ≤ 122)
/-- whether a text is a name -/
def nameB (z : Str) : Bool := (decide (1 ≤ z.cps.size) && decide (z.cps.size ≤ 8)) && z.cps.toList.all isLow
theorem low_facts : ∀ c, c < 128 → (isLow c = true → Unicode.isAlpha c = true ∧ Unicode.isLower c = true ∧ Unicode.isUpper c = false ∧ Unicode.isTitle c = false) ∧ (Unicode.isAlpha c = true → Unicode.isUpper c = false → isLow c = true) := by decide +kernel
theorem isLow_lt {c : Nat} (h : isLow c = true) : c < 128 := by
  have := of_decide_eq_true h
  omega
/-- what is_name reckons of a text -/
theorem name_by (z : Str) (h1 : 1 ≤ z.cps.size) : (Txt.isascii z && (Txt.isalpha z && Txt.islower z)) = z.cps.toList.all isLow := by
  have hl : z.length = z.cps.size := rfl
  unfold Txt.isascii Txt.isalpha Txt.islower
  rw [Bool.eq_iff_iff]
  simp only [Bool.and_eq_true, Array.all_eq_true', Array.any_eq_true', List.all_eq_true, decide_eq_true_eq, Bool.not_eq_true', Array.any_eq_false', Bool.or_eq_true, not_or, Bool.not_eq_true, Array.mem_toList_iff, hl]
  constructor
  · rintro ⟨ha, ⟨_, hb⟩, _, hd⟩ c hc
    exact (low_facts c (ha c hc)).2 (hb c hc) (hd c hc).1
  · intro h
    have f := fun c hc => (low_facts c (isLow_lt (h c hc))).1 (h c hc)
    refine ⟨fun c hc => isLow_lt (h c hc), ⟨h1, fun c hc => (f c hc).1⟩, ⟨z.cps[0], Array.getElem_mem (by omega), (f _ (Array.getElem_mem (by omega))).2.1⟩, fun c hc => ⟨(f c hc).2.2.1, (f c hc).2.2.2⟩⟩
/-! ### counts -/
def abcL : List Nat := [97,98,99,100,101,102,103,104,105,106,107,108,109,110,111,112,113,114,115,116,117,118,119,120,121,122]
theorem count_cnt (x : Str) (c : Nat) : Txt.count x ⟨#[c]⟩ = cnt c x.cps.toList := count_is x c
theorem one_sum (n : Nat) : ∀ L : List Nat, L.Nodup → (L.map fun c => if n = c then (1 : Int) else 0).sum = if n ∈ L then 1 else 0
  | [], _ => rfl
  | a :: L, h => by
    obtain ⟨h1, h2⟩ := List.nodup_cons.mp h
    rw [List.map_cons, List.sum_cons, one_sum n L h2]
    by_cases e : n = a
    · subst e
      rw [if_pos rfl, if_neg h1, if_pos (List.mem_cons_self ..)]
      rfl
    · rw [if_neg e]
      by_cases m : n ∈ L
      · rw [if_pos m, if_pos (List.mem_cons_of_mem _ m)]; rfl
      · rw [if_neg m, if_neg (by
          rw [List.mem_cons]
          rintro (z | z)
          · exact e z
          · exact m z)]; rfl
theorem cnt_sum (L : List Nat) (hL : L.Nodup) : ∀ l : List Nat, (L.map fun c => cnt c l).sum = (l.countP (fun n => decide (n ∈ L)) : Nat)
  | [] => by
    have : ∀ L : List Nat, (L.map fun c => cnt c []).sum = 0 := fun L => by
      induction L with
      | nil => rfl
      | cons a L ih => rw [List.map_cons, List.sum_cons, ih]; rfl
    rw [this]
    rfl
  | n :: r => by
    have h : ∀ L : List Nat, (L.map fun c => cnt c (n :: r)).sum = (L.map fun c => if n = c then (1 : Int) else 0).sum + (L.map fun c => cnt c r).sum := fun L => by
      induction L with
      | nil => rfl
      | cons a L ih => rw [List.map_cons, List.sum_cons, ih, cnt_cons, List.map_cons, List.sum_cons, List.map_cons, List.sum_cons]; omega
    rw [h, one_sum n L hL, cnt_sum L hL r, List.countP_cons]
    by_cases m : n ∈ L
    · rw [if_pos m, if_pos (decide_eq_true m)]; omega
    · rw [if_neg m, if_neg (by rw [decide_eq_false m]; decide)]; omega
theorem mem_abc (n : Nat) : n ∈ abcL ↔ isLow n = true := by
  unfold isLow
  rw [decide_eq_true_eq]
  constructor
  · intro h
    have : ∀ n ∈ abcL, 97 ≤ n ∧ n ≤ 122 := by decide
    exact this n h
  · intro h
    have : ∀ n, n < 123 → 97 ≤ n → n ∈ abcL := by decide
    exact this n (by omega) h.1
/-- all letters' counts together -/
def known (z : Str) (L : List Nat) : Int := (L.map fun c => Txt.count z ⟨#[c]⟩).sum
theorem known_eq (z : Str) : known z abcL = (z.cps.toList.countP isLow : Nat) := by
  unfold known
  have e : (abcL.map fun c => Txt.count z ⟨#[c]⟩) = abcL.map fun c => cnt c z.cps.toList := List.map_congr_left fun c _ => count_cnt z c
  rw [e, cnt_sum abcL (by decide)]
  congr 2
  funext n
  rw [Bool.eq_iff_iff, decide_eq_true_eq, mem_abc]
theorem due_eq (z : Str) : (decide (known z abcL = (z.cps.size : Int)) && (decide ((0 : Int) < known z abcL) && decide (known z abcL < 9))) = nameB z := by
  rw [known_eq]
  unfold nameB
  have hz : z.cps.size = z.cps.toList.length := by simp
  have hle := List.countP_le_length (p := isLow) (l := z.cps.toList)
  by_cases h : z.cps.toList.countP isLow = z.cps.toList.length
  · have ha : z.cps.toList.all isLow = true := by
      rw [List.all_eq_true]
      exact List.countP_eq_length.mp h
    rw [ha, h, hz]
    generalize z.cps.toList.length = n
    rw [Bool.and_true, decide_eq_true (show (n : Int) = (n : Int) from rfl), Bool.true_and]
    have e1 : decide ((0 : Int) < (n : Int)) = decide (1 ≤ n) := decide_eq_decide.mpr (by omega)
    have e2 : decide ((n : Int) < 9) = decide (n ≤ 8) := decide_eq_decide.mpr (by omega)
    rw [e1, e2]
  · have ha : z.cps.toList.all isLow = false := by
      rw [Bool.eq_false_iff]
      intro q
      rw [List.all_eq_true] at q
      exact h (List.countP_eq_length.mpr q)
    rw [ha, Bool.and_false, decide_eq_false (by omega), Bool.false_and]
theorem known_step (z : Str) {L : List Nat} {i c : Nat} (h : L[i]? = some c) : known z (L.take (i + 1)) = known z (L.take i) + Txt.count z ⟨#[c]⟩ := by
  unfold known
  have e : (L.map fun c => Txt.count z ⟨#[c]⟩)[i]? = some (Txt.count z ⟨#[c]⟩) := by rw [List.getElem?_map, h]; rfl
  rw [List.map_take, List.map_take, sum_take e]
end Mx

set_option maxRecDepth 100000
set_option maxHeartbeats 4000000
namespace Mx
open PySem PySem.Spec PyProof.Rows L2 Gx
/-! ### the order of texts -/
/-- a is not behind b -/
def leS (a b : Str) : Prop := ¬ b.cps.toList < a.cps.toList
theorem leS_iff (a b : Str) : leS a b ↔ ltCps b.cps.toList a.cps.toList = false := by
  rw [ltCps_eq, decide_eq_false_iff_not]
  exact Iff.rfl
theorem leS_anti {a b : Str} (h1 : leS a b) (h2 : leS b a) : a = b := by
  have e : a.cps.toList = b.cps.toList := List.le_antisymm (as := a.cps.toList) (bs := b.cps.toList) h1 h2
  cases a
  cases b
  simp only [Str.mk.injEq]
  exact Array.toList_inj.mp e
theorem leS_refl (a : Str) : leS a a := List.lt_irrefl _
theorem leS_trans {a b c : Str} (h1 : leS a b) (h2 : leS b c) : leS a c :=
  List.le_trans (l₁ := a.cps.toList) (l₂ := b.cps.toList) (l₃ := c.cps.toList) h1 h2
theorem leS_total (a b : Str) : leS a b ∨ leS b a := List.le_total a.cps.toList b.cps.toList
theorem risingS_iff : ∀ (l : List Str) (p : Str), risingS p l = true ↔ (p :: l).Pairwise leS
  | [], p => by simp [risingS]
  | x :: r, p => by
    rw [risingS, Bool.and_eq_true, risingS_iff r x, Bool.not_eq_true', ← leS_iff]
    constructor
    · rintro ⟨h1, h2⟩
      refine List.pairwise_cons.mpr ⟨fun y hy => ?_, h2⟩
      rcases List.mem_cons.mp hy with rfl | hy
      · exact h1
      · exact leS_trans h1 ((List.pairwise_cons.mp h2).1 y hy)
    · intro h
      obtain ⟨h1, h2⟩ := List.pairwise_cons.mp h
      exact ⟨h1 x (List.mem_cons_self ..), h2⟩
theorem sortedS_iff (l : List Str) : sortedS l = true ↔ l.Pairwise leS := by
  cases l with
  | nil => simp [sortedS]
  | cons x r => exact risingS_iff r x
theorem sortedS_unique {l m : List Str} (h : l.Perm m) (hl : sortedS l = true) (hm : sortedS m = true) : l = m :=
  List.Perm.eq_of_pairwise (fun _ _ _ _ => leS_anti) ((sortedS_iff l).mp hl) ((sortedS_iff m).mp hm) h
/-- a list of texts is what sorting makes of it just if it is sorted -/
theorem eq_sorted_iff {l m : List Str} (h : m.Perm l) (hm : sortedS m = true) : decide (l = m) = sortedS l := by
  cases e : sortedS l with
  | true => exact decide_eq_true (sortedS_unique h.symm e hm)
  | false => exact decide_eq_false fun q => by rw [q, hm] at e; cases e
/-! ### data of texts -/
def tD (xs : List Str) : List PyData := xs.map PyData.str
theorem eqv_texts : ∀ xs ys : List Str, PyData.eqvAll (tD xs) (tD ys) = decide (xs = ys)
  | [], [] => by simp [tD, PyData.eqvAll]
  | [], y :: ys => by simp [tD, PyData.eqvAll]
  | x :: xs, [] => by simp [tD, PyData.eqvAll]
  | x :: xs, y :: ys => by
    have ih := eqv_texts xs ys
    unfold tD at ih ⊢
    rw [List.map_cons, List.map_cons, PyData.eqvAll, ih, PyData.eqv]
    by_cases h : x = y
    · subst h
      by_cases h2 : xs = ys
      · subst h2
        simp
      · rw [decide_eq_false h2, Bool.and_false, decide_eq_false fun q => h2 (List.cons.inj q).2]
    · rw [decide_eq_false fun q => h (List.cons.inj q).1, beq_eq_false_iff_ne.mpr h, Bool.false_and]
theorem dp_texts {K : PySem.W.Frag} {H : Hp} : ∀ xs : List Str, DpAll K H (xs.map V.str) (tD xs)
  | [] => .nil
  | x :: xs => .cons (.str x) (dp_texts xs)
theorem canLay_texts : ∀ xs : List Str, (∀ x ∈ xs, PyData.strOk x = true) → PyData.canLayAll0 (tD xs) = true
  | [], _ => by simp [tD, PyData.canLayAll0]
  | x :: xs, h => by
    have ih := canLay_texts xs fun y hy => h y (List.mem_cons_of_mem _ hy)
    unfold tD at ih ⊢
    rw [List.map_cons, PyData.canLayAll0, ih, PyData.canLay0, h x (List.mem_cons_self ..)]
    rfl
theorem depth_texts : ∀ xs : List Str, PyData.depthAll (tD xs) ≤ 1
  | [] => by simp [tD, PyData.depthAll]
  | x :: xs => by
    have ih := depth_texts xs
    unfold tD at ih ⊢
    rw [List.map_cons, PyData.depthAll]
    simp only [PyData.depth]
    omega
theorem shaped_texts {xs : List Str} (h : ∀ x ∈ xs, PyData.strOk x = true) : SeqAt.shaped (.list (tD xs)) = true := by
  unfold SeqAt.shaped
  rw [Bool.and_eq_true]
  refine ⟨by simp only [PyData.canLay0]; exact canLay_texts xs h, decide_eq_true ?_⟩
  have := depth_texts xs
  simp only [PyData.depth]
  omega
theorem shaped_textsT {xs : List Str} (h : ∀ x ∈ xs, PyData.strOk x = true) : SeqAt.shaped (.tuple (tD xs)) = true := by
  unfold SeqAt.shaped
  rw [Bool.and_eq_true]
  refine ⟨by simp only [PyData.canLay0]; exact canLay_texts xs h, decide_eq_true ?_⟩
  have := depth_texts xs
  simp only [PyData.depth]
  omega
end Mx

set_option maxRecDepth 100000
set_option maxHeartbeats 4000000
namespace Gx
open PySem PySem.Spec PyProof.Rows L2 SeqAt
open AutoSeq1 (wpAny_loadPart')
/-! ### a dict is no tuple -/
theorem tup_eq_dict (l b : Addr) (items : Array Value) (n : Nat) (dd dd2 : Option Addr) (sl sl2 : Array (Option Value)) (d2 : Data) :
    Meets (Builtin.«tuple.__eq__» ⟨[.ref l, .ref b], []⟩) (fun _ R s => s.heap.get? l = some { cls := .type "tuple", dict := dd, data := .seq items n, slots := sl } ∧ s.heap.get? b = some { cls := .type "dict", dict := dd2, data := d2, slots := sl2 } ∧ R (.ok (.ret .notImplemented)) s) :=
  .of_wp fun prog w A R s h => by obtain ⟨hp, g, d, tk, os⟩ := s; obtain ⟨hl, hb, h⟩ := h; have f1 := F.sub_dict_tuple; wp_walk using wpAny_loadPart' hl, wpAny_loadPart' hb; exact ⟨_, rfl, h⟩
theorem dict_eq_tup {prog : Program} {w : World} {A : Around} {E : Value → Shared → Prop} {s : Shared} {Q : Value → Shared → Prop} {a b : Addr} (da : s.TypeIs (.ref a) "dict") (hb : s.TypeIs (.ref b) "tuple") (h : Q .notImplemented s) :
    wpAny (model prog w) A (call (.builtin "dict.__eq__") [.ref a, .ref b]) Q E s := by
  refine wpAny_call_entry PySem.F.slot_dict_eq da PySem.F.entry_dict_eq ?_ (PySem.F.args_dict_eq_2 _ _)
  show wpAny _ _ (Builtin.Dict.dictSlotArgs "__eq__" ⟨[.ref a, .ref b], []⟩ >>= _) _ _ s
  refine wpAny_bind ?_
  unfold Builtin.Dict.dictSlotArgs
  refine wpAny_bind (wpAny_notOrdered_dict da ?_)
  show wpAny _ _ (pure (Value.ref a, Value.ref b)) _ _ s
  refine wpAny_pure ?_
  refine wpAny_bind (wpAny_isInstance (T := "tuple") hb PySem.F.sub_tuple_dict ?_)
  simp only [Bool.not_false, if_true]
  exact wpAny_bind (wpAny_rule (wpAny_bind (wpAny_pure (wpAny_pure ⟨_, rfl, h⟩))))
section
variable {A : Around} {s : Shared}
theorem eqAt_tup_dict {l b : Addr} {items : Array Value} {ob : Obj} (hl : s.heap.IsTuple l items) (hb : s.heap.get? b = some ob) (hcb : ob.cls = .type "dict") (hu : A.units < cLine) : EqAt A s (.ref l) (.ref b) false := by
  obtain ⟨⟨cls, dd, data, sl⟩, ho, hc, n, hd⟩ := id hl
  simp only at hc hd
  subst hc hd
  obtain ⟨cls2, dd2, data2, sl2⟩ := ob
  simp only at hcb
  subst hcb
  have hne : l ≠ b := fun e => by
    subst e
    rw [ho] at hb
    exact absurd (congrArg Obj.cls (Option.some.inj hb)) (by simp)
  refine .of_refs hne fun prog w E Q h => ?_
  exact rc_eq_decline_or (k := false) ⟨_, ho, rfl⟩ ⟨_, hb, rfl⟩ (by decide) F.sub_dict_tuple F.slot_tuple_eq F.slot_dict_eq_refl
    (fun _ hq => call_meets F.slot_tuple_eq ⟨_, ho, rfl⟩ F.entry_tuple_eq (F.args_tuple_eq_2 _ _) (tup_eq_dict l b items n dd dd2 sl sl2 data2) ⟨ho, hb, hq⟩)
    (fun _ hq => dict_eq_tup ⟨_, hb, rfl⟩ ⟨_, ho, rfl⟩ hq)
    (fun _ hq => wpAny_isSame_ref_other' hne ho hb (by simp) hq) (.inr hu) h
end
section
variable {X : Cx}
/-- x in a list, data that are not deep -/
def rInF (K : PySem.W.Frag) : R2 := fun x y H Q => ∃ d ds, Dp K H x d ∧ Dp K H y (.list ds) ∧ d.canLay0 = true ∧ PyData.canLayAll0 ds = true ∧ d.depth ≤ 10 ∧ Q (.bl (ds.any fun z => PyData.eqv z d)) H
theorem op_inF (hu : X.A.units + 64 < cLine) : OpR X (compareOp .In) (rInF X.K) := by
  intro pins s σ H x y v u Q I rx ry h
  obtain ⟨d, ds, hd, he, sd, se, dp, q⟩ := h
  obtain ⟨as, r1⟩ := Dp.reads I d x v hd rx
  obtain ⟨bs, r2⟩ := Dp.reads I (.list ds) y u he ry
  exact SeqAt.in_list_reads r2 r1 se sd (by omega) ⟨.bl _, H, I, rfl, q⟩
/-- a dict in a list of tuples: it is not in it -/
def rInDict (K : PySem.W.Frag) : R2 := fun x y H Q => ∃ (a l : Addr) (kvs : List (Key × V)) (ps : List Addr), x = .ref a ∧ H a = some (.dK kvs) ∧ y = .ref l ∧ SqL K H l (ps.map V.ref) ∧ (∀ p ∈ ps, ∃ xs, SqT K H p xs) ∧ Q (.bl false) H
theorem op_inDict (hu : X.A.units + 64 < cLine) : OpR X (compareOp .In) (rInDict X.K) := by
  intro pins s σ H x y v u Q I rx ry h
  obtain ⟨a, l, kvs, ps, rfl, ea, rfl, hl, hp, q⟩ := h
  cases rx
  cases ry
  obtain ⟨its, rv, pl, hz⟩ := I.list hl
  have ei := refs_at rv
  subst ei
  obtain ⟨_, _, vs, _, hd⟩ := dk_of I.hok ea
  obtain ⟨ob, hb, hD⟩ := Heap.dictOf_iff.mp hd
  have hcb : ob.cls = .type "dict" := by
    obtain ⟨es, ep, ex, _⟩ := hD
    exact ex.1
  refine SeqAt.in_listAt (fun _ => false) pl.isList (fun y hy => ?_) ⟨.bl false, H, I, ?_, q⟩
  · rw [List.mem_toArray] at hy
    obtain ⟨p, hpm, rfl⟩ := List.mem_map.mp hy
    obtain ⟨xs, hx⟩ := hp p hpm
    obtain ⟨its2, _, ht, _⟩ := I.tuple hx
    exact eqAt_tup_dict ht hb hcb (by show X.A.units + 1 < cLine; omega)
  · show Value.bool _ = Value.bool false
    rw [Array.any_eq_false' |>.mpr (fun _ _ => by simp)]
end
end Gx

set_option maxRecDepth 100000
set_option maxHeartbeats 4000000
/-! own errors over a built-in error that takes another's maker (KeyError takes LookupError's) -/
namespace Gx
open PySem PySem.Spec PySem.Calls Builtin
/-- what making asks of the chain -/
structure Chn (B : String) (bm : List Value) : Prop where
  own : bm.contains (.type B) = true
  att : bm.contains (.type "AttributeError") = false
  nam : bm.contains (.type "NameError") = false
section
variable {M : Model} {prog : Program} {w : World} {A : Around} {E : Value → Shared → Prop} {R : Result → Shared → Prop} {hp : Heap} {gn : Array GenState} {dr : Drawn} {tk : Nat} {os : OsState}
variable {nm q : Str} {C N : Addr} {bs bm bmB : List Value} {hdct : Bool} {sn : List Str} {sub : List Value} {ab : Bool} {col : Option Bool} {dd : Option Addr} {k0 k1 k2 k3 k5 : Option Value} {B mk ini : String}
theorem kx_check (F : ExcBaseFacts B mk ini bmB) (ch : Chn B bm) {us : List Value} {Q : Unit → Shared → Prop} (cc : hp.get? C = some (excClassObj nm q C N bs bm hdct sn sub ab col dd k0 k1 k2 k3 k5 mk)) (hq : Q () ⟨hp, gn, dr, tk, os⟩) :
    wpAny M A (checkBuiltinCall mk ⟨.ref C :: us, []⟩) Q E ⟨hp, gn, dr, tk, os⟩ := by
  have c1 : (Value.ref C :: bm).contains (.type B) = true := by rw [List.contains_cons, ch.own, Bool.or_true]
  have st := F.noStar
  simp only [F.newRow, F.newSplit, F.newKind, checkBuiltinCall]
  repeat (first | refine wpAny_loadPart_at cc ?_ | (refine wpAny_isSubtype_exc cc ?_; rw [c1]) | refine wpAny_staticBase_exc cc ?_ | refine wpAny_madeBy_exc cc ?_ | simp only [bne_self_eq_false, Bool.false_eq_true, if_false] | wp_step)
  exact hq
theorem kx_new (F : ExcBaseFacts B mk ini bmB) (ch : Chn B bm) {us : List Value} (cc : hp.get? C = some (excClassObj nm q C N bs bm hdct sn sub ab col dd k0 k1 k2 k3 k5 mk))
    (hq : R (.ok (.ret (.ref (hp.objs.size + 1)))) ⟨(hp.push (W.kdv_tup us)).push (W.excObj C hp.objs.size none .none), gn, dr, tk, os⟩) (hz : us.length ≤ sizeLine) :
    codeAny (model prog w) A (.builtin mk ⟨.ref C :: us, []⟩) R ⟨hp, gn, dr, tk, os⟩ := by
  have fe := F.ends
  have c1 : (Value.ref C :: bm).contains (.type B) = true := by rw [List.contains_cons, ch.own, Bool.or_true]
  have c2 : (Value.ref C :: bm).contains (.type "AttributeError") = false := by rw [List.contains_cons, ch.att]; rfl
  have c3 : (Value.ref C :: bm).contains (.type "NameError") = false := by rw [List.contains_cons, ch.nam]; rfl
  refine codeAny_builtinAt F.entry ?_
  unfold Builtin.«BaseException.__new__»
  refine wpAt_bind ?_
  show wpAt _ _ _ (stack >>= _) _ _ _
  refine wpAt_bind (wpAt_stack fun p0 low => wpAt_of_wpAny ?_)
  wp_walk
  refine wpAt_of_wpAny ?_
  rw [F.owner]
  repeat (first | with_reducible refine wpAny_madeHere_exc F.canon cc ?_ | with_reducible refine wpAny_loadPart_at cc ?_ | (with_reducible refine wpAny_isSubtype_exc cc ?_; first | rw [c1] | rw [c2] | rw [c3]) | wp_step)
  show R _ _
  rw [Heap.size_push]
  exact hq
theorem kx_type (F : ExcBaseFacts B mk ini bmB) (ch : Chn B bm) {us : List Value} {fI : Addr} {Q : Fin → Shared → Prop} (cc : hp.get? C = some (excClassObj nm q C N bs bm hdct sn sub ab col dd k0 k1 k2 k3 k5 mk))
    (li : W.Looks (model prog w) hp (typeLookup (.ref C) "__init__") (some (.ref fI))) (lb : ∀ o, W.Looks (model prog w) hp (bindSpecial (.ref fI) o) (.ref fI, [o])) (hz : us.length ≤ sizeLine)
    (hq : codeAny (model prog w) A (.call (.ref fI) ⟨.ref (hp.objs.size + 1) :: us, []⟩)
      (fun r s' => match r with | .ok (.ret v) => v = .none ∧ Q (.done (.ret (.ref (hp.objs.size + 1)))) s' | .ok _ => False | .error e => E e s')
      ⟨(hp.push (W.kdv_tup us)).push (W.excObj C hp.objs.size none .none), gn, dr, tk, os⟩) : wpAny (model prog w) A (Builtin.«type.__call__» ⟨.ref C :: us, []⟩) Q E ⟨hp, gn, dr, tk, os⟩ := by
  repeat (first | with_reducible refine wpAny_loadPart_at cc ?_ | with_reducible refine wpAny_madeBy_exc cc ?_ | wp_step)
  refine codeAny_call_builtin_code (Code.quiet_builtin _ F.quiet) (kx_check F ch cc ?_)
  refine kx_new F ch cc ?_ hz
  show wpAny _ _ _ _ _ _
  have old : ∀ b o, hp.get? b = some o → ((hp.push (W.kdv_tup us)).push (W.excObj C hp.objs.size none .none)).get? b = some o := fun b o e => Heap.get?_push_of_some _ (Heap.get?_push_of_some _ e)
  have cc1 := old _ _ cc
  have ne : ((hp.push (W.kdv_tup us)).push (W.excObj C hp.objs.size none .none)).get? (hp.objs.size + 1) = some (W.excObj C hp.objs.size none .none) := by heap_get
  have cs : (Value.ref C :: bm).contains (.ref C) = true := by simp
  have li1 := li.keeps old
  have lb1 := (lb (.ref (hp.objs.size + 1))).keeps old
  unfold isInstance
  repeat (first | with_reducible refine wpAny_loadPart_at ne ?_ | (with_reducible refine wpAny_isSubtype_exc cc1 ?_; rw [cs]) | wp_step)
  show wpAny _ _ (typeLookup (.ref C) _) _ _ _
  refine li1.at ?_
  refine wpAny_holding (wpAny_bind (lb1.at ?_))
  refine wpAny_bind (wpAny_call (codeAny_mono hq fun r s1 z => ?_))
  rcases r with e | (v | _ | _ | _) <;> first | exact z | exact z.elim | skip
  obtain ⟨rfl, z⟩ := z
  first | exact wpAny_pure (wpAny_pure z) | (wp_walk; exact z)
theorem kx_call (F : ExcBaseFacts B mk ini bmB) (ch : Chn B bm) {us : List Value} {fI : Addr} (cc : hp.get? C = some (excClassObj nm q C N bs bm hdct sn sub ab col dd k0 k1 k2 k3 k5 mk))
    (li : W.Looks (model prog w) hp (typeLookup (.ref C) "__init__") (some (.ref fI))) (lb : ∀ o, W.Looks (model prog w) hp (bindSpecial (.ref fI) o) (.ref fI, [o])) (hz : us.length ≤ sizeLine)
    (hq : codeAny (model prog w) (A.under (.builtin "type.__call__" ⟨.ref C :: us, []⟩)) (.call (.ref fI) ⟨.ref (hp.objs.size + 1) :: us, []⟩) (W.InitBack (hp.objs.size + 1) R)
      ⟨(hp.push (W.kdv_tup us)).push (W.excObj C hp.objs.size none .none), gn, dr, tk, os⟩) : codeAny (model prog w) A (.call (.ref C) ⟨us, []⟩) R ⟨hp, gn, dr, tk, os⟩ := by
  have t1 := tc_lookup
  have t2 := tc_bind (.ref C)
  have t3 : (⟨hp, gn, dr, tk, os⟩ : Shared).TypeIs (.ref C) "type" := ⟨_, cc, rfl⟩
  refine codeAny_of_tree ?_
  show wpAny _ _ (callAny (.ref C) _) _ _ _
  repeat (any_goals (first | assumption | with_reducible refine wpAny_loadPart_at cc ?_ | wp_step))
  refine ⟨rfl, ?_⟩
  refine codeAny_call_builtin_at (Code.quiet_builtin _ (by decide +kernel)) entry_typeCall (wpAny_check_type_call_sub cc (kx_type F ch cc li lb hz ?_))
  refine codeAny_mono hq fun r s1 z => ?_
  rcases r with e | (v | _ | _ | _) <;> exact z
end
end Gx
namespace Gx
open PySem PySem.Spec PySem.W PySem.Calls PyProof.Rows L2
/-! ### own errors with one field, made, over any base -/
/-- a base: the maker's facts, and what each chain over it holds -/
structure XBase (B mk ini : String) (bmF bmB : List Value) : Prop where
  F : ExcBaseFacts B mk ini bmF
  ch : ∀ bm : List Value, excTail bmB bm = true → Chn B bm
theorem xbase_of {B mk ini : String} {bmB : List Value} (F : ExcBaseFacts B mk ini bmB) : XBase B mk ini bmB bmB :=
  ⟨F, fun bm t => ⟨by rw [excTail_contains _ bm t]; exact F.hasB, by rw [excTail_contains _ bm t]; exact F.noAttr, by rw [excTail_contains _ bm t]; exact F.noName⟩⟩
abbrev bmKey : List Value := [.type "KeyError", .type "LookupError", .type "Exception", .type "BaseException", .type "object"]
theorem xbase_KeyError : XBase "LookupError" "LookupError.__new__" "LookupError.__init__" [.type "LookupError", .type "Exception", .type "BaseException", .type "object"] bmKey :=
  ⟨PySem.F.excBase_LookupError, fun bm t => ⟨by rw [excTail_contains _ bm t]; decide +kernel, by rw [excTail_contains _ bm t]; decide +kernel, by rw [excTail_contains _ bm t]; decide +kernel⟩⟩
section
variable {prog : Program} {w : World} {A : Around} {R : Result → Shared → Prop} {s : Shared} {K : Frag} {mg : Str → Option Value} {C fI : Addr} {cn fld : Str} {B mk ini : String} {bmF bmB : List Value}
theorem x_madeC (FB : XBase B mk ini bmF bmB) (T : XTxt K mg cn fld mk bmB C fI) (D : InitDoes K C fI fld) {v : Value} (inK : K.In s.heap) (lim : s.heap.NoLimit) (room : A.depth + 1 < recursionLimit)
    (hq : ∀ h' tk e d, XMade s.heap h' e C d fld v → R (.ok (.ret (.ref e))) { s with heap := h', toks := tk }) : codeAny (model prog w) A (.call (.ref C) ⟨[v], []⟩) R s := by
  obtain ⟨nm, q, N, bs, bm, sn, sub, ab, col, dd, k0, k1, k2, k3, k5, hC, tail⟩ := T.cls
  obtain ⟨hp, g, dr, tk, os⟩ := s
  have stay : ∀ b o, hp.get? b = some o → ((hp.push (kdv_tup [v])).push (excObj C hp.objs.size none .none)).get? b = some o := fun b o e => Heap.get?_push_of_some _ (Heap.get?_push_of_some _ e)
  have there : ((hp.push (kdv_tup [v])).push (excObj C hp.objs.size none .none)).get? (hp.objs.size + 1) = some (excObj C hp.objs.size none .none) := by heap_get
  have fresh : K.lookup (hp.objs.size + 1) = none := by
    cases e : K.lookup (hp.objs.size + 1) with
    | none => rfl
    | some o => exact absurd (Nat.lt_of_succ_lt (Heap.lt_size (inK _ _ e))) (Nat.lt_irrefl _)
  refine kx_call FB.F (FB.ch bm tail) (inK _ _ hC) (looks_findIn inK T.iC) (fun self => bind_fn inK self T.tC) (one_line v) ?_
  refine D prog w _ _ ⟨(hp.push (kdv_tup [v])).push (excObj C hp.objs.size none .none), g, dr, tk, os⟩ _ _ v (inK.keeps stay) (lim.keeps stay) there fresh room fun h' tk' dx M => ?_
  have old : ∀ b o, hp.get? b = some o → h'.get? b = some o := fun b o e => M.keep b o (Nat.ne_of_lt (Nat.lt_succ_of_lt (Heap.lt_size e))) (stay b o e)
  have z : hp.objs.size + 1 + 1 ≤ dx := by
    have q := M.big
    first
      | exact q
      | simpa only [Heap.size_push] using q
  exact ⟨rfl, hq h' tk' (hp.objs.size + 1) dx ⟨old, Nat.le_succ _, ⟨_, _, M.obj, rfl, rfl, rfl, rfl⟩, Nat.le_trans (Nat.le_trans (Nat.le_succ _) (Nat.le_succ _)) z, M.ne, M.ns⟩⟩
end
/-! ### errors as values -/
/-- the error at e, of the class C, its dict at d -/
def ExV (C e : Addr) (d : Option Addr) : HO := .ext fun h => ∃ (oe : Obj) (vs : Array Value), h.get? e = some oe ∧ oe.cls = .ref C ∧ oe.dict = d ∧ oe.data = .fields vs
theorem exV_ok {P : Program} {w : World} {H : Hp} {h : Heap} {C e : Addr} {d : Option Addr} {oe : Obj} {vs : Array Value} (he : h.get? e = some oe) (hc : oe.cls = .ref C) (hd : oe.dict = d) (hf : oe.data = .fields vs) : ObjOk P w H h e (ExV C e d) :=
  ⟨⟨oe, vs, he, hc, hd, hf⟩, ⟨oe, he⟩, fun h1 h2 ⟨o, us, a, b, c, f⟩ k => ⟨o, us, k _ a, b, c, f⟩⟩
theorem exV_at {P : Program} {w : World} {H : Hp} {h : Heap} {C e : Addr} {d : Option Addr} (ok : HOk P w H h) (he : H e = some (ExV C e d)) : ∃ (oe : Obj) (vs : Array Value), h.get? e = some oe ∧ oe.cls = .ref C ∧ oe.dict = d ∧ oe.data = .fields vs :=
  (show ObjOk P w H h e (ExV C e d) from ok e _ he).1
section
variable {X : Cx} {C fI : Addr} {cn fld : Str} {B mk ini : String} {bmF bmB : List Value}
/-- cn(e), the error kept -/
def tMkV (C : Addr) (fld : Str) (ta : TA) : TE := fun σ H Q => ta σ H fun vs H1 => ∃ v, vs = [v] ∧ ∀ d e, H1 d = none → H1 e = none → e ≠ d → Q (.ref e) (upd (upd H1 d (.xd [(fld, v)])) e (ExV C e (some d)))
theorem pe_mkV {a : Expr} {ta : TA} {p pos : Pos} {k : Nat} (FB : XBase B mk ini bmF bmB) (T : XTxt X.K X.mg cn fld mk bmB C fI) (D : InitDoes X.K C fI fld) (room : Room k X.A) (ha : PA X [a] ta) (hg : Gl X cn)
    (hdb : (cn == ("__debug__" : Str)) = false := by decide) (hst : starEach (a :: []) X.env = (false, eval a X.env) :: starEach [] X.env := by rfl) (hpl : (backTo pos (starEach [] X.env)).any (·.1) = false := by rfl) :
    PE X (.Call (.Name cn p) [a] [] pos) (tMkV C fld ta) := by
  refine ⟨fun pins s σ H Q I h => ?_⟩
  refine wpAny_Call_Name_kw (ld_glob I hg T.gC ?_ hdb)
  refine PySem.W.callWith_K (h₀ := X.base) I.ok.mod.kin T.kC (thn (ha.run pos pins s σ H _ I h) ?_) hst hpl
  rintro us s1 ⟨vs, H1, I1, r1, v, rfl, q1⟩
  refine ⟨I1.kIn, ?_⟩
  obtain ⟨u, rfl, rv⟩ := vals1 r1
  show wpAny _ _ (call (.ref C) [u]) _ _ _
  have lim := I1.nolimit
  obtain ⟨hp, g, dr, tk, os⟩ := s1
  refine wpAny_call (x_madeC FB T D I1.kIn lim (by have := room.dp; omega) fun h' tk' e d M => ?_)
  obtain ⟨oe, fv, hoe, hc, hd, hdat, h1⟩ := M.obj
  obtain ⟨G', g1, g2⟩ := restrict h' fun b => decide (b ≠ e)
  have off : ∀ b, b ≠ e → G'.get? b = h'.get? b := fun b hb => g1 b (decide_eq_true hb)
  have gone : G'.get? e = none := g2 e (by simp)
  have old : ∀ b o, hp.get? b = some o → G'.get? b = some o := fun b o q => (off b (Nat.ne_of_lt (Nat.lt_of_lt_of_le (Heap.lt_size q) M.new))).trans (M.keep b o q)
  have ob : ObjOk X.prog X.w (upd H1 d (.xd [(fld, v)])) G' d (.xd [(fld, v)]) := ⟨_, M.ns.at (fun o q => (off d M.ne).trans q), fun f => relO_one rv f⟩
  have J : Inv X pins σ (upd H1 d (.xd [(fld, v)])) ⟨G', g, dr, tk', os⟩ := I1.laid (t' := tk') old M.big ob
  have ne0 : H1 e = none := I1.hok.fresh M.new
  have J2 := J.laidN (h' := h') (t' := tk') (o := ExV C e (some d)) (fun b o q => by
    by_cases hb : b = e
    · have q' : G'.get? b = some o := q
      rw [hb, gone] at q'
      cases q'
    · exact (off b hb).symm.trans q) gone (by rw [upd_ne (Ne.symm M.ne)]; exact ne0) (exV_ok hoe hc hd hdat)
  exact ⟨.ref e, _, J2, rfl, q1 d e (I1.hok.fresh M.big) ne0 (Ne.symm M.ne)⟩
end
end Gx

set_option maxRecDepth 100000
set_option maxHeartbeats 4000000
namespace Gx
open PySem PySem.Spec PySem.W PySem.Calls PyProof.Rows L2
/-! ### own errors without an __init__ of their own, as values -/
/-- what the written part says of such a class -/
structure XPln (K : Frag) (mg : Str → Option Value) (cn : Str) (mk ini : String) (bmB : List Value) (C : Addr) : Prop where
  gC : mg cn = some (.ref C)
  cls : ∃ nm q N bs bm hd sn sub ab col dd k0 k1 k2 k3 k5, K.lookup C = some (excClassObj nm q C N bs bm hd sn sub ab col dd k0 k1 k2 k3 k5 mk) ∧ excTail bmB bm = true
  iC : findIn K (.ref C) "__init__" = some (some (.builtin ini))
  kC : keepIn K (.ref C) = true
/-- .. of any own class of errors, for isinstance -/
structure XCls (K : Frag) (C : Addr) : Prop where
  isC : isClsIn K C = true
  ga : findIn K (.ref C) "__getattribute__" = some (some (.builtin "BaseException.__getattribute__"))
  gg : findIn K (.ref C) "__getattr__" = some none
  ex : subIn K (.ref C) (.type "BaseException") = some true
  cl : findIn K (.ref C) "__class__" = some (some (.builtin "object.__class__"))
  sp : specialIn K (.builtin "object.__class__") "__get__" = some (some (.builtin "getset_descriptor.__get__"))
  ta : takesIn K (.builtin "object.__class__") = some true
  ob : mroIn K C (.type "object") = some true
section
variable {X : Cx} {C : Addr} {cn : Str} {B mk ini : String} {bmB : List Value}
def tMkP (C : Addr) (ta : TA) : TE := fun σ H Q => ta σ H fun vs H1 => vs.length ≤ 1000 ∧ ∀ e, H1 e = none → Q (.ref e) (upd H1 e (ExV C e none))
theorem pe_mkP {a : Expr} {ta : TA} {p pos : Pos} (F : ExcBaseFacts B mk ini bmB) (T : XPln X.K X.mg cn mk ini bmB C) (ha : PA X [a] ta) (hg : Gl X cn)
    (hdb : (cn == ("__debug__" : Str)) = false := by decide) (hst : starEach (a :: []) X.env = (false, eval a X.env) :: starEach [] X.env := by rfl) (hpl : (backTo pos (starEach [] X.env)).any (·.1) = false := by rfl) :
    PE X (.Call (.Name cn p) [a] [] pos) (tMkP C ta) := by
  refine ⟨fun pins s σ H Q I h => ?_⟩
  refine wpAny_Call_Name_kw (ld_glob I hg T.gC ?_ hdb)
  refine PySem.W.callWith_K (h₀ := X.base) I.ok.mod.kin T.kC (thn (ha.run pos pins s σ H _ I h) ?_) hst hpl
  rintro us s1 ⟨vs, H1, I1, r1, hz, q1⟩
  refine ⟨I1.kIn, ?_⟩
  obtain ⟨nm, q, N, bs, bm, hd, sn, sub, ab, col, dd, k0, k1, k2, k3, k5, hC, tail⟩ := T.cls
  have hl : us.length ≤ sizeLine := by
    rw [← r1.length]
    exact Nat.le_trans hz (by decide)
  obtain ⟨hp, g, dr, tk, os⟩ := s1
  refine PySem.W.call_B F (fun Y => excTail_contains Y bm tail) (I1.kIn _ _ hC) (looks_findIn I1.kIn T.iC) hl fun h' k he ht => ?_
  have fr := I1.hok.fresh (Nat.le_succ hp.objs.size)
  exact ⟨.ref (hp.objs.size + 1), _, I1.laid (t' := tk) k (Nat.le_succ _) (exV_ok he rfl rfl rfl), rfl, q1 _ fr⟩
end
/-- the error at e stands, with its dict if it has one -/
def ExAt (H : Hp) (e C : Addr) (d : Option Addr) (fs : List (Str × V)) : Prop := H e = some (ExV C e d) ∧ ∀ dd, d = some dd → H dd = some (.xd fs)
section
variable {X : Cx} {pins : List (Addr × Obj)} {σ : L2.St} {H : Hp} {s : Shared}
theorem exAt_inst {e C : Addr} {d : Option Addr} {fs : List (Str × V)} (I : Inv X pins σ H s) (h : ExAt H e C d fs) : ∃ (oe : Obj) (od : Option Obj), PySem.W.InstAt s.heap e oe C od := by
  obtain ⟨h1, h2⟩ := h
  obtain ⟨oe, vs, he, hc, hd, hf⟩ := exV_at I.hok h1
  have nc : PySem.W.notCls oe = true := by unfold PySem.W.notCls; rw [hf] <;> rfl
  cases d with
  | none => exact ⟨oe, none, he, hc, nc, by rw [hd]; trivial⟩
  | some dd =>
    obtain ⟨mA, hns, _⟩ := (show ObjOk X.prog X.w H s.heap dd (.xd fs) from I.hok dd _ (h2 dd rfl))
    obtain ⟨od, ho, _⟩ := lookIn_ns hns
    exact ⟨oe, some od, he, hc, nc, by rw [hd]; exact ho⟩
end
/-- isinstance(e, c), e an own error -/
def rIsV (K : PySem.W.Frag) : List V → Hp → VK → Prop := fun xs H Q => ∃ (e C : Addr) (d : Option Addr) (fs : List (Str × V)) (c : V) (u : Value) (b : Bool), xs = [.ref e, c] ∧ ExAt H e C d fs ∧ XCls K C ∧ ClsV c u ∧ PySem.W.kitOne K (.ref C) u = some b ∧ Q (.bl b) H
section
variable {X : Cx}
theorem call_isV : CallR X (.builtin "isinstance") (rIsV X.K) := by
  intro pins s σ H xs us Q I r h
  obtain ⟨e, C, d, fs, c, u, b, rfl, hx, T, k, hb, q⟩ := h
  obtain ⟨u1, u2, rfl, r1, r2⟩ := vals2 r
  have e2 := k.eq r2
  subst e2
  cases (show u1 = Value.ref e from r1)
  obtain ⟨oe, od, J⟩ := exAt_inst I hx
  exact PySem.W.kia_one (PySem.W.kitx_exc (ox := oe) (od := od) T.isC T.ga T.gg T.ex T.cl T.sp T.ta T.ob) I.kIn J hb (fun z => nomatch z) fun tk => ⟨.bl b, H, I.tok tk, rfl, q⟩
/-- e.fld, e an own error with that field -/
def tGetV (C : Addr) (fld : Str) (te : TE) : TE := fun σ H Q => te σ H fun x H1 => ∃ (e dd : Addr) (v : V), x = .ref e ∧ ExAt H1 e C (some dd) [(fld, v)] ∧ Q v H1
theorem pe_getV {C fI : Addr} {cn fld : Str} {mk : String} {bmB : List Value} {e : Expr} {te : TE} {pos : Pos} (T : XTxt X.K X.mg cn fld mk bmB C fI) (he : PE X e te)
    (hb : attributeBase e fld X.env (eval e X.env) = eval e X.env := by rfl) : PE X (.Attribute e fld pos) (tGetV C fld te) := by
  constructor
  intro pins s σ H Q I h
  refine attr_of hb (thn (he.run pins s σ H _ I h) ?_)
  rintro u s1 ⟨x, H1, I1, rx, e1, dd, v, rfl, ⟨h1, h2⟩, q⟩
  obtain rfl : u = Value.ref e1 := rx
  obtain ⟨oe, vs, here, hc, hd, hf⟩ := exV_at I1.hok h1
  obtain ⟨mA, hns, hr⟩ := (show ObjOk X.prog X.w H1 s1.heap dd (.xd [(fld, v)]) from I1.hok dd _ (h2 dd rfl))
  obtain ⟨od, ho, hl⟩ := lookIn_ns hns
  have l : List.lookup fld [(fld, v)] = some v := by simp [List.lookup]
  have hrf := hr fld
  rw [l] at hrf
  obtain ⟨u, hu, ru⟩ := RelO.some_of (v := v) (o := mA fld) hrf
  have J : PySem.W.InstAt s1.heap e1 oe C (some od) := ⟨here, hc, by unfold PySem.W.notCls; rw [hf] <;> rfl, by rw [hd]; exact ho⟩
  exact HandSPX.exc_get I1.kIn J T.ga T.gg T.exC (PySem.W.findObj_own T.hdC T.noN rfl (by rw [hl, hu])) (handed_of ru) ⟨v, H1, I1.tok _, ru, q⟩
end
end Gx

set_option maxRecDepth 100000
set_option maxHeartbeats 4000000
namespace Gx
open PySem PySem.Spec PySem.W PySem.Calls PyProof.Rows L2
/-! ### stores over KeyError -/
theorem store_KeyErr : StoreFacts "KeyError" bmKey "object.__setattr__" "object" := by
  constructor
  case mro => kernel_rfl
  case slot => exact .of (owner := "object") (n := "__setattr__") (by rw [typeLookup_type, builtinLookup_eq_fast]; kernel_rfl) (by decide +kernel) (by decide +kernel) (by decide +kernel) (.inl (by decide +kernel)) (by rw [isSubtype_type]; kernel_rfl)
  case entry => exact PySem.F.store_LookupError.entry
  case kind => decide +kernel
  case split => decide +kernel
  case hasOwner => decide +kernel
  case args => exact fun a b c => PySem.F.store_LookupError.args a b c
  case passes => exact fun o => by kernel_rfl
/-! ### the table of all errors: who is derived from whom -/
def subC (i j : Nat) : Bool := i == j || (j == 0 && decide (i ≤ 11))
def BS : List String := ["ValueError", "KeyError", "IndexError", "LookupError", "RuntimeError", "OverflowError", "ArithmeticError"]
def subB (i : Nat) (b : String) : Bool :=
  if b = "ValueError" then decide (i ≤ 11) else if b = "KeyError" then i == 12 || i == 13 else if b = "IndexError" then i == 15
  else if b = "LookupError" then decide (12 ≤ i) && decide (i ≤ 15) else if b = "RuntimeError" then i == 16 else if b = "OverflowError" then i == 17 else decide (17 ≤ i)
def xclsB (K : Frag) (C : Addr) : Bool :=
  isClsIn K C && (decide (findIn K (.ref C) "__getattribute__" = some (some (.builtin "BaseException.__getattribute__"))) && (decide (findIn K (.ref C) "__getattr__" = some none) && (decide (subIn K (.ref C) (.type "BaseException") = some true) &&
    (decide (findIn K (.ref C) "__class__" = some (some (.builtin "object.__class__"))) && (decide (specialIn K (.builtin "object.__class__") "__get__" = some (some (.builtin "getset_descriptor.__get__"))) &&
    (decide (takesIn K (.builtin "object.__class__") = some true) && decide (mroIn K C (.type "object") = some true)))))))
theorem xclsB_ok {K : Frag} {C : Addr} (h : xclsB K C = true) : XCls K C := by
  unfold xclsB at h
  simp only [Bool.and_eq_true, decide_eq_true_eq] at h
  obtain ⟨a, b, c, d, e, f, g, i⟩ := h
  exact ⟨a, b, c, d, e, f, g, i⟩
def tabB (K : Frag) (cs : List Addr) : Bool := (List.range 20).all fun i => xclsB K (cs.getD i 0) && (((List.range 20).all fun j => decide (kitOne K (.ref (cs.getD i 0)) (.ref (cs.getD j 0)) = some (subC i j))) && (BS.all fun b => decide (kitOne K (.ref (cs.getD i 0)) (.type b) = some (subB i b))))
theorem getD_range (c : Nat → Addr) {i : Nat} (h : i < 20) : ((List.range 20).map c).getD i 0 = c i := by
  rw [List.getD_eq_getElem?_getD, List.getElem?_map, List.getElem?_range h]
  rfl
section
variable {K : Frag} {c : Nat → Addr} (t : tabB K ((List.range 20).map c) = true) {i : Nat} (hi : i < 20)
include t hi
theorem tab_at : xclsB K (c i) = true ∧ (∀ j, j < 20 → kitOne K (.ref (c i)) (.ref (c j)) = some (subC i j)) ∧ ∀ b ∈ BS, kitOne K (.ref (c i)) (.type b) = some (subB i b) := by
  unfold tabB at t
  have h := List.all_eq_true.mp t i (List.mem_range.mpr hi)
  simp only [Bool.and_eq_true, List.all_eq_true, decide_eq_true_eq, List.mem_range] at h
  rw [getD_range c hi] at h
  refine ⟨h.1, fun j hj => ?_, fun b hb => h.2.2 b hb⟩
  have := h.2.1 j hj
  rw [getD_range c hj] at this
  exact this
theorem tab_cls : XCls K (c i) := xclsB_ok (tab_at t hi).1
theorem tab_own {j : Nat} (hj : j < 20) : kitOne K (.ref (c i)) (.ref (c j)) = some (subC i j) := (tab_at t hi).2.1 j hj
theorem tab_blt {b : String} (hb : b ∈ BS) : kitOne K (.ref (c i)) (.type b) = some (subB i b) := (tab_at t hi).2.2 b hb
end
end Gx

set_option maxRecDepth 100000
set_option maxHeartbeats 4000000
namespace Gx
open PySem PySem.Spec PySem.W PySem.Calls PyProof.Rows L2
/-- an own class of errors is caught by its own name -/
theorem exm_own {K : PySem.W.Frag} {S : Addr} (b : PySem.W.subIn K (.ref S) (.type "BaseException") = some true) (i : PySem.W.isClsIn K S = true) (t : PySem.W.typeIn K (.ref S) = some (.type "type")) (s : PySem.W.subIn K (.ref S) (.ref S) = some true) : PySem.W.exmOne K (.ref S) (.ref S) = some true := by
  have i' : (PySem.W.clsIn K S).isSome = true := i
  unfold PySem.W.exmOne PySem.W.kitCls
  simp [b, i', t, s]
section
variable {X : Cx} {C : Addr} {cn : Str} {B mk ini : String} {bmB : List Value}
/-- raise cn(a), an own error without an __init__ of its own -/
def tMkR (C : Addr) (ta : TA) : L2.St → Hp → XK → Prop := fun σ H Q => ta σ H fun vs H1 => vs.length ≤ 1000 ∧ Q (.ref C) none H1
theorem pmk_P {a : Expr} {ta : TA} {p pos : Pos} (F : ExcBaseFacts B mk ini bmB) (T : XPln X.K X.mg cn mk ini bmB C) (XC : XCls X.K C) (ha : PA X [a] ta) (hg : Gl X cn)
    (hdb : (cn == ("__debug__" : Str)) = false := by decide) (hst : starEach (a :: []) X.env = (false, eval a X.env) :: starEach [] X.env := by rfl) (hpl : (backTo pos (starEach [] X.env)).any (·.1) = false := by rfl) :
    PMk X (.Call (.Name cn p) [a] [] pos) (tMkR C ta) := by
  intro pins s σ H Q I h
  refine wpAny_Call_Name_kw (ld_glob I hg T.gC ?_ hdb)
  refine PySem.W.callWith_K (h₀ := X.base) I.ok.mod.kin T.kC (thn (ha.run pos pins s σ H _ I h) ?_) hst hpl
  rintro us s1 ⟨vs, H1, I1, r1, hz, q1⟩
  refine ⟨I1.kIn, ?_⟩
  obtain ⟨nm, q, N, bs, bm, hd, sn, sub, ab, col, dd, k0, k1, k2, k3, k5, hC, tail⟩ := T.cls
  have hl : us.length ≤ sizeLine := by
    rw [← r1.length]
    exact Nat.le_trans hz (by decide)
  have tyC : typeIn X.K (.ref C) = some (.type "type") := by
    show (X.K.lookup C).map (·.cls) = _
    rw [hC]
    rfl
  obtain ⟨hp, g, dr, tk, os⟩ := s1
  refine PySem.W.call_B F (fun Y => excTail_contains Y bm tail) (I1.kIn _ _ hC) (looks_findIn I1.kIn T.iC) hl fun h' k he ht => ?_
  obtain ⟨G', g1, g2⟩ := restrict h' fun b => decide (b ≠ hp.objs.size + 1)
  have off : ∀ b, b ≠ hp.objs.size + 1 → G'.get? b = h'.get? b := fun b hb => g1 b (decide_eq_true hb)
  have gone : G'.get? (hp.objs.size + 1) = none := g2 _ (by simp)
  have old : ∀ b o, hp.get? b = some o → G'.get? b = some o := fun b o q => (off b (Nat.ne_of_lt (Nat.lt_succ_of_lt (Heap.lt_size q)))).trans (k b o q)
  have J : Inv X pins σ H1 ⟨G', g, dr, tk, os⟩ := I1.kept (t' := tk) old
  refine ⟨hp.objs.size + 1, _, _, ⟨G', g, dr, tk, os⟩, H1, .ref C, none, rfl, J, ?_, gone, he, ⟨rfl, rfl⟩, rfl, rfl, I1.hok.fresh (Nat.le_succ _), rfl, I1.bare, raises_own XC.ex tyC, q1⟩
  intro b o q
  have q' : G'.get? b = some o := q
  by_cases hb : b = hp.objs.size + 1
  · rw [hb, gone] at q'
    cases q'
  · exact (off b hb).symm.trans q
end
/-! ### methods that may raise -/
/-- the class at C has a method m that keeps sp, and may raise -/
def CalMX (P : Program) (w : World) (K : PySem.W.Frag) (mg : Str → Option Value) (base : Heap) (C : Addr) (m : Str) (k : Nat) (ps : List Str) (sp : Sp) : Prop :=
  ∃ (f : Addr) (fd : FuncData), FnG P w K mg base (L2.CX P w) k f fd ps sp ∧ Meth K C m f ∧ Binds K fd ps []
theorem DefM.calX {P : Program} {w : World} {K : PySem.W.Frag} {mg : Str → Option Value} {base : Heap} {C : Addr} {m qual : Str} {st : Stmt} {k : Nat} {ps : List Str} {sp : Sp} (d : DefM K C m qual st ps)
    (h : ∀ f fd, Fun K m qual st f fd → FnG P w K mg base (L2.CX P w) k f fd ps sp) : CalMX P w K mg base C m k ps sp := by
  obtain ⟨f, fd, F, me, b, fi⟩ := d
  exact ⟨f, fd, h f fd F, me, b⟩
theorem CalMX.up {P : Program} {w : World} {K : PySem.W.Frag} {mg : Str → Option Value} {base : Heap} {C : Addr} {m : Str} {j k : Nat} {ps : List Str} {sp : Sp} (c : CalMX P w K mg base C m j ps sp) (h : j ≤ k) : CalMX P w K mg base C m k ps sp := by
  obtain ⟨f, fd, F, r⟩ := c
  exact ⟨f, fd, F.up h, r⟩
section
variable {X : Cx} {C : Addr} {m : Str} {k : Nat} {ps : List Str} {sp : Sp} {ta : TE} {t : TA} {o e : Expr} {es : List Expr} {pos apos : Pos} {E : L2.St → XK}
/-- o.m(..), which may raise -/
def tMethX (C : Addr) (m : Str) (sp : Sp) (E : L2.St → XK) (ta : TE) (t : TA) : TE := fun σ H Q => ta σ H fun x H1 => ∃ a dx fs, x = .ref a ∧ H1 a = some (.ins C dx fs) ∧ fs.lookup m = none ∧ t σ H1 fun vs H2 => sp (x :: vs) H2 Q (E σ)
theorem pe_methX {pl : Sem Bool} (he : PE X o ta) (cl : Cls X.K C) (c : CalMX X.prog X.w X.K X.mg X.base C m k ps sp) (g : Gd X.A) (room : Room k X.A) (hx : ∀ σ, PassesAt (L2.CX X.prog X.w) X σ (E σ)) (ha : PA X (e :: es) t)
    (hst : starEach (e :: es) X.env = (false, eval e X.env) :: starEach es X.env := by rfl) (hpl : (backTo pos (starEach es X.env)).any (·.1) = false := by rfl)
    (ht : eval (.Call (.Attribute o m apos) (e :: es) [] pos) X.env = (do
      let ov ← eval o X.env
      standAt apos.atName
      let (f, first) ← holding [ov] (getMethod ov m pl)
      callWith pos f first (backTo pos (starEach (e :: es) X.env)) (backToKw pos (keywordEach [] X.env))) := by rfl) :
    PE X (.Call (.Attribute o m apos) (e :: es) [] pos) (tMethX C m sp E ta t) := by
  obtain ⟨f, fd, F, hm, b⟩ := c
  refine ⟨fun pins s σ H Q I h => ?_⟩
  refine PySem.W.methodCall_KW (pl := pl) (thn (he.run pins s σ H _ I h) fun u s1 ⟨x, H1, I1, rx, a, dx, fs, ex, ea, l, q⟩ => ?_) ht
  subst ex
  obtain rfl : u = Value.ref a := rx
  refine getmeth_ok I1 ea cl hm l ?_
  refine PySem.W.callWith_K (first := [.ref a]) (h₀ := X.base) I.ok.mod.kin hm.kp (thn (ha.run pos pins s1 σ H1 _ I1 q) fun us s2 ⟨vs, H2, I2, r, q2⟩ => ⟨I2.kIn, ?_⟩) hst hpl
  have hl : (Value.ref a :: us).length = ps.length := by
    rw [← F.len _ _ _ _ q2, List.length_cons, List.length_cons, r.length]
  have b1 := b s2 (.ref a :: us) I2.kIn (by rw [List.append_nil]; exact hl)
  rw [List.append_nil] at b1
  exact runX (us := .ref a :: us) (vs := .ref a :: vs) (args := ⟨.ref a :: us, []⟩) F g room b1 (hx σ) I2 (.cons rfl r) q2
end
end Gx

set_option maxRecDepth 100000
set_option maxHeartbeats 4000000
namespace Kl
open PySem PySem.Spec PyProof.Rows L2 Gx
def topS (i : Nat) : Stmt := PySem.Challenge.pw_linkbooks_k14_whole_rows_judged_by_trees.main.body.getD i (.Pass ⟨0, 0, 0, 0⟩)
abbrev s_wall : Stmt := topS 0
theorem sc_wall : FnScope ["k"] ["k"] (defScope s_wall) := ⟨rfl, rfl, rfl, by decide +kernel, rfl, by decide +kernel, by decide +kernel⟩
abbrev s_is_integer : Stmt := topS 10
theorem sc_is_integer : FnScope ["value"] ["value"] (defScope s_is_integer) := ⟨rfl, rfl, rfl, by decide +kernel, rfl, by decide +kernel, by decide +kernel⟩
abbrev s_is_count : Stmt := topS 11
theorem sc_is_count : FnScope ["value"] ["value"] (defScope s_is_count) := ⟨rfl, rfl, rfl, by decide +kernel, rfl, by decide +kernel, by decide +kernel⟩
abbrev s_is_name : Stmt := topS 12
theorem sc_is_name : FnScope ["value"] ["value"] (defScope s_is_name) := ⟨rfl, rfl, rfl, by decide +kernel, rfl, by decide +kernel, by decide +kernel⟩
abbrev s_is_sorted : Stmt := topS 13
theorem sc_is_sorted : FnScope ["value", "most", "name"] ["value", "most"] (defScope s_is_sorted) := ⟨rfl, rfl, rfl, by decide +kernel, rfl, by decide +kernel, by decide +kernel⟩
abbrev s_is_making : Stmt := topS 17
theorem sc_is_making : FnScope ["value"] ["value"] (defScope s_is_making) := ⟨rfl, rfl, rfl, by decide +kernel, rfl, by decide +kernel, by decide +kernel⟩
abbrev s_all_names : Stmt := topS 18
theorem sc_all_names : FnScope ["leaf", "makings"] ["leaf", "makings"] (defScope s_all_names) := ⟨rfl, rfl, rfl, by decide +kernel, rfl, by decide +kernel, by decide +kernel⟩
abbrev s_are_kinds : Stmt := topS 19
theorem sc_are_kinds : FnScope ["leaf", "makings", "names", "name", "part"] ["leaf", "makings"] (defScope s_are_kinds) := ⟨rfl, rfl, rfl, by decide +kernel, rfl, by decide +kernel, by decide +kernel⟩
abbrev s_sums_above : Stmt := topS 22
theorem sc_sums_above : FnScope ["parts_of", "below", "name", "parts", "part"] ["parts_of", "below"] (defScope s_sums_above) := ⟨rfl, rfl, rfl, by decide +kernel, rfl, by decide +kernel, by decide +kernel⟩
abbrev s_sums_by_rank : Stmt := topS 23
theorem sc_sums_by_rank : FnScope ["leaf", "parts_of", "ranks", "by_rank"] ["leaf", "parts_of", "ranks"] (defScope s_sums_by_rank) := ⟨rfl, rfl, rfl, by decide +kernel, rfl, by decide +kernel, by decide +kernel⟩
abbrev s_are_digits : Stmt := topS 29
theorem sc_are_digits : FnScope ["value", "digit"] ["value"] (defScope s_are_digits) := ⟨rfl, rfl, rfl, by decide +kernel, rfl, by decide +kernel, by decide +kernel⟩
abbrev s_are_loose_digits : Stmt := topS 30
theorem sc_are_loose_digits : FnScope ["value"] ["value"] (defScope s_are_loose_digits) := ⟨rfl, rfl, rfl, by decide +kernel, rfl, by decide +kernel, by decide +kernel⟩
abbrev s_check_kinds : Stmt := topS 31
theorem sc_check_kinds : FnScope ["kinds"] ["kinds"] (defScope s_check_kinds) := ⟨rfl, rfl, rfl, by decide +kernel, rfl, by decide +kernel, by decide +kernel⟩
abbrev s_check_loose : Stmt := topS 32
theorem sc_check_loose : FnScope ["row"] ["row"] (defScope s_check_loose) := ⟨rfl, rfl, rfl, by decide +kernel, rfl, by decide +kernel, by decide +kernel⟩
abbrev s_is_digit : Stmt := topS 33
theorem sc_is_digit : FnScope ["value"] ["value"] (defScope s_is_digit) := ⟨rfl, rfl, rfl, by decide +kernel, rfl, by decide +kernel, by decide +kernel⟩
abbrev s_is_loose : Stmt := topS 34
theorem sc_is_loose : FnScope ["value"] ["value"] (defScope s_is_loose) := ⟨rfl, rfl, rfl, by decide +kernel, rfl, by decide +kernel, by decide +kernel⟩
abbrev s_is_row : Stmt := topS 35
theorem sc_is_row : FnScope ["kinds", "value", "sizes", "digit", "here", "name"] ["kinds", "value"] (defScope s_is_row) := ⟨rfl, rfl, rfl, by decide +kernel, rfl, by decide +kernel, by decide +kernel⟩
abbrev s_keys_of : Stmt := topS 36
theorem sc_keys_of : FnScope ["kinds", "row", "sizes", "digit", "here", "name"] ["kinds", "row"] (defScope s_keys_of) := ⟨rfl, rfl, rfl, by decide +kernel, rfl, by decide +kernel, by decide +kernel⟩
abbrev s_trees_of : Stmt := topS 37
theorem sc_trees_of : FnScope ["row", "digit"] ["row"] (defScope s_trees_of) := ⟨rfl, rfl, rfl, by decide +kernel, rfl, by decide +kernel, by decide +kernel⟩
abbrev s_law_dice : Stmt := topS 39
theorem sc_law_dice : FnScope ["_law_script", "_law_spot", "_law_cell", "_law_left"] ["_law_script", "_law_spot"] (defScope s_law_dice) := ⟨rfl, rfl, rfl, by decide +kernel, rfl, by decide +kernel, by decide +kernel⟩
abbrev s_law_roll : Stmt := topS 40
theorem sc_law_roll : FnScope ["_law_dice_here", "_law_total", "_law_found", "_law_one", "_law_two"] ["_law_dice_here", "_law_total"] (defScope s_law_roll) := ⟨rfl, rfl, rfl, by decide +kernel, rfl, by decide +kernel, by decide +kernel⟩
abbrev s_law_pick : Stmt := topS 41
theorem sc_law_pick : FnScope ["_law_dice_here", "_law_items"] ["_law_dice_here", "_law_items"] (defScope s_law_pick) := ⟨rfl, rfl, rfl, by decide +kernel, rfl, by decide +kernel, by decide +kernel⟩
abbrev s_law_mixed : Stmt := topS 42
theorem sc_law_mixed : FnScope ["_law_dice_here", "_law_items", "_law_left", "_law_found", "_law_turn"] ["_law_dice_here", "_law_items"] (defScope s_law_mixed) := ⟨rfl, rfl, rfl, by decide +kernel, rfl, by decide +kernel, by decide +kernel⟩
abbrev s_law_made_kinds : Stmt := topS 43
theorem sc_law_made_kinds : FnScope ["_law_plain"] ["_law_plain"] (defScope s_law_made_kinds) := ⟨rfl, rfl, rfl, by decide +kernel, rfl, by decide +kernel, by decide +kernel⟩
abbrev s_law_sizes : Stmt := topS 44
theorem sc_law_sizes : FnScope ["_law_plain", "_law_bound", "_law_found", "_law_rank", "_law_here", "_law_name", "_law_parts", "_law_part"] ["_law_plain", "_law_bound"] (defScope s_law_sizes) := ⟨rfl, rfl, rfl, by decide +kernel, rfl, by decide +kernel, by decide +kernel⟩
abbrev s_law_pool_names : Stmt := topS 45
theorem sc_law_pool_names : FnScope ["_law_dice_here", "_law_many"] ["_law_dice_here", "_law_many"] (defScope s_law_pool_names) := ⟨rfl, rfl, rfl, by decide +kernel, rfl, by decide +kernel, by decide +kernel⟩
abbrev s_law_drawn_digit : Stmt := topS 46
theorem sc_law_drawn_digit : FnScope ["_law_dice_here", "_law_names", "_law_most", "_law_turn"] ["_law_dice_here", "_law_names", "_law_most"] (defScope s_law_drawn_digit) := ⟨rfl, rfl, rfl, by decide +kernel, rfl, by decide +kernel, by decide +kernel⟩
abbrev s_law_drawn_makings : Stmt := topS 47
theorem sc_law_drawn_makings : FnScope ["_law_dice_here", "_law_way", "_law_names", "_law_a", "_law_b", "_law_c", "_law_some", "_law_found", "_law_name", "_law_kinds", "_law_turn"] ["_law_dice_here"] (defScope s_law_drawn_makings) := ⟨rfl, rfl, rfl, by decide +kernel, rfl, by decide +kernel, by decide +kernel⟩
abbrev s_law_tree_size : Stmt := topS 48
theorem sc_law_tree_size : FnScope ["_law_plain", "_law_kind", "_law_rank", "_law_sizes_here", "_law_part"] ["_law_plain", "_law_kind", "_law_rank"] (defScope s_law_tree_size) := ⟨rfl, rfl, rfl, by decide +kernel, rfl, by decide +kernel, by decide +kernel⟩
abbrev s_law_drawn_row : Stmt := topS 49
theorem sc_law_drawn_row : FnScope ["_law_dice_here", "_law_plain", "_law_most", "_law_sizes_here", "_law_found", "_law_others", "_law_rank", "_law_some", "_law_digit"] ["_law_dice_here", "_law_plain", "_law_most"] (defScope s_law_drawn_row) := ⟨rfl, rfl, rfl, by decide +kernel, rfl, by decide +kernel, by decide +kernel⟩
abbrev s_law_keys_by_trees : Stmt := topS 50
theorem sc_law_keys_by_trees : FnScope ["_law_plain", "_law_row", "_law_total", "_law_rank", "_law_digit", "_law_kind", "_law_size"] ["_law_plain", "_law_row"] (defScope s_law_keys_by_trees) := ⟨rfl, rfl, rfl, by decide +kernel, rfl, by decide +kernel, by decide +kernel⟩
abbrev s_law_told : Stmt := topS 51
theorem sc_law_told : FnScope ["_law_kinds", "_law_row"] ["_law_kinds", "_law_row"] (defScope s_law_told) := ⟨rfl, rfl, rfl, by decide +kernel, rfl, by decide +kernel, by decide +kernel⟩
abbrev s_law_bent_rows : Stmt := topS 52
theorem sc_law_bent_rows : FnScope ["_law_dice_here", "_law_row", "_law_at", "_law_head", "_law_tail", "_law_found"] ["_law_dice_here", "_law_row"] (defScope s_law_bent_rows) := ⟨rfl, rfl, rfl, by decide +kernel, rfl, by decide +kernel, by decide +kernel⟩
abbrev s_law_right : Stmt := topS 53
theorem sc_law_right : FnScope ["_law_dice_here", "_law_plain", "_law_kinds", "_law_sizes_here", "_law_rank", "_law_kind", "_law_later", "_law_row", "_law_turn", "_law_due", "_law_trees", "_law_is_due", "_law_bent", "_law_high", "_law_digit"] ["_law_dice_here"] (defScope s_law_right) := ⟨rfl, rfl, rfl, by decide +kernel, rfl, by decide +kernel, by decide +kernel⟩
abbrev s_law_ones : Stmt := topS 54
theorem sc_law_ones : FnScope ["_law_many"] ["_law_many"] (defScope s_law_ones) := ⟨rfl, rfl, rfl, by decide +kernel, rfl, by decide +kernel, by decide +kernel⟩
abbrev s_law : Stmt := topS 55
theorem sc_law : FnScope ["_law_script", "_law_spot", "_law_kinds", "_law_ones_here", "_law_turn", "_law_told_here", "_law_many"] ["_law_script"] (defScope s_law) := ⟨rfl, rfl, rfl, by decide +kernel, rfl, by decide +kernel, by decide +kernel⟩
abbrev s_Kinds_init : Stmt := inClass (topS 20) 0
theorem sc_Kinds_init : FnScope ["self", "leaf", "makings", "name"] ["self", "leaf", "makings"] (defScope s_Kinds_init) := ⟨rfl, rfl, rfl, by decide +kernel, rfl, by decide +kernel, by decide +kernel⟩
abbrev s_Kinds_leaf : Stmt := inClass (topS 20) 2
theorem sc_Kinds_leaf : FnScope ["self"] ["self"] (defScope s_Kinds_leaf) := ⟨rfl, rfl, rfl, by decide +kernel, rfl, by decide +kernel, by decide +kernel⟩
abbrev s_Kinds_makings : Stmt := inClass (topS 20) 3
theorem sc_Kinds_makings : FnScope ["self"] ["self"] (defScope s_Kinds_makings) := ⟨rfl, rfl, rfl, by decide +kernel, rfl, by decide +kernel, by decide +kernel⟩
abbrev s_Kinds_names : Stmt := inClass (topS 20) 4
theorem sc_Kinds_names : FnScope ["self"] ["self"] (defScope s_Kinds_names) := ⟨rfl, rfl, rfl, by decide +kernel, rfl, by decide +kernel, by decide +kernel⟩
abbrev s_Kinds_contains : Stmt := inClass (topS 20) 9
theorem sc_Kinds_contains : FnScope ["self", "value"] ["self", "value"] (defScope s_Kinds_contains) := ⟨rfl, rfl, rfl, by decide +kernel, rfl, by decide +kernel, by decide +kernel⟩
abbrev s_Kinds_getitem : Stmt := inClass (topS 20) 10
theorem sc_Kinds_getitem : FnScope ["self", "name"] ["self", "name"] (defScope s_Kinds_getitem) := ⟨rfl, rfl, rfl, by decide +kernel, rfl, by decide +kernel, by decide +kernel⟩
abbrev s_Kinds_len : Stmt := inClass (topS 20) 12
theorem sc_Kinds_len : FnScope ["self"] ["self"] (defScope s_Kinds_len) := ⟨rfl, rfl, rfl, by decide +kernel, rfl, by decide +kernel, by decide +kernel⟩
abbrev s_Kinds_eq : Stmt := inClass (topS 20) 13
theorem sc_Kinds_eq : FnScope ["self", "other"] ["self", "other"] (defScope s_Kinds_eq) := ⟨rfl, rfl, rfl, by decide +kernel, rfl, by decide +kernel, by decide +kernel⟩
abbrev s_Kinds_str : Stmt := inClass (topS 20) 14
theorem sc_Kinds_str : FnScope ["self"] ["self"] (defScope s_Kinds_str) := ⟨rfl, rfl, rfl, by decide +kernel, rfl, by decide +kernel, by decide +kernel⟩
/-- the class Kinds as the top has made it -/
structure Cl_Kinds (K : PySem.W.Frag) (mg : Str → Option Value) (C : Addr) : Prop where
  gC : mg "Kinds" = some (.ref C)
  cl : Cls K C
  n_leaf : NoAttr K C "_leaf"
  n_makings : NoAttr K C "_makings"
  n_names : NoAttr K C "_names"
  made : ∃ f fd, Mk K C f ∧ Fun K "__init__" "Kinds.__init__" s_Kinds_init f fd ∧ Binds K fd ["self", "leaf", "makings"] []
  p_leaf : PropD K C "leaf" "Kinds.leaf" s_Kinds_leaf
  p_makings : PropD K C "makings" "Kinds.makings" s_Kinds_makings
  p_names : PropD K C "names" "Kinds.names" s_Kinds_names
  m_contains : DefM K C "__contains__" "Kinds.__contains__" s_Kinds_contains ["self", "value"]
  m_getitem : DefM K C "__getitem__" "Kinds.__getitem__" s_Kinds_getitem ["self", "name"]
  m_len : DefM K C "__len__" "Kinds.__len__" s_Kinds_len ["self"]
  m_eq : DefM K C "__eq__" "Kinds.__eq__" s_Kinds_eq ["self", "other"]
  m_str : DefM K C "__str__" "Kinds.__str__" s_Kinds_str ["self"]
  ne : PySem.W.findIn K (.ref C) "__ne__" = some (some (.builtin "object.__ne__"))
  ob : PySem.W.mroIn K C (.type "object") = some true
  kit : PySem.W.kitOne K (.ref C) (.ref C) = some true
  kitT : PySem.W.kitOne K (.type "tuple") (.ref C) = some false
  kitD : PySem.W.kitOne K (.type "dict") (.ref C) = some false
  ca : PySem.W.findIn K (.ref C) "__class__" = some (some (.builtin "object.__class__"))
  cg : PySem.W.specialIn K (.builtin "object.__class__") "__get__" = some (some (.builtin "getset_descriptor.__get__"))
  ct : PySem.W.takesIn K (.builtin "object.__class__") = some true
/-- what the walk asks of the top -/
structure Top (K : PySem.W.Frag) (mg : Str → Option Value) : Prop where
  b_IndexError : mg "IndexError" = none
  b_KeyError : mg "KeyError" = none
  b_TypeError : mg "TypeError" = none
  b_ValueError : mg "ValueError" = none
  b_abs : mg "abs" = none
  b_all : mg "all" = none
  b_bool : mg "bool" = none
  b_classmethod : mg "classmethod" = none
  b_dict : mg "dict" = none
  b_enumerate : mg "enumerate" = none
  b_int : mg "int" = none
  b_isinstance : mg "isinstance" = none
  b_len : mg "len" = none
  b_list : mg "list" = none
  b_max : mg "max" = none
  b_min : mg "min" = none
  b_property : mg "property" = none
  b_range : mg "range" = none
  b_repr : mg "repr" = none
  b_set : mg "set" = none
  b_sorted : mg "sorted" = none
  b_str : mg "str" = none
  b_sum : mg "sum" = none
  b_tuple : mg "tuple" = none
  b_zip : mg "zip" = none
  g_MAX_LETTERS : ∃ t, mg "MAX_LETTERS" = some (.int 8 t)
  g__TOO_LONG : ∃ t, mg "_TOO_LONG" = some (.int 1000000000000000000000000000000000000000000000000000000000000 t)
  g_MAX_KINDS : ∃ t, mg "MAX_KINDS" = some (.int 6 t)
  g_MAX_PARTS : ∃ t, mg "MAX_PARTS" = some (.int 3 t)
  g_MAX_DIGIT : ∃ t, mg "MAX_DIGIT" = some (.int 3 t)
  g_MAX_RANKS : ∃ t, mg "MAX_RANKS" = some (.int 400 t)
  g_LOOSE_DIGIT : ∃ t, mg "LOOSE_DIGIT" = some (.int 20 t)
  g__LOOSE_RANKS : ∃ t, mg "_LOOSE_RANKS" = some (.int 402 t)
  d_wall : Def K mg "_wall" "_wall" s_wall ["k"]
  d_is_integer : Def K mg "is_integer" "is_integer" s_is_integer ["value"]
  d_is_count : Def K mg "is_count" "is_count" s_is_count ["value"]
  d_is_name : Def K mg "is_name" "is_name" s_is_name ["value"]
  d_is_sorted : DefK K mg "is_sorted" "is_sorted" s_is_sorted ["value", "most"] 1 ["most"]
  d_is_making : Def K mg "_is_making" "_is_making" s_is_making ["value"]
  d_all_names : Def K mg "_all_names" "_all_names" s_all_names ["leaf", "makings"]
  d_are_kinds : Def K mg "_are_kinds" "_are_kinds" s_are_kinds ["leaf", "makings"]
  d_sums_above : Def K mg "sums_above" "sums_above" s_sums_above ["parts_of", "below"]
  d_sums_by_rank : Def K mg "sums_by_rank" "sums_by_rank" s_sums_by_rank ["leaf", "parts_of", "ranks"]
  d_are_digits : Def K mg "are_digits" "are_digits" s_are_digits ["value"]
  d_are_loose_digits : Def K mg "are_loose_digits" "are_loose_digits" s_are_loose_digits ["value"]
  d_check_kinds : Def K mg "_check_kinds" "_check_kinds" s_check_kinds ["kinds"]
  d_check_loose : Def K mg "_check_loose" "_check_loose" s_check_loose ["row"]
  d_is_digit : Def K mg "is_digit" "is_digit" s_is_digit ["value"]
  d_is_loose : Def K mg "is_loose" "is_loose" s_is_loose ["value"]
  d_is_row : Def K mg "is_row" "is_row" s_is_row ["kinds", "value"]
  d_keys_of : Def K mg "keys_of" "keys_of" s_keys_of ["kinds", "row"]
  d_trees_of : Def K mg "trees_of" "trees_of" s_trees_of ["row"]
  d_law_dice : Def K mg "_law_dice" "_law_dice" s_law_dice ["_law_script", "_law_spot"]
  d_law_roll : Def K mg "_law_roll" "_law_roll" s_law_roll ["_law_dice_here", "_law_total"]
  d_law_pick : Def K mg "_law_pick" "_law_pick" s_law_pick ["_law_dice_here", "_law_items"]
  d_law_mixed : Def K mg "_law_mixed" "_law_mixed" s_law_mixed ["_law_dice_here", "_law_items"]
  d_law_made_kinds : Def K mg "_law_made_kinds" "_law_made_kinds" s_law_made_kinds ["_law_plain"]
  d_law_sizes : Def K mg "_law_sizes" "_law_sizes" s_law_sizes ["_law_plain", "_law_bound"]
  d_law_pool_names : Def K mg "_law_pool_names" "_law_pool_names" s_law_pool_names ["_law_dice_here", "_law_many"]
  d_law_drawn_digit : Def K mg "_law_drawn_digit" "_law_drawn_digit" s_law_drawn_digit ["_law_dice_here", "_law_names", "_law_most"]
  d_law_drawn_makings : Def K mg "_law_drawn_makings" "_law_drawn_makings" s_law_drawn_makings ["_law_dice_here"]
  d_law_tree_size : Def K mg "_law_tree_size" "_law_tree_size" s_law_tree_size ["_law_plain", "_law_kind", "_law_rank"]
  d_law_drawn_row : Def K mg "_law_drawn_row" "_law_drawn_row" s_law_drawn_row ["_law_dice_here", "_law_plain", "_law_most"]
  d_law_keys_by_trees : Def K mg "_law_keys_by_trees" "_law_keys_by_trees" s_law_keys_by_trees ["_law_plain", "_law_row"]
  d_law_told : Def K mg "_law_told" "_law_told" s_law_told ["_law_kinds", "_law_row"]
  d_law_bent_rows : Def K mg "_law_bent_rows" "_law_bent_rows" s_law_bent_rows ["_law_dice_here", "_law_row"]
  d_law_right : Def K mg "_law_right" "_law_right" s_law_right ["_law_dice_here"]
  d_law_ones : Def K mg "_law_ones" "_law_ones" s_law_ones ["_law_many"]
  c_Kinds : ∃ C, Cl_Kinds K mg C
  p_InvalidRow : ∃ C, XPln K mg "InvalidRow" "ValueError.__new__" "ValueError.__init__" [.type "ValueError", .type "Exception", .type "BaseException", .type "object"] C ∧ XCls K C ∧ PySem.W.exmOne K (.ref C) (.ref C) = some true
end Kl

set_option maxRecDepth 100000
set_option maxHeartbeats 4000000
namespace Kl
open PySem PySem.Spec PyProof.Rows L2 Gx Mx
section
variable {P : Program} {w : World} {K : PySem.W.Frag} {mg : Str → Option Value} {base : Heap}
/-! ### kinds of values -/
theorem tyx_same {H H' : Hp} (sm : Same H H') {v : V} {t : Value} (h : TyX K H v t) : TyX K H' v t := by
  cases h with
  | base b =>
    cases b with
    | non => exact .base .non
    | bl x => exact .base (.bl x)
    | int i => exact .base (.int i)
    | str x => exact .base (.str x)
    | flt x => exact .base (.flt x)
    | lst e => exact .base (.lst (sm _ _ e))
    | frz e => exact .base (.frz (sm _ _ e))
    | tup e => exact .base (.tup (sm _ _ e))
    | dK e => exact .base (.dK (sm _ _ e))
    | dT e => exact .base (.dT (sm _ _ e))
    | ins e cl ha hn htk hm => exact .base (.ins (sm _ _ e) cl ha hn htk hm)
  | byt b => exact .byt b
  | set e => exact .set (sm _ _ e)
  | kList e c => exact .kList e c
  | kTuple e c => exact .kTuple e c
  | kDict e c => exact .kDict e c
  | fTuple e => exact .fTuple (sm _ _ e)
  | fDict e => exact .fDict (sm _ _ e)
/-- the value is no instance of this built-in class -/
def Not (K : PySem.W.Frag) (H : Hp) (v : V) (T : String) : Prop := ∃ t, TyX K H v t ∧ PySem.W.kitOne K t (.type T) = some false
theorem Not.same {H H' : Hp} (sm : Same H H') {v : V} {T : String} (h : Not K H v T) : Not K H' v T := by
  obtain ⟨t, a, b⟩ := h
  exact ⟨t, tyx_same sm a, b⟩
/-- text, or not -/
def NameArg (K : PySem.W.Frag) (H : Hp) (v : V) : Prop := (∃ z : Str, v = .str z ∧ z.length ≤ sizeLine) ∨ ((∀ z, v ≠ .str z) ∧ Not K H v "str")
theorem NameArg.same {H H' : Hp} (sm : Same H H') {v : V} (h : NameArg K H v) : NameArg K H' v := by
  rcases h with h | ⟨a, b⟩
  · exact .inl h
  · exact .inr ⟨a, b.same sm⟩
/-- int, truth, or neither -/
def IntArg (K : PySem.W.Frag) (H : Hp) (v : V) : Prop := (∃ i, v = .int i) ∨ (∃ b, v = .bl b) ∨ ((∀ i, v ≠ .int i) ∧ Not K H v "int")
theorem IntArg.same {H H' : Hp} (sm : Same H H') {v : V} (h : IntArg K H v) : IntArg K H' v := by
  rcases h with h | h | ⟨a, b⟩
  · exact .inl h
  · exact .inr (.inl h)
  · exact .inr (.inr ⟨a, b.same sm⟩)
/-! ### is_integer, is_count -/
def TEN60 : Int := 1000000000000000000000000000000000000000000000000000000000000
def intV : V → Bool
  | .int i => decide (-TEN60 < i) && decide (i < TEN60)
  | _ => false
def cntV : V → Bool
  | .int i => (decide (-TEN60 < i) && decide (i < TEN60)) && decide (0 ≤ i)
  | _ => false
def spInt (K : PySem.W.Frag) : Sp := fun vs H Q _ => ∃ v : V, vs = [v] ∧ IntArg K H v ∧ Q (.bl (intV v)) H
theorem ok_int {f : Addr} {fd : FuncData} (F : Fun K "is_integer" "is_integer" s_is_integer f fd) (T : Top K mg) : FnOk P w K mg base CX0 1 f fd ["value"] (spInt K) := by
  obtain ⟨tm, gm⟩ := T.g__TOO_LONG
  refine F.ok sc_is_integer (fun vs H Q E h => ?_) (fun cdv A outer s H vs Q E hr h => ?_)
  · obtain ⟨v, rfl, _⟩ := h
    rfl
  · obtain ⟨v, rfl, hv, q⟩ := h
    refine ⟨_, pss_cons (ps_if (PW.pt (pw_or (pt_not (pt_val (pe_callB call_isi (by rfl) T.b_isinstance (by decide +kernel) (pa_cons (pv 0) (pa_cons (pe_bltn (v := .ty "int") (by rfl) T.b_int (by decide +kernel) rfl) pa_nil)))))
          (pw_or1 (pt_val (pe_callB call_isi (by rfl) T.b_isinstance (by decide +kernel) (pa_cons (pv 0) (pa_cons (pe_bltn (v := .ty "bool") (by rfl) T.b_bool (by decide +kernel) rfl) pa_nil)))))))
        (pss_one (ps_ret pe_bl)) pss_nil)
      (pss_one (ps_ret (pe_chain op_lt op_lt (pe_un un_neg (pe_glob (v := .int TEN60) (by rfl) gm ⟨_, rfl⟩)) (pv 0) (pe_glob (v := .int TEN60) (by rfl) gm ⟨_, rfl⟩)))), ?_⟩
    rcases hv with ⟨i, rfl⟩ | ⟨b, rfl⟩ | ⟨hn, t, ht, hk⟩
    · refine ⟨_, rfl, _, .ty "int", .type "int", .type "int", true, rfl, .ty _, .base (.int i), kit_ty (by decide +kernel), true, rfl, ?_⟩
      refine ⟨_, rfl, _, .ty "bool", .type "int", .type "bool", false, rfl, .ty _, .base (.int i), kit_ty (by decide +kernel), false, rfl, ?_⟩
      refine ⟨_, rfl, _, rfl, _, _, rfl, rfl, _, rfl, ?_⟩
      have q' : Q (.bl (decide (-TEN60 < i) && decide (i < TEN60))) H := q
      cases e : decide (-TEN60 < i) with
      | false =>
        rw [e] at q'
        exact q'
      | true =>
        rw [e] at q'
        exact ⟨_, _, rfl, rfl, q'⟩
    · refine ⟨_, rfl, _, .ty "int", .type "bool", .type "int", true, rfl, .ty _, .base (.bl b), kit_ty (by decide +kernel), true, rfl, ?_⟩
      exact ⟨_, rfl, _, .ty "bool", .type "bool", .type "bool", true, rfl, .ty _, .base (.bl b), kit_ty (by decide +kernel), true, rfl, q⟩
    · refine ⟨_, rfl, _, .ty "int", t, .type "int", false, rfl, .ty _, ht, hk, false, rfl, ?_⟩
      have e : intV v = false := by
        cases v with
        | int i => exact absurd rfl (hn i)
        | _ => rfl
      rw [e] at q
      exact q
def spCnt (K : PySem.W.Frag) : Sp := fun vs H Q _ => ∃ v : V, vs = [v] ∧ IntArg K H v ∧ Q (.bl (cntV v)) H
theorem ok_cnt {f : Addr} {fd : FuncData} (F : Fun K "is_count" "is_count" s_is_count f fd) (T : Top K mg) : FnOk P w K mg base CX0 2 f fd ["value"] (spCnt K) := by
  have ci : Cal P w K mg base 1 "is_integer" ["value"] (spInt K) := T.d_is_integer.cal fun f fd F => ok_int F T
  refine F.ok sc_is_count (fun vs H Q E h => ?_) (fun cdv A outer s H vs Q E hr h => ?_)
  · obtain ⟨v, rfl, _⟩ := h
    rfl
  · obtain ⟨v, rfl, hv, q⟩ := h
    refine ⟨_, pss_one (ps_ret (pe_and (pe_cal ci hr (by rfl) (pa_cons (pv 0) pa_nil)) (pe_one (pe_cmpR op_ge (pv 0) pe_int (nomark _))))), ?_⟩
    refine ⟨_, rfl, v, rfl, hv, _, rfl, ?_⟩
    cases v with
    | int i =>
      have q' : Q (.bl (intV (.int i) && decide (0 ≤ i))) H := q
      cases e : intV (.int i) with
      | false =>
        rw [e] at q'
        exact q'
      | true =>
        rw [e] at q'
        exact ⟨_, rfl, _, _, rfl, rfl, q'⟩
    | _ => exact q
/-! ### is_name -/
def nameV : V → Bool
  | .str z => nameB z
  | _ => false
def spName (K : PySem.W.Frag) : Sp := fun vs H Q _ => ∃ v : V, vs = [v] ∧ NameArg K H v ∧ Q (.bl (nameV v)) H
theorem nameV_no {v : V} (h : ∀ z, v ≠ .str z) : nameV v = false := by
  cases v with
  | str z => exact absurd rfl (h z)
  | _ => rfl
theorem ok_name {f : Addr} {fd : FuncData} (F : Fun K "is_name" "is_name" s_is_name f fd) (T : Top K mg) : FnOk P w K mg base CX0 1 f fd ["value"] (spName K) := by
  obtain ⟨tm, gm⟩ := T.g_MAX_LETTERS
  refine F.ok sc_is_name (fun vs H Q E h => ?_) (fun cdv A outer s H vs Q E hr h => ?_)
  · obtain ⟨v, rfl, _⟩ := h
    rfl
  · obtain ⟨v, rfl, hv, q⟩ := h
    refine ⟨_, pss_cons (ps_if (PW.pt (pw_or (pt_not (pt_val (pe_callB call_isi (by rfl) T.b_isinstance (by decide +kernel) (pa_cons (pv 0) (pa_cons (pe_bltn (v := .ty "str") (by rfl) T.b_str (by decide +kernel) rfl) pa_nil)))))
          (pw_or1 (pt_not (pt_chain op_le op_le pe_int (pe_callB call_len_str (by rfl) T.b_len PySem.boot_len (pa_cons (pv 0) pa_nil)) (pe_glob (v := .int 8) (by rfl) gm ⟨_, rfl⟩))))))
        (pss_one (ps_ret pe_bl)) pss_nil)
      (pss_one (ps_ret (pe_and (pe_m0 PySem.F.slot_str_isascii PySem.F.type_str_isascii mt_isascii (pv 0))
        (pe_and (pe_m0 PySem.F.slot_str_isalpha PySem.F.type_str_isalpha mt_isalpha (pv 0)) (pe_one (pe_m0 PySem.F.slot_str_islower PySem.F.type_str_islower mt_islower (pv 0))))))), ?_⟩
    rcases hv with ⟨z, rfl, hz⟩ | ⟨hn, t, ht, hk⟩
    · have q' : Q (.bl (nameB z)) H := q
      refine ⟨_, rfl, _, .ty "str", .type "str", .type "str", true, rfl, .ty _, .base (.str z), kit_ty (by decide +kernel), true, rfl, ?_⟩
      refine ⟨_, rfl, _, rfl, hz, _, _, rfl, rfl, _, rfl, ite2 (fun e1 => ?_) (fun e1 => ?_)⟩
      · have h1 : 1 ≤ z.cps.size := by
          have e2 : (1 : Int) ≤ (z.length : Int) := of_decide_eq_true e1
          have e3 : z.length = z.cps.size := rfl
          omega
        refine ⟨_, _, rfl, rfl, _, rfl, ?_⟩
        have e3 : decide ((z.length : Int) ≤ 8) = decide (z.cps.size ≤ 8) := decide_eq_decide.mpr (by
          have e3 : z.length = z.cps.size := rfl
          omega)
        by_cases h8 : z.cps.size ≤ 8
        · have e4 : decide ((z.length : Int) ≤ 8) = true := e3.trans (decide_eq_true h8)
          rw [e4]
          have e5 : nameB z = (Txt.isascii z && (Txt.isalpha z && Txt.islower z)) := by
            rw [name_by z h1]
            unfold nameB
            rw [decide_eq_true h1, decide_eq_true h8, Bool.true_and, Bool.true_and]
          rw [e5] at q'
          refine ⟨_, rfl, ⟨_, rfl⟩, z, rfl, rfl, trivial, _, rfl, ?_⟩
          cases a1 : Txt.isascii z with
          | false =>
            rw [a1] at q'
            exact q'
          | true =>
            rw [a1] at q'
            refine ⟨_, rfl, ⟨_, rfl⟩, z, rfl, rfl, trivial, _, rfl, ?_⟩
            cases a2 : Txt.isalpha z with
            | false =>
              rw [a2] at q'
              exact q'
            | true =>
              rw [a2] at q'
              exact ⟨_, rfl, ⟨_, rfl⟩, z, rfl, rfl, trivial, q'⟩
        · have e4 : decide ((z.length : Int) ≤ 8) = false := e3.trans (decide_eq_false h8)
          rw [e4]
          show Q (.bl false) H
          have e5 : nameB z = false := by
            unfold nameB
            rw [decide_eq_false h8, Bool.and_false, Bool.false_and]
          rw [← e5]
          exact q'
      · have h1 : ¬ 1 ≤ z.cps.size := fun h => e1 (decide_eq_true (by
          have e3 : z.length = z.cps.size := rfl
          omega))
        refine ⟨_, rfl, ?_⟩
        show Q (.bl false) H
        have e5 : nameB z = false := by
          unfold nameB
          rw [decide_eq_false h1, Bool.false_and, Bool.false_and]
        rw [← e5]
        exact q'
    · refine ⟨_, rfl, _, .ty "str", t, .type "str", false, rfl, .ty _, ht, hk, false, rfl, ?_⟩
      rw [nameV_no hn] at q
      exact q
end
end Kl

set_option maxRecDepth 100000
set_option maxHeartbeats 4000000
namespace Kl
open PySem PySem.Spec PyProof.Rows L2 Gx Mx
/-! ### kinds and their makings: the mathematics -/
abbrev Mak := List (Str × List Str)
/-- the names that are drawn -/
def POOL : List Str := ["a", "b", "ab", "c", "leaf", "zzzzzzzz", "d", "e", "f", "aa", "page", "to"]
theorem pool_names : POOL.all nameB = true := by decide +kernel
theorem pool_short : POOL.all (fun z => decide (z.length ≤ 8)) = true := by decide +kernel
theorem pool_nd : POOL.Nodup := by decide +kernel
theorem pool_name {z : Str} (h : z ∈ POOL) : nameB z = true := List.all_eq_true.mp pool_names z h
theorem pool_len {z : Str} (h : z ∈ POOL) : z.length ≤ 8 := of_decide_eq_true (List.all_eq_true.mp pool_short z h)
def keysOf (M : Mak) : List Str := M.map (·.1)
/-- these are kinds of drawn names -/
structure Vld (leaf : Str) (M : Mak) : Prop where
  lf : leaf ∈ POOL
  keys : ∀ z ∈ keysOf M, z ∈ POOL
  nd : (keysOf M).Nodup
  parts : ∀ m ∈ M, sortedS m.2 = true ∧ 2 ≤ m.2.length ∧ m.2.length ≤ 3 ∧ ∀ p ∈ m.2, p = leaf ∨ p ∈ keysOf M
  few : ∀ ns : List Str, ns.Nodup → (∀ z ∈ ns, z = leaf ∨ z ∈ keysOf M) → ns.length ≤ 6
theorem Vld.part {leaf : Str} {M : Mak} (v : Vld leaf M) {m : Str × List Str} (hm : m ∈ M) {p : Str} (hp : p ∈ m.2) : p ∈ POOL := by
  rcases (v.parts m hm).2.2.2 p hp with rfl | h
  · exact v.lf
  · exact v.keys p h
theorem Vld.len {leaf : Str} {M : Mak} (v : Vld leaf M) : M.length ≤ 6 := by
  have h := v.few (keysOf M) v.nd fun z hz => .inr hz
  unfold keysOf at h
  rw [List.length_map] at h
  exact h
/-- the ascending names of kinds -/
structure IsNames (leaf : Str) (ks ns : List Str) : Prop where
  srt : sortedS ns = true
  nd : ns.Nodup
  mem : ∀ z, z ∈ ns ↔ z = leaf ∨ z ∈ ks
theorem sorted_same {l m : List Str} (hl : sortedS l = true) (hm : sortedS m = true) (dl : l.Nodup) (dm : m.Nodup) (e : ∀ z, z ∈ l ↔ z ∈ m) : l = m :=
  sortedS_unique ((List.perm_ext_iff_of_nodup dl dm).mpr e) hl hm
theorem IsNames.unique {leaf : Str} {ks ks' ns ms : List Str} (h : IsNames leaf ks ns) (h' : IsNames leaf ks' ms) (e : ∀ z, z ∈ ks ↔ z ∈ ks') : ns = ms :=
  sorted_same h.srt h'.srt h.nd h'.nd fun z => by rw [h.mem, h'.mem, e]
theorem sortedS_sub {l m : List Str} (h : sortedS m = true) (s : l.Sublist m) : sortedS l = true := (sortedS_iff l).mpr (((sortedS_iff m).mp h).sublist s)
/-! ### makings looked up -/
def lookM (M : Mak) (z : Str) : Option (List Str) := (M.find? fun m => decide (m.1 = z)).map (·.2)
theorem lookM_cons (m : Str × List Str) (M : Mak) (z : Str) : lookM (m :: M) z = if m.1 = z then some m.2 else lookM M z := by
  unfold lookM
  rw [List.find?_cons]
  by_cases h : m.1 = z
  · rw [if_pos h, decide_eq_true h]
    rfl
  · rw [if_neg h, decide_eq_false h]
theorem lookM_mem {M : Mak} (nd : (keysOf M).Nodup) {m : Str × List Str} (h : m ∈ M) : lookM M m.1 = some m.2 := by
  induction M with
  | nil => cases h
  | cons x M ih =>
    have nd' : (x.1 :: keysOf M).Nodup := nd
    rw [List.nodup_cons] at nd'
    rw [lookM_cons]
    rcases List.mem_cons.mp h with rfl | h
    · rw [if_pos rfl]
    · rw [if_neg fun e => nd'.1 (by rw [e]; exact List.mem_map.mpr ⟨m, h, rfl⟩)]
      exact ih nd'.2 h
theorem lookM_some {M : Mak} {z : Str} {ps : List Str} (h : lookM M z = some ps) : (z, ps) ∈ M := by
  induction M with
  | nil => cases h
  | cons x M ih =>
    rw [lookM_cons] at h
    by_cases e : x.1 = z
    · rw [if_pos e] at h
      cases h
      rw [← e]
      exact List.mem_cons_self
    · rw [if_neg e] at h
      exact List.mem_cons_of_mem _ (ih h)
theorem lookM_none {M : Mak} {z : Str} : lookM M z = none ↔ z ∉ keysOf M := by
  induction M with
  | nil => exact ⟨(fun _ h => nomatch h), fun _ => rfl⟩
  | cons x M ih =>
    rw [lookM_cons]
    show _ ↔ z ∉ x.1 :: keysOf M
    rw [List.mem_cons, not_or]
    by_cases e : x.1 = z
    · rw [if_pos e]
      exact ⟨(fun h => nomatch h), fun h => absurd e.symm h.1⟩
    · rw [if_neg e, ih]
      exact ⟨fun h => ⟨fun q => e q.symm, h⟩, fun h => h.2⟩
theorem lookM_in {M : Mak} {z : Str} (h : z ∈ keysOf M) : ∃ ps, lookM M z = some ps := by
  cases e : lookM M z with
  | none => exact absurd h (lookM_none.mp e)
  | some ps => exact ⟨ps, rfl⟩
/-- M' is M, ascending by its keys -/
structure OrdOf (M M' : Mak) : Prop where
  srt : sortedS (keysOf M') = true
  nd : (keysOf M').Nodup
  look : ∀ z, lookM M' z = lookM M z
theorem OrdOf.keys {M M' : Mak} (h : OrdOf M M') (z : Str) : z ∈ keysOf M' ↔ z ∈ keysOf M := by
  have e := h.look z
  constructor
  · intro q
    obtain ⟨ps, hp⟩ := lookM_in q
    rw [hp] at e
    cases c : decide (z ∈ keysOf M) with
    | true => exact of_decide_eq_true c
    | false =>
      rw [lookM_none.mpr (of_decide_eq_false c)] at e
      cases e
  · intro q
    obtain ⟨ps, hp⟩ := lookM_in q
    rw [hp] at e
    cases c : decide (z ∈ keysOf M') with
    | true => exact of_decide_eq_true c
    | false =>
      rw [lookM_none.mpr (of_decide_eq_false c)] at e
      cases e
theorem mak_of_keys {M : Mak} (nd : (keysOf M).Nodup) : M = (keysOf M).map fun z => (z, (lookM M z).getD []) := by
  unfold keysOf
  rw [List.map_map]
  refine (List.map_id M).symm.trans (List.map_congr_left fun m hm => ?_)
  show m = (m.1, (lookM M m.1).getD [])
  rw [lookM_mem nd hm]
  rfl
theorem OrdOf.eq {M M' : Mak} (h : OrdOf M M') {ys : List Str} (hs : sortedS ys = true) (hp : ys.Perm (keysOf M)) (nd : (keysOf M).Nodup) : M' = ys.map fun z => (z, (lookM M z).getD []) := by
  have e : keysOf M' = ys := sorted_same h.srt hs h.nd (hp.nodup_iff.mpr nd) fun z => by rw [h.keys, hp.mem_iff]
  rw [mak_of_keys h.nd, e]
  exact List.map_congr_left fun z _ => by rw [h.look]
theorem OrdOf.mk' {M : Mak} {ys : List Str} (hs : sortedS ys = true) (hp : ys.Perm (keysOf M)) (nd : (keysOf M).Nodup) : OrdOf M (ys.map fun z => (z, (lookM M z).getD [])) := by
  have ek : keysOf (ys.map fun z => (z, (lookM M z).getD [])) = ys := by
    unfold keysOf
    rw [List.map_map]
    exact List.map_id ys
  have dy : ys.Nodup := hp.nodup_iff.mpr nd
  refine ⟨by rw [ek]; exact hs, by rw [ek]; exact dy, fun z => ?_⟩
  by_cases h : z ∈ ys
  · have h1 := lookM_mem (M := ys.map fun z => (z, (lookM M z).getD [])) (by rw [ek]; exact dy) (List.mem_map.mpr ⟨z, h, rfl⟩)
    obtain ⟨ps, q⟩ := lookM_in (hp.mem_iff.mp h)
    rw [h1, q]
    rfl
  · rw [lookM_none.mpr (by rw [ek]; exact h), lookM_none.mpr fun q => h (hp.mem_iff.mpr q)]
theorem OrdOf.vld {leaf : Str} {M M' : Mak} (h : OrdOf M M') (v : Vld leaf M) : Vld leaf M' := by
  refine ⟨v.lf, fun z hz => v.keys z ((h.keys z).mp hz), h.nd, fun m hm => ?_, fun ns hn hs => v.few ns hn fun z hz => (hs z hz).imp id (h.keys z).mp⟩
  have e := h.look m.1
  rw [lookM_mem h.nd hm] at e
  obtain ⟨h1, h2, h3, h4⟩ := v.parts (m.1, m.2) (lookM_some e.symm)
  exact ⟨h1, h2, h3, fun p hp => (h4 p hp).imp id (h.keys p).mpr⟩
/-! ### what is told of kinds -/
def lineK (n : Str) (ps : List Str) : Str := (("kind " : Str) ++ n ++ " ") ++ Txt.join "+" ps
def linesK (leaf : Str) (M : Mak) : List Str := (("leaf " : Str) ++ leaf) :: M.map fun m => lineK m.1 m.2
def usersK (M : Mak) (z : Str) : List Str := (M.filter fun m => decide (z ∈ m.2)).map (·.1)
def partedK (ps : List Str) (z : Str) : List Str := ps.take (ps.idxOf z) ++ ps.drop (ps.idxOf z + 1)
/-- the users by the names and the makings in any order -/
theorem users_by {leaf : Str} {M M' : Mak} {ns : List Str} (h : OrdOf M M') (hn : IsNames leaf (keysOf M) ns) (z : Str) : ns.filter (fun u => decide (z ∈ (lookM M u).getD [])) = usersK M' z := by
  have e : usersK M' z = (keysOf M').filter fun u => decide (z ∈ (lookM M u).getD []) := by
    unfold usersK keysOf
    rw [List.filter_map]
    refine congrArg _ (List.filter_congr fun m hm => ?_)
    show decide (z ∈ m.2) = decide (z ∈ (lookM M m.1).getD [])
    rw [← h.look, lookM_mem h.nd hm]
    rfl
  rw [e]
  refine sorted_same (sortedS_sub hn.srt List.filter_sublist) (sortedS_sub h.srt List.filter_sublist) (hn.nd.sublist List.filter_sublist) (h.nd.sublist List.filter_sublist) fun u => ?_
  rw [List.mem_filter, List.mem_filter, hn.mem, h.keys]
  constructor
  · rintro ⟨h1, h2⟩
    refine ⟨?_, h2⟩
    cases c : decide (u ∈ keysOf M) with
    | true => exact of_decide_eq_true c
    | false =>
      rw [lookM_none.mpr (of_decide_eq_false c)] at h2
      exact absurd (of_decide_eq_true h2) (by simp)
  · rintro ⟨h1, h2⟩
    exact ⟨.inr h1, h2⟩
/-! ### makings in the heap -/
/-- a tuple in the heap whose object has no dict of its own -/
def TupZ (H : Hp) (a : Addr) (xs : List V) : Prop := ∃ ob : Obj, ob.dict = none ∧ H a = some (.frz ob (.tup xs))
theorem TupZ.sq {K : PySem.W.Frag} {H : Hp} {a : Addr} {xs : List V} (h : TupZ H a xs) : SqT K H a xs := by
  obtain ⟨ob, _, e⟩ := h
  exact .inl (.inr ⟨ob, e⟩)
theorem TupZ.ty {K : PySem.W.Frag} {H : Hp} {a : Addr} {xs : List V} (h : TupZ H a xs) : TyX K H (.ref a) (.type "tuple") := by
  obtain ⟨ob, _, e⟩ := h
  exact .fTuple e
theorem TupZ.at {H H' : Hp} {a : Addr} {xs : List V} (h : TupZ H a xs) (s : ∀ o, H a = some o → H' a = some o) : TupZ H' a xs := by
  obtain ⟨ob, d, e⟩ := h
  exact ⟨ob, d, s _ e⟩
theorem TupZ.mono {H H' : Hp} {a : Addr} {xs : List V} (h : TupZ H a xs) (s : Same H H') : TupZ H' a xs := h.at fun o e => s _ _ e
theorem TupZ.ne {H : Hp} {a b : Addr} {xs : List V} (h : TupZ H a xs) {o : HO} (e : H b = some o) (n : ∀ ob, o ≠ .frz ob (.tup xs)) : a ≠ b := fun z => by
  obtain ⟨ob, _, q⟩ := h
  rw [z, e] at q
  exact n ob (Option.some.inj q)
def MakAt (H : Hp) (kvs : List (Key × V)) (M : Mak) : Prop := Paired (fun (kv : Key × V) (m : Str × List Str) => kv.1 = Sum.inr m.1 ∧ ∃ a, kv.2 = .ref a ∧ TupZ H a (m.2.map V.str)) kvs M
theorem MakAt.same {H H' : Hp} {kvs : List (Key × V)} {M : Mak} (h : MakAt H kvs M) (s : ∀ a xs, TupZ H a xs → TupZ H' a xs) : MakAt H' kvs M := by
  unfold MakAt at h ⊢
  induction h with
  | nil => exact .nil
  | cons h _ ih =>
    obtain ⟨h1, a, h2, h3⟩ := h
    exact .cons ⟨h1, a, h2, s a _ h3⟩ ih
theorem MakAt.len {H : Hp} {kvs : List (Key × V)} {M : Mak} (h : MakAt H kvs M) : kvs.length = M.length := Paired.length h
theorem MakAt.keys {H : Hp} {kvs : List (Key × V)} {M : Mak} (h : MakAt H kvs M) : kvs.map (·.1) = (keysOf M).map Sum.inr := by
  unfold MakAt at h
  induction h with
  | nil => rfl
  | cons h _ ih =>
    exact congr (congrArg List.cons h.1) ih
theorem MakAt.get {H : Hp} {kvs : List (Key × V)} {M : Mak} (h : MakAt H kvs M) (z : Str) : (lookM M z = none ∧ valV kvs (Sum.inr z) = none) ∨ ∃ ps a, lookM M z = some ps ∧ valV kvs (Sum.inr z) = some (.ref a) ∧ TupZ H a (ps.map V.str) := by
  unfold MakAt at h
  induction h with
  | nil => exact .inl ⟨rfl, rfl⟩
  | @cons kv m kvs M h _ ih =>
    obtain ⟨h1, a, h2, h3⟩ := h
    rw [lookM_cons]
    by_cases e : m.1 = z
    · rw [if_pos e, valV_pos (by rw [h1, e])]
      exact .inr ⟨m.2, a, rfl, by rw [h2], h3⟩
    · rw [if_neg e, valV_neg (by rw [h1]; exact fun q => e (Sum.inr.inj q))]
      exact ih
theorem MakAt.at {H : Hp} {kvs : List (Key × V)} {M : Mak} (h : MakAt H kvs M) {i : Nat} {k : Key} {v : V} (e : kvs[i]? = some (k, v)) : ∃ m a, M[i]? = some m ∧ k = Sum.inr m.1 ∧ v = .ref a ∧ TupZ H a (m.2.map V.str) := by
  unfold MakAt at h
  induction h generalizing i with
  | nil => cases e
  | @cons kv m kvs M h _ ih =>
    cases i with
    | zero =>
      cases e
      obtain ⟨h1, a, h2, h3⟩ := h
      exact ⟨m, a, rfl, h1, h2, h3⟩
    | succ i => exact ih e
theorem MakAt.key {H : Hp} {kvs : List (Key × V)} {M : Mak} (h : MakAt H kvs M) {z : Str} (hz : z ∈ keysOf M) : ∃ ps a, lookM M z = some ps ∧ valV kvs (Sum.inr z) = some (.ref a) ∧ TupZ H a (ps.map V.str) := by
  rcases h.get z with ⟨e, _⟩ | h
  · exact absurd hz (lookM_none.mp e)
  · exact h
/-- kinds with this leaf and these makings stand at x, their dict at md, their names ns -/
def KindsAt (C : Addr) (H : Hp) (x md : Addr) (leaf : Str) (M : Mak) (ns : List Str) : Prop :=
  ∃ dx nt kvs, H x = some (.ins C dx [("_leaf", .str leaf), ("_makings", .ref md), ("_names", .ref nt)]) ∧ H md = some (.dK kvs) ∧ MakAt H kvs M ∧ H nt = some (.tup (ns.map V.str))
theorem KindsAt.keep {C : Addr} {H H' : Hp} {x md e : Addr} {leaf : Str} {M : Mak} {ns : List Str} (h : KindsAt C H x md leaf M ns) (s : ∀ b o, b ≠ e → H b = some o → H' b = some o) (n1 : x ≠ e) (n2 : md ≠ e) (n3 : ∀ xs, H e ≠ some (.tup xs)) (n4 : ∀ xs, ¬ TupZ H e xs) : KindsAt C H' x md leaf M ns := by
  obtain ⟨dx, nt, kvs, h1, h2, h3, h4⟩ := h
  have t : ∀ a xs, H a = some (.tup xs) → H' a = some (.tup xs) := fun a xs q => s a _ (fun z => n3 xs (z ▸ q)) q
  exact ⟨dx, nt, kvs, s _ _ n1 h1, s _ _ n2 h2, h3.same fun a xs q => q.at fun o e' => s _ _ (fun z => n4 xs (z ▸ q)) e', t _ _ h4⟩
theorem KindsAt.same {C : Addr} {H H' : Hp} {x md : Addr} {leaf : Str} {M : Mak} {ns : List Str} (h : KindsAt C H x md leaf M ns) (s : Same H H') : KindsAt C H' x md leaf M ns := by
  obtain ⟨dx, nt, kvs, h1, h2, h3, h4⟩ := h
  exact ⟨dx, nt, kvs, s _ _ h1, s _ _ h2, h3.same fun a xs q => q.mono s, s _ _ h4⟩
end Kl

set_option maxRecDepth 100000
set_option maxHeartbeats 4000000
namespace Gx
open PySem PySem.Spec PyProof.Rows L2
/-- the name x is a def called with n values by position and keywords ks, that keeps sp and raises nothing -/
def CalO (P : Program) (w : World) (K : PySem.W.Frag) (mg : Str → Option Value) (base : Heap) (k : Nat) (x : Str) (ps : List Str) (n : Nat) (ks : List Str) (gV : List V → List V → List V) (sp : Sp) : Prop :=
  ∃ (f : Addr) (fd : FuncData) (g : List Value → List Value → List Value), FnOk P w K mg base CX0 k f fd ps sp ∧ PySem.W.keepIn K (.ref f) = true ∧ KBn K fd ps n ks g gV ∧ mg x = some (.ref f)
section
variable {P : Program} {w : World} {K : PySem.W.Frag} {mg : Str → Option Value} {base : Heap}
theorem DefK.calO {x qual : Str} {st : Stmt} {ps ks : List Str} {n : Nat} (d : DefK K mg x qual st ps n ks) {k : Nat} {sp : Sp} (h : ∀ f fd, Fun K x qual st f fd → FnOk P w K mg base CX0 k f fd ps sp) : CalO P w K mg base k x ps n ks (fun vs zs => vs ++ zs) sp := by
  obtain ⟨f, fd, F, b, g⟩ := d
  exact ⟨f, fd, _, h f fd F, F.kp, b, g⟩
theorem CalO.mono {x : Str} {ps ks : List Str} {n j k : Nat} {gV : List V → List V → List V} {sp : Sp} (c : CalO P w K mg base j x ps n ks gV sp) (h : j ≤ k) : CalO P w K mg base k x ps n ks gV sp := by
  obtain ⟨f, fd, g, F, more⟩ := c
  exact ⟨f, fd, g, F.mono h, more⟩
end
section
variable {X : Cx}
def tClO (n m : Nat) (sp : Sp) (gV : List V → List V → List V) (t tk : TA) : TE := fun σ H Q => t σ H fun vs H1 => tk σ H1 fun zs H2 => vs.length = n ∧ zs.length = m ∧ sp (gV vs zs) H2 Q E0
theorem pe_calO {x : Str} {ps ks : List Str} {n : Nat} {gV : List V → List V → List V} {sp : Sp} {k : Nat} {e : Expr} {es : List Expr} {kws : List Keyword} {t tk : TA} {p pos : Pos} (c : CalO X.prog X.w X.K X.mg X.base k x ps n ks gV sp) (room : Room k X.A) (hg : Gl X x)
    (h : PA X (e :: es) t) (hk : PK X kws tk) (hall : (backToKw pos (keywordEach kws X.env)).all (·.1.isSome) = true := by rfl) (hks : (backToKw pos (keywordEach kws X.env)).filterMap (·.1) = ks := by rfl)
    (hdb : (x == ("__debug__" : Str)) = false := by decide) (hst : starEach (e :: es) X.env = (false, eval e X.env) :: starEach es X.env := by rfl)
    (hpl : ((backTo pos (starEach (e :: es) X.env)).any (·.1) || (backToKw pos (keywordEach kws X.env)).any (·.1.isNone)) = false := by rfl) :
    PE X (.Call (.Name x p) (e :: es) kws pos) (tClO n ks.length sp gV t tk) := by
  obtain ⟨f, fd, gg, F, kp, b, hm⟩ := c
  refine ⟨fun pins s σ H Q I want => wpAny_Call_Name_kw (ld_glob I hg hm ?_ hdb)⟩
  refine PySem.W.callWith_KW (h₀ := X.base) I.ok.mod.kin kp hall (thn (h.run pos pins s σ H _ I want) ?_) hpl hst
  rintro us s1 ⟨vs, H1, I1, r, q⟩
  refine thn (hk.run pos pins s1 σ H1 _ I1 q) ?_
  rintro ws s2 ⟨zs, H2, I2, rz, l1, l2, q2⟩
  refine ⟨I2.kIn, ?_⟩
  rw [hks]
  have rel := b.rel r rz
  have bt := b.to s2 us ws I2.kIn (r.length.symm.trans l1) (rz.length.symm.trans l2)
  refine wpAny_call (codeAny_mono (F.run X.A X.stack s2 H2 ⟨us, ks.zip ws⟩ _ _ Q E0 room I2.env0 bt rel q2) fun res s' hres => ?_)
  match res, hres with
  | .error e, hres => exact hres.elim
  | .ok (.ret u), hres => exact I2.after hres
end
/-! ### rules within comprehensions, the written part named -/
section
variable {X : Cx} {K : PySem.W.Frag}
theorem pi_tupK {tg l : Expr} {tl : TE} (hk : X.K = K) (hl : PE X l tl) : PI X tg l (iTup K tl) := by
  subst hk
  exact pi_tup hl
theorem pi_listK {tg l : Expr} {tl : TE} (hk : X.K = K) (hl : PE X l tl) : PI X tg l (iList K tl) := by
  subst hk
  exact pi_list hl
theorem op_inSeqK (hk : X.K = K) : OpR X (compareOp .In) (rIn K false) := by
  subst hk
  exact op_in_seq
end
/-- a walk's bookkeeping, whatever its turn does -/
theorem walk_in {J : It} {n : Nat} {G : Hp → Prop} {Y : Nat → Hp → V → Hp → Prop} (w : Walk J n G Y) {H0 : Hp} {Qd : Hp → Prop} {body : V → Hp → (Hp → Prop) → Prop} (Pv : Nat → Hp → Prop) (h0 : Pv 0 H0) (hG : ∀ i H, i ≤ n → Pv i H → G H)
    (hs : ∀ i x H H', i < n → Pv i H → Y i H x H' → body x H' (Pv (i + 1))) (hd : ∀ H, Pv n H → Qd H) :
    ∃ W : Nat → Nat → Hp → Prop, (∃ m, W 0 m H0) ∧ ∀ i m H, W i m H → (J.stop i H ∧ Qd H) ∨ (J.go i H ∧ ∃ Nx : Hp → Prop, (∀ H', Nx H' → ∃ m', m' < m ∧ W (i + 1) m' H') ∧ ∀ x H', J.yld i H x H' → body x H' Nx) := by
  refine ⟨fun i m H => m = n - i ∧ i ≤ n ∧ Pv i H, ⟨n, (Nat.sub_zero n).symm, Nat.zero_le _, h0⟩, ?_⟩
  rintro i m H ⟨rfl, hi, p⟩
  have q := hG i H hi p
  rcases Nat.lt_or_ge i n with lt | ge
  · exact .inr ⟨w.goes i H lt q, Pv (i + 1), fun H' p' => ⟨n - (i + 1), by omega, rfl, lt, p'⟩, fun x H' y => hs i x H H' lt p (w.yields i H x H' lt q y)⟩
  · obtain rfl : i = n := Nat.le_antisymm hi ge
    exact .inl ⟨w.stops H q, hd H p⟩
end Gx
namespace Kl
open PySem PySem.Spec PyProof.Rows L2 Gx Mx
section
variable {P : Program} {w : World} {K : PySem.W.Frag} {mg : Str → Option Value} {base : Heap}
/-! ### is_sorted of texts -/
def spSorted (K : PySem.W.Frag) : Sp := fun vs H Q _ => ∃ (p : Addr) (zs : List Str) (M : Int), vs = [.ref p, .int M] ∧ SqT K H p (zs.map V.str) ∧ TyX K H (.ref p) (.type "tuple") ∧ 0 ≤ M ∧ M ≤ 100 ∧ zs.length ≤ 1000 ∧ (∀ z ∈ zs, z.length ≤ 1000) ∧
  ∀ H', Same H H' → Q (.bl (decide ((zs.length : Int) ≤ M) && (zs.all nameB && sortedS zs))) H'
theorem names_low {z : Str} (h : nameB z = true) : PyData.strOk z = true := by
  unfold nameB at h
  rw [Bool.and_eq_true] at h
  show z.cps.all _ = true
  rw [Array.all_eq_true']
  intro c hc
  have := List.all_eq_true.mp h.2 c (Array.mem_toList_iff.mpr hc)
  exact decide_eq_true (Nat.lt_trans (isLow_lt this) (by decide))
theorem ok_sorted {f : Addr} {fd : FuncData} (F : Fun K "is_sorted" "is_sorted" s_is_sorted f fd) (T : Top K mg) : FnOk P w K mg base CX0 3 f fd ["value", "most"] (spSorted K) := by
  have cc : Cal P w K mg base 2 "is_count" ["value"] (spCnt K) := T.d_is_count.cal fun f fd F => ok_cnt F T
  have cn : Cal P w K mg base 2 "is_name" ["value"] (spName K) := (T.d_is_name.cal fun f fd F => ok_name F T).mono (by decide)
  refine F.ok sc_is_sorted (fun vs H Q E h => ?_) (fun cdv A outer s H vs Q E hr h => ?_)
  · obtain ⟨p, zs, M, rfl, _⟩ := h
    rfl
  · obtain ⟨p, zs, M, rfl, hp, hT, hM, hM2, hlen, hz, hq⟩ := h
    refine ⟨_, pss_cons (ps_if (pt_not (pt_val (pe_cal cc hr (by rfl) (pa_cons (pv 1) pa_nil)))) (pss_one ps_never) pss_nil)
      (pss_cons (ps_if (PW.pt (pw_or (pt_not (pt_val (pe_callB call_isi (by rfl) T.b_isinstance (by decide +kernel) (pa_cons (pv 0) (pa_cons (pe_bltn (v := .ty "tuple") (by rfl) T.b_tuple (by decide +kernel) rfl) pa_nil)))))
          (pw_or1 (pt_cmpR op_gt (pe_callB call_len_seq (by rfl) T.b_len PySem.boot_len (pa_cons (pv 0) pa_nil)) (pv 1) (nomark _))))) (pss_one (ps_ret pe_bl)) pss_nil)
      (pss_cons (ps_if (pt_not (pt_val (pe_callB (cr_all rfl) (by rfl) T.b_all (by decide +kernel) (pa_cons (pe_lc (own := [("name", 2)]) (g := gName 2) (tt := tYes) rfl sc_is_sorted.nd (pi_tup (pv 0))
            (blkOk_by (N := ["value", "most", "name"]) (sc := defScope s_is_sorted) (by decide +kernel))
            (fun _ _ _ _ _ => pg_name (i := 2) sc_is_sorted.nd rfl (.inl rfl)) (fun _ _ _ _ _ => pts_nil) (fun _ _ _ _ _ => pe_cal cn hr (by rfl) (pa_cons (pv 2) pa_nil))) pa_nil)))) (pss_one (ps_ret pe_bl)) pss_nil)
      (pss_one (ps_ret (pe_cmpR (op_eqD hr.units) (pe_callTy call_list_of (by rfl) T.b_list (by decide +kernel) (pa_cons (pv 0) pa_nil)) (pe_callB cr_sortedTS (by rfl) T.b_sorted (by decide +kernel) (pa_cons (pv 0) pa_nil)) (nomark _)))))), ?_⟩
    have hc : cntV (.int M) = true := by
      show ((decide (-TEN60 < M) && decide (M < TEN60)) && decide (0 ≤ M)) = true
      rw [decide_eq_true (show -TEN60 < M by unfold TEN60; omega), decide_eq_true (show M < TEN60 by unfold TEN60; omega), decide_eq_true hM]
      rfl
    refine ⟨_, rfl, .int M, rfl, .inl ⟨M, rfl⟩, _, rfl, ?_⟩
    rw [hc]
    refine ⟨_, rfl, _, .ty "tuple", .type "tuple", .type "tuple", true, rfl, .ty _, hT, kit_ty (by decide +kernel), true, rfl, ?_⟩
    refine ⟨_, rfl, p, _, rfl, .inr hp, _, rfl, _, _, rfl, rfl, _, rfl, ite2 (fun e => ?_) (fun e => ?_)⟩
    · have e1 : decide ((zs.length : Int) ≤ M) = false := decide_eq_false (by
        have := of_decide_eq_true e
        rw [List.length_map] at this
        omega)
      rw [e1, Bool.false_and] at hq
      exact hq H (Same.refl H)
    · have e1 : decide ((zs.length : Int) ≤ M) = true := decide_eq_true (by
        have : ¬ (M < ((zs.map V.str).length : Int)) := fun z => e (decide_eq_true z)
        rw [List.length_map] at this
        omega)
      rw [e1, Bool.true_and] at hq
      refine ⟨_, rfl, p, rfl, ⟨_, hp⟩, fun D hD => ?_⟩
      refine lc_tup (xs := zs.map V.str) (fun j H2 => H2 D = some (.lst ((zs.take j).map fun z => V.bl (nameB z))) ∧ Same H H2) ⟨upd_same, fun b u e => by rw [upd_ne (ne_of_none e hD)]; exact e⟩ (fun j H2 _ hP => ?_) (fun j x H2 hj hP => ?_) (fun H2 hP => ?_)
      · rcases hp with (h | ⟨u, h⟩) | h
        · exact .inl (.inl (hP.2 _ _ h))
        · exact .inl (.inr ⟨u, hP.2 _ _ h⟩)
        · exact .inr h
      · obtain ⟨eD, sm⟩ := hP
        obtain ⟨z, hzj, rfl⟩ : ∃ z, zs[j]? = some z ∧ V.str z = x := by
          rw [List.getElem?_map] at hj
          cases e : zs[j]? with
          | none => rw [e] at hj; cases hj
          | some z => rw [e] at hj; exact ⟨z, rfl, by cases hj; rfl⟩
        refine ⟨rfl, _, rfl, _, rfl, .inl ⟨z, rfl, Nat.le_trans (hz z (List.mem_of_getElem? hzj)) (by decide)⟩, _, eD, ?_, ?_, fun b u e => by rw [upd_ne (ne_of_none e hD)]; exact sm b u e⟩
        · rw [List.length_map, List.length_take]
          exact Nat.lt_of_le_of_lt (Nat.le_trans (Nat.min_le_right _ _) hlen) (by decide)
        · rw [upd_same, List.take_add_one, hzj, List.map_append]
          rfl
      · obtain ⟨eD, sm⟩ := hP
        rw [List.length_map, List.take_length] at eD
        refine ⟨D, zs.map nameB, rfl, .inl (.inl (by rw [eD, List.map_map]; rfl)), _, rfl, ?_⟩
        have ea : (zs.map nameB).all id = zs.all nameB := by rw [List.all_map]; rfl
        rw [ea]
        cases hall : zs.all nameB with
        | false =>
          rw [hall, Bool.false_and] at hq
          exact hq _ sm
        | true =>
          rw [hall, Bool.true_and] at hq
          have hok : ∀ z ∈ zs, PyData.strOk z = true := fun z hz => names_low (List.all_eq_true.mp hall z hz)
          have hp2 : SqT K H2 p (zs.map V.str) := by
            rcases hp with (h | ⟨u, h⟩) | h
            · exact .inl (.inl (sm _ _ h))
            · exact .inl (.inr ⟨u, sm _ _ h⟩)
            · exact .inr h
          refine ⟨_, rfl, p, _, rfl, .inr hp2, fun l nl => ?_⟩
          have sm2 : Same H (upd H2 l (.lst (zs.map V.str))) := fun b u e => by rw [upd_ne (ne_of_none (sm b u e) nl)]; exact sm b u e
          have hp3 : SqT K (upd H2 l (.lst (zs.map V.str))) p (zs.map V.str) := by
            rcases hp with (h | ⟨u, h⟩) | h
            · exact .inl (.inl (sm2 _ _ h))
            · exact .inl (.inr ⟨u, sm2 _ _ h⟩)
            · exact .inr h
          refine ⟨_, rfl, p, zs, rfl, hp3, by omega, fun ys l2 hperm hsrt nl2 => ?_⟩
          refine ⟨.list (tD zs), .list (tD ys), ?_, ?_, shaped_texts hok, shaped_texts (fun z hz => hok z (hperm.mem_iff.mp hz)), ?_⟩
          · exact .lst (.inl (.inl (by rw [upd_ne (ne_of_none upd_same nl2), upd_same]))) (dp_texts zs)
          · exact .lst (.inl (.inl upd_same)) (dp_texts ys)
          · rw [PyData.eqv, eqv_texts, eq_sorted_iff hperm hsrt]
            exact hq _ (fun b u e => by rw [upd_ne (ne_of_none (sm2 b u e) nl2)]; exact sm2 b u e)
/-! ### _is_making of a making -/
def spMaking (K : PySem.W.Frag) : Sp := fun vs H Q _ => ∃ (p : Addr) (zs : List Str), vs = [.ref p] ∧ TupZ H p (zs.map V.str) ∧ zs.all nameB = true ∧ sortedS zs = true ∧ 2 ≤ zs.length ∧ zs.length ≤ 3 ∧ (∀ z ∈ zs, z.length ≤ 1000) ∧ ∀ H', Same H H' → Q (.bl true) H'
theorem ok_making {f : Addr} {fd : FuncData} (F : Fun K "_is_making" "_is_making" s_is_making f fd) (T : Top K mg) : FnOk P w K mg base CX0 4 f fd ["value"] (spMaking K) := by
  obtain ⟨tm, gm⟩ := T.g_MAX_PARTS
  have cs : CalO P w K mg base 3 "is_sorted" ["value", "most"] 1 ["most"] (fun vs zs => vs ++ zs) (spSorted K) := T.d_is_sorted.calO fun f fd F => ok_sorted F T
  refine F.ok sc_is_making (fun vs H Q E h => ?_) (fun cdv A outer s H vs Q E hr h => ?_)
  · obtain ⟨p, zs, rfl, _⟩ := h
    rfl
  · obtain ⟨p, zs, rfl, hp, hn, hs, h2, h3, hz, q⟩ := h
    refine ⟨_, pss_one (ps_ret (pe_and (pe_calO cs hr (by rfl) (pa_cons (pv 0) pa_nil) (pk_cons (pe_glob (v := .int 3) (by rfl) gm ⟨_, rfl⟩) pk_nil))
      (pe_one (pe_cmpR op_ge (pe_callB call_len_seq (by rfl) T.b_len PySem.boot_len (pa_cons (pv 0) pa_nil)) pe_int (nomark _))))), ?_⟩
    refine ⟨_, rfl, rfl, rfl, p, zs, 3, rfl, hp.sq, hp.ty, by decide, by decide, by omega, hz, fun H1 s1 => ⟨_, rfl, ?_⟩⟩
    rw [hn, hs, decide_eq_true (show ((zs.length : Int) ≤ 3) by omega)]
    refine ⟨_, rfl, p, _, rfl, .inr (hp.mono s1).sq, _, _, rfl, rfl, ?_⟩
    have e : decide ((2 : Int) ≤ ((zs.map V.str).length : Int)) = true := decide_eq_true (by rw [List.length_map]; omega)
    show Q (.bl (decide ((2 : Int) ≤ ((zs.map V.str).length : Int)))) H1
    rw [e]
    exact q H1 s1
/-! ### _all_names -/
def spNames : Sp := fun vs H Q _ => ∃ (leaf : Str) (md : Addr) (kvs : List (Key × V)) (ks : List Str), vs = [.str leaf, .ref md] ∧ H md = some (.dK kvs) ∧ kvs.map (·.1) = ks.map Sum.inr ∧ ks.length ≤ 100 ∧
  ∀ (ns : List Str) (p : Addr) (H' : Hp), IsNames leaf ks ns → Same H H' → H p = none → H' p = some (.tup (ns.map V.str)) → Q (.ref p) H'
theorem ok_names {f : Addr} {fd : FuncData} (F : Fun K "_all_names" "_all_names" s_all_names f fd) (T : Top K mg) : FnOk P w K mg base CX0 1 f fd ["leaf", "makings"] spNames := by
  refine F.ok sc_all_names (fun vs H Q E h => ?_) (fun cdv A outer s H vs Q E hr h => ?_)
  · obtain ⟨leaf, md, kvs, ks, rfl, _⟩ := h
    rfl
  · obtain ⟨leaf, md, kvs, ks, rfl, hd, hk, hl, q⟩ := h
    refine ⟨_, pss_one (ps_ret (pe_callTy call_tuple_of (by rfl) T.b_tuple (by decide +kernel) (pa_cons (pe_callB (cr_sortedX rfl) (by rfl) T.b_sorted (by decide +kernel) (pa_cons
      (pe_callTy (cr_setX rfl) (by rfl) T.b_set (by decide +kernel) (pa_cons (pe_lst (pa_cons (pv 0) (pa_starD rfl (pv 1) pa_nil))) pa_nil)) pa_nil)) pa_nil))), ?_⟩
    have ek : (kvs.map fun kv => kV kv.1) = ks.map V.str := by
      have e := congrArg (List.map kV) hk
      rw [List.map_map, List.map_map] at e
      exact e
    have lk : kvs.length = ks.length := by
      have e := congrArg List.length hk
      rw [List.length_map, List.length_map] at e
      exact e
    have e1 : [V.str leaf] ++ ((kvs.map fun kv => kV kv.1) ++ []) = ((leaf :: ks).map V.str) := by rw [List.append_nil, ek]; rfl
    refine ⟨_, rfl, _, rfl, md, kvs, rfl, hd, ?_, fun l nl => ?_⟩
    · show (V.str leaf :: ((kvs.map fun kv => kV kv.1) ++ [])).length ≤ sizeLine
      rw [List.length_cons, List.append_nil, List.length_map]
      exact Nat.le_trans (show kvs.length + 1 ≤ 101 by omega) (by decide)
    have s1 : Same H (upd H l (.lst ((leaf :: ks).map V.str))) := fun b u e => by rw [upd_ne (ne_of_none e nl)]; exact e
    have e2 : upd H l (.lst (V.str leaf :: ((kvs.map fun kv => kV kv.1) ++ []))) = upd H l (.lst ((leaf :: ks).map V.str)) := by rw [← e1]; rfl
    rw [e2]
    generalize hH1 : upd H l (.lst ((leaf :: ks).map V.str)) = H1 at s1
    have h1l : H1 l = some (.lst ((leaf :: ks).map V.str)) := by rw [← hH1, upd_same]
    refine ⟨l, leaf :: ks, rfl, .inl (.inl h1l), by show (leaf :: ks).length ≤ 1000; rw [List.length_cons]; omega, fun a na => ?_⟩
    have s2 : Same H (upd H1 a (SetO' P w a (leaf :: ks))) := fun b u e => by rw [upd_ne (ne_of_none (s1 b u e) na)]; exact s1 b u e
    refine ⟨a, leaf :: ks, rfl, upd_same, by show (leaf :: ks).length ≤ 1000; rw [List.length_cons]; omega, fun ys p hs nd hm np => ?_⟩
    have s3 : Same H (upd (upd H1 a (SetO' P w a (leaf :: ks))) p (.lst (ys.map V.str))) := fun b u e => by rw [upd_ne (ne_of_none (s2 b u e) np)]; exact s2 b u e
    refine ⟨p, ys.map V.str, rfl, .inl ⟨.inl (.inl upd_same), fun t nt => ?_⟩⟩
    refine q ys t _ ⟨hs, nd, fun z => (hm z).trans List.mem_cons⟩ (fun b u e => by rw [upd_ne (ne_of_none (s3 b u e) nt)]; exact s3 b u e) ?_ upd_same
    exact s3.free nt
end
end Kl

set_option maxRecDepth 100000
set_option maxHeartbeats 4000000
namespace Kl
open PySem PySem.Spec PyProof.Rows L2 Gx Mx
section
variable {P : Program} {w : World} {K : PySem.W.Frag} {mg : Str → Option Value} {base : Heap}
theorem flat_strs' (zs : List Str) : (zs.map V.str).all flatV = true := by
  rw [List.all_map]
  exact List.all_eq_true.mpr fun _ _ => rfl
theorem inV_strs (z : Str) (zs : List Str) : inV (.str z) (zs.map V.str) = decide (z ∈ zs) := by
  unfold inV
  rw [List.any_map]
  have e : (fun y => eqV y (V.str z)) ∘ V.str = fun y => decide (y = z) := by
    funext y
    show (y == z) = decide (y = z)
    by_cases h : y = z
    · subst h
      rw [decide_eq_true rfl]
      exact beq_self_eq_true y
    · rw [decide_eq_false h]
      exact beq_eq_false_iff_ne.mpr h
  rw [e, Bool.eq_iff_iff, List.any_eq_true, decide_eq_true_eq]
  constructor
  · rintro ⟨y, hy, q⟩
    rw [← of_decide_eq_true q]
    exact hy
  · intro h
    exact ⟨z, h, decide_eq_true rfl⟩
/-! ### _are_kinds of kinds -/
def spAre : Sp := fun vs H Q _ => ∃ (leaf : Str) (md : Addr) (kvs : List (Key × V)) (M : Mak), vs = [.str leaf, .ref md] ∧ H md = some (.dK kvs) ∧ MakAt H kvs M ∧ Vld leaf M ∧ ∀ H', Same H H' → Q (.bl true) H'
theorem all_true (n : Nat) : (List.replicate n true).all id = true := by
  induction n with
  | zero => rfl
  | succ n ih => rw [List.replicate_succ, List.all_cons, ih]; rfl
theorem rep_snoc (j : Nat) : (List.replicate j (V.bl true)) ++ [V.bl true] = List.replicate (j + 1) (V.bl true) := by
  rw [List.replicate_succ', ]
theorem rep_map (n : Nat) : List.replicate n (V.bl true) = (List.replicate n true).map V.bl := by rw [List.map_replicate]
abbrev NA : List Str := ["leaf", "makings", "names", "name", "part"]
theorem ok_are {f : Addr} {fd : FuncData} (F : Fun K "_are_kinds" "_are_kinds" s_are_kinds f fd) (T : Top K mg) : FnOk P w K mg base CX0 5 f fd ["leaf", "makings"] spAre := by
  obtain ⟨tm, gm⟩ := T.g_MAX_KINDS
  have cn : Cal P w K mg base 4 "is_name" ["value"] (spName K) := (T.d_is_name.cal fun f fd F => ok_name F T).mono (by decide)
  have cm : Cal P w K mg base 4 "_is_making" ["value"] (spMaking K) := T.d_is_making.cal fun f fd F => ok_making F T
  have ca : Cal P w K mg base 4 "_all_names" ["leaf", "makings"] spNames := (T.d_all_names.cal fun f fd F => ok_names F T).mono (by decide)
  refine F.ok sc_are_kinds (fun vs H Q E h => ?_) (fun cdv A outer s H vs Q E hr h => ?_)
  · obtain ⟨leaf, md, kvs, M, rfl, _⟩ := h
    rfl
  · obtain ⟨leaf, md, kvs, M, rfl, hd, hM, hV, q⟩ := h
    have hu := hu_of hr
    refine ⟨_, pss_cons (ps_if (PW.pt (pw_or (pt_not (pt_val (pe_cal cn hr (by rfl) (pa_cons (pv 0) pa_nil)))) (pw_or1 (pt_not (pt_val (pe_callB call_isi (by rfl) T.b_isinstance (by decide +kernel) (pa_cons (pv 1) (pa_cons (pe_bltn (v := .ty "dict") (by rfl) T.b_dict (by decide +kernel) rfl) pa_nil))))))))
          (pss_one (ps_ret pe_bl)) pss_nil)
      (pss_cons (ps_if (pt_not (pt_val (pe_callB (cr_all rfl) (by rfl) T.b_all (by decide +kernel) (pa_cons (pe_lock (pe_lc (own := [("name", 3)]) (g := gName 3) (tt := tYes) rfl sc_are_kinds.nd (pi_keys (pv 1))
            (blkOk_by (N := NA) (sc := defScope s_are_kinds) (by decide +kernel)) (fun _ _ _ _ _ => pg_name (i := 3) sc_are_kinds.nd rfl (.inl rfl)) (fun _ _ _ _ _ => pts_nil)
            (fun _ _ _ _ _ => pe_and (pe_cal cn hr (by rfl) (pa_cons (pv 3) pa_nil)) (pe_one (pe_cal cm hr (by rfl) (pa_cons (pe_dget hu (pv 1) (pv 3) (fun _ _ => rfl)) pa_nil)))))) pa_nil)))) (pss_one (ps_ret pe_bl)) pss_nil)
      (pss_cons (ps_set (i := 2) sc_are_kinds.nd rfl (.inr rfl) (pe_cal ca hr (by rfl) (pa_cons (pv 0) (pa_cons (pv 1) pa_nil))))
      (pss_cons (ps_if (pt_cmpR op_gt (pe_callB call_len_seq (by rfl) T.b_len PySem.boot_len (pa_cons (pv 2) pa_nil)) (pe_glob (v := .int 6) (by rfl) gm ⟨_, rfl⟩) (nomark _)) (pss_one (ps_ret pe_bl)) pss_nil)
      (pss_one (ps_ret (pe_callB (cr_all rfl) (by rfl) T.b_all (by decide +kernel) (pa_cons (pe_lock (pe_lc2 (own := [("name", 3), ("part", 4)]) (vs1 := [4]) (g := gName 3) (g1 := gName 4) (tt := tYes) (tt1 := tYes) rfl sc_are_kinds.nd (pi_keys (pv 1))
            (blkOk_by (N := NA) (sc := defScope s_are_kinds) (by decide +kernel)) (by decide) (fun _ _ _ _ _ => pg_name (i := 3) sc_are_kinds.nd rfl (.inl rfl)) (fun _ _ _ _ _ => pts_nil) (fun _ _ _ _ _ => pi_tupK (K := K) (by exact rfl) (pe_dget hu (pv 1) (pv 3) (fun _ _ => rfl)))
            (fun _ _ _ _ _ => pg_name (i := 4) sc_are_kinds.nd rfl (.inl rfl)) (fun _ _ _ _ _ => pts_nil)
            (fun _ _ _ _ _ => pe_cmpR (op_inSeqK (K := K) (by exact rfl)) (pv 4) (pv 2) (by rfl)))) pa_nil))))))), ?_⟩
    have lM := hV.len
    have lk := hM.len
    -- is_name(leaf), isinstance(makings, dict)
    refine ⟨_, rfl, .str leaf, rfl, .inl ⟨leaf, rfl, Nat.le_trans (pool_len hV.lf) (by decide)⟩, _, rfl, ?_⟩
    rw [show nameV (.str leaf) = true from pool_name hV.lf]
    refine ⟨_, rfl, _, .ty "dict", .type "dict", .type "dict", true, rfl, .ty _, .base (.dK hd), kit_ty (by decide +kernel), true, rfl, ?_⟩
    -- all([..])
    refine ⟨md, _, hd, trivial, fun od => ?_⟩
    have dM : ∀ {j : Nat} {m : Str × List Str}, M[j]? = some m → ∀ {H2 : Hp}, Same (upd H md (.frz od (.dK kvs))) H2 → ∃ a, DGet H2 md (.str m.1) (some (.ref a)) ∧ TupZ H2 a (m.2.map V.str) := by
      intro j m hj H2 s2
      obtain ⟨ps, a, e1, e2, e3⟩ := hM.key (z := m.1) (List.mem_map.mpr ⟨m, List.mem_of_getElem? hj, rfl⟩)
      rw [lookM_mem hV.nd (List.mem_of_getElem? hj)] at e1
      cases e1
      have na : a ≠ md := e3.ne hd (fun _ => nofun)
      refine ⟨a, .inl ⟨kvs, Sum.inr m.1, .inr ⟨od, s2 _ _ upd_same⟩, rfl, e2.symm⟩, (e3.at fun o e => by rw [upd_ne na]; exact e).mono s2⟩
    refine ⟨_, rfl, md, od, rfl, .inl ⟨kvs, upd_same, fun D hD => ?_⟩⟩
    refine lc_it walk_keys (fun j H2 => H2 D = some (.lst (List.replicate j (V.bl true))) ∧ Same (upd H md (.frz od (.dK kvs))) H2) ⟨upd_same, fun b u e => by rw [upd_ne (ne_of_none e hD)]; exact e⟩ (fun j H2 _ hP => hP.2 _ _ upd_same) (fun j x H2 H2' hj hP hy => ?_) (fun H2 hP => ?_)
    · obtain ⟨eD, sm⟩ := hP
      obtain ⟨rfl, k, v, hkv, rfl⟩ := hy
      obtain ⟨m, a, hm, rfl, rfl, _⟩ := hM.at hkv
      have hmM := List.mem_of_getElem? hm
      obtain ⟨p1, p2, p3, p4⟩ := hV.parts m hmM
      obtain ⟨a', hg, ha⟩ := dM hm sm
      have hpool : m.1 ∈ POOL := hV.keys _ (List.mem_map.mpr ⟨m, hmM, rfl⟩)
      refine ⟨rfl, _, rfl, .str m.1, rfl, .inl ⟨m.1, rfl, Nat.le_trans (pool_len hpool) (by decide)⟩, _, rfl, ?_⟩
      rw [show nameV (.str m.1) = true from pool_name hpool]
      refine ⟨_, rfl, _, rfl, md, _, rfl, hg, a', m.2, rfl, ha, List.all_eq_true.mpr fun z hz => pool_name (hV.part hmM hz), p1, p2, p3, fun z hz => Nat.le_trans (pool_len (hV.part hmM hz)) (by decide), fun H3 s3 => ?_⟩
      refine ⟨_, s3 _ _ eD, ?_, ?_, fun b u e => by rw [upd_ne (ne_of_none e hD)]; exact s3 _ _ (sm b u e)⟩
      · rw [List.length_replicate]
        exact Nat.lt_of_le_of_lt (show j ≤ 6 by omega) (by decide)
      · rw [upd_same, rep_snoc]
    obtain ⟨eD, sm⟩ := hP
    have s1 := same_unlock hd sm
    refine ⟨sm _ _ upd_same, D, List.replicate kvs.length true, rfl, .inl (.inl ?_), _, rfl, ?_⟩
    · have nD : D ≠ md := fun z => by
        rw [z, upd_same] at hD
        cases hD
      rw [upd_ne nD, eD, rep_map]
    rw [all_true]
    generalize upd H2 md (.dK kvs) = H3 at s1
    have hd3 := s1 _ _ hd
    have hM3 : MakAt H3 kvs M := hM.same fun a xs e => e.mono s1
    -- names
    refine ⟨_, rfl, _, rfl, leaf, md, kvs, keysOf M, rfl, hd3, hM3.keys, by unfold keysOf; rw [List.length_map]; omega, fun ns p H4 hns s4 np hp => ?_⟩
    refine ⟨_, rfl, p, _, rfl, .inr (.inl (.inl hp)), _, _, rfl, rfl, _, rfl, ?_⟩
    have few : ns.length ≤ 6 := hV.few ns hns.nd fun z hz => (hns.mem z).mp hz
    refine ite2 (fun e => ?_) (fun _ => ?_)
    · exfalso
      have e := of_decide_eq_true e
      rw [List.length_map] at e
      omega
    have hd4 := s4 _ _ hd3
    have hM4 : MakAt H4 kvs M := hM3.same fun a xs e => e.mono s4
    have s14 : Same H H4 := fun b u e => s4 _ _ (s1 _ _ e)
    clear hd hM hd3 hM3 s1 s4 hD eD sm dM
    refine ⟨md, _, hd4, trivial, fun od => ?_⟩
    have npm : p ≠ md := fun z => by
      rw [z, hd4] at hp
      cases hp
    refine ⟨_, rfl, md, od, rfl, .inl ⟨kvs, upd_same, fun D hD => ?_⟩⟩
    refine walk_in walk_keys (fun j H2 => ∃ n, H2 D = some (.lst (List.replicate n (V.bl true))) ∧ n ≤ 3 * j ∧ Same (upd H4 md (.frz od (.dK kvs))) H2) ⟨0, upd_same, Nat.zero_le _, fun b u e => by rw [upd_ne (ne_of_none e hD)]; exact e⟩ (fun j H2 _ hP => by obtain ⟨_, _, _, s5⟩ := hP; exact s5 _ _ upd_same) (fun j x H2 H2' hj hP hy => ?_) (fun H2 hP => ?_)
    · obtain ⟨n, eD, ln, sm⟩ := hP
      obtain ⟨rfl, k, v, hkv, rfl⟩ := hy
      obtain ⟨m, a, hm, rfl, rfl, ha⟩ := hM4.at hkv
      have hmM := List.mem_of_getElem? hm
      obtain ⟨p1, p2, p3, p4⟩ := hV.parts m hmM
      have na : a ≠ md := ha.ne hd4 (fun _ => nofun)
      have ha1 : TupZ (upd H4 md (.frz od (.dK kvs))) a (m.2.map V.str) := ha.at fun o e => by rw [upd_ne na]; exact e
      have hv : valV kvs (Sum.inr m.1) = some (.ref a) := by
        obtain ⟨ps, a', e1, e2, e3⟩ := hM4.key (z := m.1) (List.mem_map.mpr ⟨m, hmM, rfl⟩)
        have e4 : (kvs.map (·.1)).Nodup := by
          rw [hM4.keys]
          exact List.Pairwise.map Sum.inr (fun a b h q => h (Sum.inr.inj q)) hV.nd
        have e5 := val_nodup e4 (Sum.inr m.1, .ref a) (List.mem_of_getElem? hkv)
        exact e5
      refine ⟨rfl, ?_⟩
      refine ⟨_, rfl, _, rfl, md, .ref a, rfl, .inl ⟨kvs, Sum.inr m.1, .inr ⟨od, sm _ _ upd_same⟩, rfl, hv.symm⟩, a, rfl, ⟨_, (ha1.mono sm).sq⟩, ?_⟩
      refine walk_in (walk_tup (K := K) (a := a) (xs := m.2.map V.str)) (fun i H3 => H3 D = some (.lst (List.replicate (n + i) (V.bl true))) ∧ Same (upd H4 md (.frz od (.dK kvs))) H3) ⟨eD, sm⟩ (fun i H3 _ hP => (ha1.mono hP.2).sq) (fun i x H3 H3' hi hP hy => ?_) (fun H3 hP => ?_)
      · obtain ⟨eD3, sm3⟩ := hP
        obtain ⟨rfl, hx⟩ := hy
        obtain ⟨z, hz, rfl⟩ : ∃ z, m.2[i]? = some z ∧ V.str z = x := by
          rw [List.getElem?_map] at hx
          cases e : m.2[i]? with
          | none => rw [e] at hx; cases hx
          | some z => rw [e] at hx; exact ⟨z, rfl, by cases hx; rfl⟩
        have hin : z ∈ ns := (hns.mem z).mpr (p4 z (List.mem_of_getElem? hz))
        refine ⟨rfl, _, rfl, _, rfl, p, ns.map V.str, rfl, .inr (.inl (.inl (sm3 _ _ (by rw [upd_ne npm]; exact hp)))), rfl, flat_strs' ns, ?_⟩
        show ∃ acc, _
        rw [List.length_map] at hi
        refine ⟨_, eD3, ?_, ?_, fun b u e => by rw [upd_ne (ne_of_none e hD)]; exact sm3 b u e⟩
        · rw [List.length_replicate]
          exact Nat.lt_of_le_of_lt (show n + i ≤ 100 by omega) (by decide)
        · rw [upd_same]
          have e : inV (V.str z) (ns.map V.str) = true := by rw [inV_strs, decide_eq_true hin]
          simp only [e, Bool.false_eq_true, if_false]
          rw [rep_snoc, Nat.add_assoc]
      · obtain ⟨eD3, sm3⟩ := hP
        rw [List.length_map] at eD3
        exact ⟨_, eD3, by omega, sm3⟩
    · obtain ⟨n, eD, ln, sm⟩ := hP
      have s1 := same_unlock hd4 sm
      refine ⟨sm _ _ upd_same, D, List.replicate n true, rfl, .inl (.inl ?_), ?_⟩
      · have nD : D ≠ md := fun z => by
          rw [z, upd_same] at hD
          cases hD
        rw [upd_ne nD, eD, rep_map]
      rw [all_true]
      exact q _ fun b u e => s1 _ _ (s14 _ _ e)
end
end Kl

set_option maxRecDepth 100000
set_option maxHeartbeats 4000000
namespace Kl
open PySem PySem.Spec PyProof.Rows L2 Gx Mx
section
variable {P : Program} {w : World} {K : PySem.W.Frag} {mg : Str → Option Value} {base : Heap}
theorem kLM : ("_leaf" : Str) ≠ "_makings" := by decide +kernel
theorem kLN : ("_leaf" : Str) ≠ "_names" := by decide +kernel
theorem kMN : ("_makings" : Str) ≠ "_names" := by decide +kernel
theorem putF_app {k : Str} {v : V} : ∀ fs : List (Str × V), (∀ p ∈ fs, p.1 ≠ k) → putF k v fs = fs ++ [(k, v)]
  | [], _ => rfl
  | p :: fs, h => by
    have ih := putF_app (v := v) fs fun q hq => h q (List.mem_cons_of_mem _ hq)
    obtain ⟨a, b⟩ := p
    show (if a = k then (a, v) :: fs else (a, b) :: putF k v fs) = _
    rw [if_neg (h (a, b) List.mem_cons_self), ih]
    rfl
theorem same_new {H H1 : Hp} {p : Addr} {o : HO} (s : Same H H1) (n : H1 p = none) : Same H (upd H1 p o) := fun b u e => by
  rw [upd_ne (ne_of_none (s b u e) n)]
  exact s b u e
theorem at_texts {zs : List Str} {j : Nat} {x : V} (hj : (zs.map V.str)[j]? = some x) : ∃ z, zs[j]? = some z ∧ V.str z = x := by
  rw [List.getElem?_map] at hj
  cases e : zs[j]? with
  | none => rw [e] at hj; cases hj
  | some z => rw [e] at hj; exact ⟨z, rfl, by cases hj; rfl⟩
/-- the pairs of a dict, for some of its keys -/
def pairsOf' (kvs : List (Key × V)) (ys : List Str) : List (Key × V) := ys.map fun z => (Sum.inr z, (valV kvs (Sum.inr z)).getD .non)
theorem pairs_none {kvs : List (Key × V)} {ys : List Str} {z : Str} (h : z ∉ ys) : valV (pairsOf' kvs ys) (Sum.inr z) = none := by
  induction ys with
  | nil => rfl
  | cons y ys ih =>
    rw [List.mem_cons, not_or] at h
    show valV ((Sum.inr y, _) :: pairsOf' kvs ys) (Sum.inr z) = none
    rw [valV_neg (fun q => h.1 (Sum.inr.inj q).symm)]
    exact ih h.2
theorem mak_pairs {H : Hp} {kvs : List (Key × V)} {M : Mak} (h : MakAt H kvs M) : ∀ {ys : List Str}, (∀ z ∈ ys, z ∈ keysOf M) → MakAt H (pairsOf' kvs ys) (ys.map fun z => (z, (lookM M z).getD []))
  | [], _ => .nil
  | y :: ys, hy => by
    obtain ⟨ps, a, e1, e2, e3⟩ := h.key (hy y List.mem_cons_self)
    refine .cons ⟨rfl, a, ?_, ?_⟩ (mak_pairs h fun z hz => hy z (List.mem_cons_of_mem _ hz))
    · show (valV kvs (Sum.inr y)).getD .non = .ref a
      rw [e2]
      rfl
    · show TupZ H a (((lookM M y).getD []).map V.str)
      rw [e1]
      exact e3
/-! ### Kinds.__init__ -/
def spInit (C : Addr) : Sp := fun vs H Q _ => ∃ (x dx : Addr) (leaf : Str) (pd : Addr) (kvs : List (Key × V)) (M : Mak), vs = [.ref x, .str leaf, .ref pd] ∧ H x = some (.ins C dx []) ∧ H pd = some (.dK kvs) ∧ MakAt H kvs M ∧ Vld leaf M ∧
  ∀ (H' : Hp) (md : Addr) (M' : Mak) (ns : List Str), KindsAt C H' x md leaf M' ns → OrdOf M M' → IsNames leaf (keysOf M) ns → H md = none → (∀ b o, b ≠ x → H b = some o → H' b = some o) → Q .non H'
abbrev NI : List Str := ["self", "leaf", "makings", "name"]
theorem ok_init {C f : Addr} {fd : FuncData} (F : Fun K "__init__" "Kinds.__init__" s_Kinds_init f fd) (T : Top K mg) (TC : Cl_Kinds K mg C) : FnOk P w K mg base CX0 6 f fd ["self", "leaf", "makings"] (spInit C) := by
  have ca : Cal P w K mg base 5 "_are_kinds" ["leaf", "makings"] spAre := T.d_are_kinds.cal fun f fd F => ok_are F T
  have cn : Cal P w K mg base 5 "_all_names" ["leaf", "makings"] spNames := (T.d_all_names.cal fun f fd F => ok_names F T).mono (by decide)
  refine F.ok sc_Kinds_init (fun vs H Q E h => ?_) (fun cdv A outer s H vs Q E hr h => ?_)
  · obtain ⟨x, dx, leaf, pd, kvs, M, rfl, _⟩ := h
    rfl
  · obtain ⟨x, dx, leaf, pd, kvs, M, rfl, hx, hd, hM, hV, q⟩ := h
    have hu := hu_of hr
    refine ⟨_, pss_cons (ps_if (pt_not (pt_val (pe_cal ca hr (by rfl) (pa_cons (pv 1) (pa_cons (pv 2) pa_nil))))) (pss_one ps_never) pss_nil)
      (pss_cons (ps_fld (pv 0) (pv 1) rfl)
      (pss_cons (ps_fld (pv 0) (pe_dc (own := [("name", 3)]) (g := gName 3) (tt := tYes) rfl sc_Kinds_init.nd (pi_list (pe_callB (call_sortedD rfl) (by rfl) T.b_sorted (by decide +kernel) (pa_cons (pv 2) pa_nil)))
          (blkOk_by (N := NI) (sc := defScope s_Kinds_init) (by decide +kernel)) (fun _ _ _ _ _ => pg_name (i := 3) sc_Kinds_init.nd rfl (.inl rfl)) (fun _ _ _ _ _ => pts_nil) (fun _ _ _ _ _ => pv 3) (fun _ _ _ _ _ => pe_dget hu (pv 2) (pv 3) (fun _ _ => rfl))) rfl)
      (pss_one (ps_fld (pv 0) (pe_cal cn hr (by rfl) (pa_cons (pv 1) (pa_cons (pv 2) pa_nil))) rfl)))), ?_⟩
    have lM := hV.len
    have lk := hM.len
    refine ⟨_, rfl, _, rfl, leaf, pd, kvs, M, rfl, hd, hM, hV, fun H1 s1 => ⟨_, rfl, ?_⟩⟩
    -- self._leaf = leaf
    have hx1 := s1 _ _ hx
    refine ⟨_, rfl, _, rfl, x, C, dx, [], rfl, hx1, TC.cl, TC.n_leaf, by decide, ?_⟩
    have npx : pd ≠ x := fun z => by
      rw [z, hx] at hd
      cases hd
    have tupx : ∀ {H2 : Hp}, (∀ b o, b ≠ x → H b = some o → H2 b = some o) → MakAt H2 kvs M := fun {H2} s2 => hM.same fun a xs e => e.at fun o => s2 _ _ (e.ne hx (fun _ => nofun))
    have k1 : ∀ b o, b ≠ x → H b = some o → (upd H1 x (.ins C dx (putF "_leaf" (.str leaf) []))) b = some o := fun b o n e => by
      rw [upd_ne n]
      exact s1 b o e
    have x1 : (upd H1 x (.ins C dx (putF "_leaf" (.str leaf) []))) x = some (.ins C dx [("_leaf", .str leaf)]) := by
      rw [upd_same]
      rfl
    have f1 : ∀ b, (upd H1 x (.ins C dx (putF "_leaf" (.str leaf) []))) b = none → H b = none := fun b e => by
      have n : b ≠ x := fun z => by
        rw [z, upd_same] at e
        cases e
      rw [upd_ne n] at e
      exact s1.free e
    generalize upd H1 x (.ins C dx (putF "_leaf" (.str leaf) [])) = H2 at k1 x1 f1
    clear s1 hx1
    have hd2 := k1 _ _ npx hd
    have hM2 := tupx k1
    -- self._makings
    refine ⟨_, rfl, pd, kvs, keysOf M, rfl, .inl hd2, hM.keys, by unfold keysOf; rw [List.length_map]; omega, fun ys p hperm hsrt np => ?_⟩
    have nd : (keysOf M).Nodup := hV.nd
    have ndY : ys.Nodup := hperm.nodup_iff.mpr nd
    have lY : ys.length ≤ 6 := by
      rw [hperm.length_eq]
      unfold keysOf
      rw [List.length_map]
      exact lM
    refine ⟨p, rfl, ⟨_, .inl (.inl upd_same)⟩, fun D hD => ?_⟩
    have s2 : Same H2 (upd H2 p (.lst (ys.map V.str))) := same_new (Same.refl H2) np
    refine walk_in (walk_list (K := K) (a := p) (xs := ys.map V.str)) (fun j G => G D = some (.dK (pairsOf' kvs (ys.take j))) ∧ Same (upd H2 p (.lst (ys.map V.str))) G) ⟨upd_same, same_new (Same.refl _) hD⟩ (fun j G _ hP => .inl (.inl (hP.2 _ _ upd_same))) (fun j v G G' hj hP hy => ?_) (fun G hP => ?_)
    · obtain ⟨eD, sm⟩ := hP
      obtain ⟨rfl, hv⟩ := hy
      obtain ⟨z, hz, rfl⟩ := at_texts hv
      have hzM : z ∈ keysOf M := hperm.mem_iff.mp (List.mem_of_getElem? hz)
      obtain ⟨ps, a, e1, e2, e3⟩ := hM2.key hzM
      refine ⟨rfl, _, rfl, _, rfl, _, rfl, pd, .ref a, rfl, .inl ⟨kvs, Sum.inr z, .inl (sm _ _ (s2 _ _ hd2)), rfl, e2.symm⟩, pairsOf' kvs (ys.take j), Sum.inr z, rfl, eD, ?_, ?_, fun b u e => by rw [upd_ne (ne_of_none e hD)]; exact sm b u e⟩
      · unfold pairsOf'
        rw [List.length_map, List.length_take]
        exact Nat.lt_of_le_of_lt (Nat.le_trans (Nat.min_le_right _ _) lY) (by decide)
      · have hnot : z ∉ ys.take j := by
          intro hin
          obtain ⟨i, hi⟩ := List.mem_iff_getElem?.mp hin
          rw [List.getElem?_take] at hi
          by_cases c : i < j
          · rw [if_pos c] at hi
            have h1 := (List.getElem?_eq_some_iff.mp hi)
            have h2 := (List.getElem?_eq_some_iff.mp hz)
            have h3 := (List.getElem_inj (h₀ := h1.1) (h₁ := h2.1) ndY).mp (h1.2.trans h2.2.symm)
            omega
          · rw [if_neg c] at hi
            cases hi
        rw [upd_same, putK_new _ (pairs_none hnot), List.take_add_one, hz]
        unfold pairsOf'
        rw [List.map_append]
        show some (HO.dK (_ ++ [(Sum.inr z, V.ref a)])) = some (HO.dK (_ ++ [(Sum.inr z, (valV kvs (Sum.inr z)).getD .non)]))
        rw [e2]
        rfl
    obtain ⟨eD, sm⟩ := hP
    rw [List.length_map, List.take_length] at eD
    have s3 : Same H2 G := fun b u e => sm _ _ (s2 _ _ e)
    have fD : H2 D = none := s2.free hD
    have hx3 := s3 _ _ x1
    have nDx : D ≠ x := fun z => by
      rw [z, x1] at fD
      cases fD
    refine ⟨_, rfl, x, C, dx, _, rfl, hx3, TC.cl, TC.n_makings, by show 1 < 1000; decide, ?_⟩
    have e4 : putF "_makings" (.ref D) [("_leaf", .str leaf)] = [(("_leaf" : Str), V.str leaf), ("_makings", .ref D)] := putF_app _ fun p hp => by
      simp only [List.mem_cons, List.not_mem_nil, or_false] at hp
      subst hp
      exact kLM
    rw [e4]
    have k3 : ∀ b o, b ≠ x → H b = some o → (upd G x (.ins C dx [("_leaf", .str leaf), ("_makings", .ref D)])) b = some o := fun b o n e => by
      rw [upd_ne n]
      exact s3 _ _ (k1 b o n e)
    have x3 : (upd G x (.ins C dx [("_leaf", .str leaf), ("_makings", .ref D)])) x = some (.ins C dx [("_leaf", .str leaf), ("_makings", .ref D)]) := upd_same
    have d3 : (upd G x (.ins C dx [("_leaf", .str leaf), ("_makings", .ref D)])) D = some (.dK (pairsOf' kvs ys)) := by
      rw [upd_ne nDx]
      exact eD
    generalize upd G x (.ins C dx [("_leaf", .str leaf), ("_makings", .ref D)]) = H3 at k3 x3 d3
    clear sm eD s3 hx3 s2 x1 hM2 hd2
    have hM3 := tupx k3
    -- self._names
    refine ⟨_, rfl, _, rfl, leaf, pd, kvs, keysOf M, rfl, k3 _ _ npx hd, hM3.keys, by unfold keysOf; rw [List.length_map]; omega, fun ns t H4 hns s4 nt ht => ?_⟩
    refine ⟨_, rfl, x, C, dx, _, rfl, s4 _ _ x3, TC.cl, TC.n_names, by show 2 < 1000; decide, ?_⟩
    have e5 : putF "_names" (.ref t) [("_leaf", .str leaf), ("_makings", .ref D)] = [(("_leaf" : Str), V.str leaf), ("_makings", .ref D), ("_names", .ref t)] := putF_app _ fun p hp => by
      simp only [List.mem_cons, List.not_mem_nil, or_false] at hp
      rcases hp with rfl | rfl
      · exact kLN
      · exact kMN
    rw [e5]
    have k4 : ∀ b o, b ≠ x → H b = some o → (upd H4 x (.ins C dx [("_leaf", .str leaf), ("_makings", .ref D), ("_names", .ref t)])) b = some o := fun b o n e => by
      rw [upd_ne n]
      exact s4 _ _ (k3 b o n e)
    have ntx : t ≠ x := fun z => by
      rw [z, x3] at nt
      cases nt
    refine q _ D (ys.map fun z => (z, (lookM M z).getD [])) ns ⟨dx, t, pairsOf' kvs ys, upd_same, ?_, mak_pairs (tupx k4) fun z hz => hperm.mem_iff.mp hz, ?_⟩ (OrdOf.mk' hsrt hperm nd) hns (f1 _ fD) k4
    · rw [upd_ne nDx]
      exact s4 _ _ d3
    · rw [upd_ne ntx]
      exact ht
end
end Kl

set_option maxRecDepth 100000
set_option maxHeartbeats 4000000
namespace Kl
open PySem PySem.Spec PyProof.Rows L2 Gx Mx
theorem Paired.snoc {α β : Type} {F : α → β → Prop} {a : α} {b : β} (h : F a b) : ∀ {l₁ : List α} {l₂ : List β}, Paired F l₁ l₂ → Paired F (l₁ ++ [a]) (l₂ ++ [b])
  | _, _, .nil => .cons h .nil
  | _, _, .cons x r => .cons x (Paired.snoc h r)
theorem take_snoc {α : Type} {l : List α} {i : Nat} {x : α} (h : l[i]? = some x) : l.take (i + 1) = l.take i ++ [x] := by
  rw [List.take_add_one, h]
  rfl
theorem mak_nd {H : Hp} {kvs : List (Key × V)} {M : Mak} (h : MakAt H kvs M) (nd : (keysOf M).Nodup) : (kvs.map (·.1)).Nodup := by
  rw [h.keys]
  exact List.Pairwise.map Sum.inr (fun a b h q => h (Sum.inr.inj q)) nd
/-- an instance that was made -/
theorem made {C x dx md : Addr} {G H1 : Hp} (nx : G x = none) (ndx : G dx = none) (nmd : (upd (upd G dx (.own x)) x (.ins C dx [])) md = none) (keep : ∀ b o, b ≠ x → (upd (upd G dx (.own x)) x (.ins C dx [])) b = some o → H1 b = some o) : Same G H1 ∧ G md = none := by
  refine ⟨fun b u e => keep b u (ne_of_none e nx) (by rw [upd_ne (ne_of_none e nx), upd_ne (ne_of_none e ndx)]; exact e), ?_⟩
  have n1 : md ≠ x := fun z => by
    rw [z, upd_same] at nmd
    cases nmd
  rw [upd_ne n1] at nmd
  have n2 : md ≠ dx := fun z => by
    rw [z, upd_same] at nmd
    cases nmd
  rwa [upd_ne n2] at nmd
/-! ### sizes, rank by rank: the mathematics -/
abbrev Row := List (Str × Nat)
def keysR (R : Row) : List Str := R.map (·.1)
def lookR (R : Row) (z : Str) : Option Nat := (R.find? fun q => decide (q.1 = z)).map (·.2)
def getR (R : Row) (z : Str) : Nat := (lookR R z).getD 0
def fitsR (E : List Str) (ps : List Str) : Bool := ps.all fun p => decide (p ∈ E)
def aboveE (M : Mak) (E : List Str) : List Str := (M.filter fun m => fitsR E m.2).map (·.1)
def aboveR (M : Mak) (R : Row) : Row := (M.filter fun m => fitsR (keysR R) m.2).map fun m => (m.1, (m.2.map (getR R)).sum)
def rowsR (leaf : Str) (M : Mak) : Nat → Row
  | 0 => [(leaf, 1)]
  | r + 1 => aboveR M (rowsR leaf M r)
def setR (leaf : Str) (M : Mak) (r : Nat) : List Str := keysR (rowsR leaf M r)
theorem keys_above (M : Mak) (R : Row) : keysR (aboveR M R) = aboveE M (keysR R) := by
  unfold keysR aboveR aboveE
  rw [List.map_map]
  rfl
theorem set_succ (leaf : Str) (M : Mak) (r : Nat) : setR leaf M (r + 1) = aboveE M (setR leaf M r) := keys_above M _
theorem lookR_cons (q : Str × Nat) (R : Row) (z : Str) : lookR (q :: R) z = if q.1 = z then some q.2 else lookR R z := by
  unfold lookR
  rw [List.find?_cons]
  by_cases h : q.1 = z
  · rw [if_pos h, decide_eq_true h]
    rfl
  · rw [if_neg h, decide_eq_false h]
theorem lookR_in {R : Row} {z : Str} (h : z ∈ keysR R) : ∃ n, lookR R z = some n := by
  induction R with
  | nil => cases h
  | cons q R ih =>
    rw [lookR_cons]
    by_cases e : q.1 = z
    · exact ⟨q.2, if_pos e⟩
    · rw [if_neg e]
      rcases List.mem_cons.mp (show z ∈ q.1 :: keysR R from h) with h | h
      · exact absurd h.symm e
      · exact ih h
theorem lookR_no {R : Row} {z : Str} (h : z ∉ keysR R) : lookR R z = none := by
  induction R with
  | nil => rfl
  | cons q R ih =>
    have h' : ¬ (z = q.1 ∨ z ∈ keysR R) := fun c => h (List.mem_cons.mpr c)
    rw [lookR_cons, if_neg fun e => h' (.inl e.symm)]
    exact ih fun c => h' (.inr c)
/-- the dict of a row -/
def rowK (R : Row) : List (Key × V) := R.map fun q => (Sum.inr q.1, V.int (q.2 : Nat))
theorem rowK_keys (R : Row) : (rowK R).map (·.1) = (keysR R).map Sum.inr := by
  unfold rowK keysR
  rw [List.map_map, List.map_map]
  rfl
theorem rowK_len (R : Row) : (rowK R).length = R.length := List.length_map _
theorem rowK_look (R : Row) (z : Str) : valV (rowK R) (Sum.inr z) = (lookR R z).map fun n => V.int (n : Nat) := by
  induction R with
  | nil => rfl
  | cons q R ih =>
    rw [lookR_cons]
    show valV ((Sum.inr q.1, V.int (q.2 : Nat)) :: rowK R) _ = _
    by_cases e : q.1 = z
    · rw [if_pos e, valV_pos (by rw [e])]
      rfl
    · rw [if_neg e, valV_neg fun c => e (Sum.inr.inj c)]
      exact ih
theorem rowK_get {R : Row} {z : Str} (h : z ∈ keysR R) : valV (rowK R) (Sum.inr z) = some (.int (getR R z : Nat)) := by
  obtain ⟨n, e⟩ := lookR_in h
  rw [rowK_look, e]
  unfold getR
  rw [e]
  rfl
/-! ### names -/
structure Fin6 (leaf : Str) (M : Mak) (ns : List Str) : Prop where
  v : Vld leaf M
  srt : sortedS (keysOf M) = true
  n : IsNames leaf (keysOf M) ns
theorem set_sub {leaf : Str} {M : Mak} : ∀ (r : Nat), ∀ z ∈ setR leaf M r, z = leaf ∨ z ∈ keysOf M
  | 0, z, h => .inl (List.mem_singleton.mp h)
  | r + 1, z, h => by
    rw [set_succ] at h
    obtain ⟨m, hm, rfl⟩ := List.mem_map.mp h
    exact .inr (List.mem_map.mpr ⟨m, (List.mem_filter.mp hm).1, rfl⟩)
theorem above_sub (M : Mak) (E : List Str) : (aboveE M E).Sublist (keysOf M) := List.Sublist.map _ List.filter_sublist
theorem set_srt {leaf : Str} {M : Mak} (s : sortedS (keysOf M) = true) : ∀ r, sortedS (setR leaf M r) = true
  | 0 => (sortedS_iff [leaf]).mpr (List.pairwise_singleton _ _)
  | r + 1 => by
    rw [set_succ]
    exact sortedS_sub s (above_sub M _)
theorem set_nd {leaf : Str} {M : Mak} (d : (keysOf M).Nodup) : ∀ r, (setR leaf M r).Nodup
  | 0 => List.nodup_cons.mpr ⟨List.not_mem_nil, List.nodup_nil⟩
  | r + 1 => by
    rw [set_succ]
    exact d.sublist (above_sub M _)
theorem set_len {leaf : Str} {M : Mak} (v : Vld leaf M) (r : Nat) : (setR leaf M r).length ≤ 6 := v.few _ (set_nd v.nd r) (set_sub r)
theorem rows_len {leaf : Str} {M : Mak} (v : Vld leaf M) (r : Nat) : (rowsR leaf M r).length ≤ 6 := by
  have h := set_len v r
  unfold setR keysR at h
  rw [List.length_map] at h
  exact h
theorem rows_nd {leaf : Str} {M : Mak} (d : (keysOf M).Nodup) (r : Nat) : ((rowK (rowsR leaf M r)).map (·.1)).Nodup := by
  rw [rowK_keys]
  exact List.Pairwise.map Sum.inr (fun a b h q => h (Sum.inr.inj q)) (set_nd d r)
/-! ### sizes are small -/
theorem sum_le {l : List Nat} {b k : Nat} (h : ∀ x ∈ l, x ≤ b) (hl : l.length ≤ k) : l.sum ≤ k * b := by
  induction l generalizing k with
  | nil => exact Nat.zero_le _
  | cons x l ih =>
    rw [List.length_cons] at hl
    obtain ⟨j, rfl⟩ : ∃ j, k = j + 1 := ⟨k - 1, by omega⟩
    have h1 := h x List.mem_cons_self
    have h2 := ih (k := j) (fun y hy => h y (List.mem_cons_of_mem _ hy)) (by omega)
    rw [List.sum_cons, Nat.add_mul, Nat.one_mul]
    omega
theorem getR_le {R : Row} {b : Nat} (h : ∀ q ∈ R, q.2 ≤ b) (z : Str) : getR R z ≤ b := by
  unfold getR
  cases e : lookR R z with
  | none => exact Nat.zero_le _
  | some n =>
    unfold lookR at e
    obtain ⟨q, hq, e2⟩ := Option.map_eq_some_iff.mp e
    have := h q (List.mem_of_find?_eq_some hq)
    show n ≤ b
    omega
theorem rows_le {leaf : Str} {M : Mak} (v : Vld leaf M) : ∀ r, ∀ q ∈ rowsR leaf M r, q.2 ≤ 3 ^ r
  | 0, q, h => by
    rw [List.mem_singleton.mp h]
    exact Nat.le_refl 1
  | r + 1, q, h => by
    obtain ⟨m, hm, rfl⟩ := List.mem_map.mp (show q ∈ aboveR M (rowsR leaf M r) from h)
    have ih := rows_le v r
    obtain ⟨_, _, l3, _⟩ := v.parts m (List.mem_filter.mp hm).1
    have h1 := sum_le (l := m.2.map (getR (rowsR leaf M r))) (b := 3 ^ r) (k := 3) (fun x hx => by
      obtain ⟨z, _, rfl⟩ := List.mem_map.mp hx
      exact getR_le ih z) (by rw [List.length_map]; exact l3)
    show (m.2.map (getR (rowsR leaf M r))).sum ≤ 3 ^ (r + 1)
    rw [Nat.pow_succ]
    omega
/-! ### the sets come again -/
def subs : List Str → List (List Str)
  | [] => [[]]
  | a :: l => subs l ++ (subs l).map (a :: ·)
theorem subs_len : ∀ l : List Str, (subs l).length = 2 ^ l.length
  | [] => rfl
  | a :: l => by
    show (subs l ++ (subs l).map (a :: ·)).length = _
    rw [List.length_append, List.length_map, subs_len l, List.length_cons, Nat.pow_succ]
    omega
theorem subs_mem : ∀ {s l : List Str}, s.Sublist l → s ∈ subs l
  | _, _, .slnil => List.mem_singleton.mpr rfl
  | _, _, .cons a h => List.mem_append.mpr (.inl (subs_mem h))
  | _, _, .cons_cons a h => List.mem_append.mpr (.inr (List.mem_map.mpr ⟨_, subs_mem h, rfl⟩))
theorem nodup_len {α : Type} [DecidableEq α] : ∀ {xs ys : List α}, xs.Nodup → (∀ z ∈ xs, z ∈ ys) → xs.length ≤ ys.length
  | [], ys, _, _ => Nat.zero_le _
  | x :: xs, ys, hn, hs => by
    rw [List.nodup_cons] at hn
    have hx : x ∈ ys := hs x List.mem_cons_self
    have h1 := nodup_len (ys := ys.erase x) hn.2 fun z hz => (List.mem_erase_of_ne (fun e => hn.1 (by rw [e] at hz; exact hz))).mpr (hs z (List.mem_cons_of_mem _ hz))
    rw [List.length_erase_of_mem hx] at h1
    have : 0 < ys.length := List.length_pos_of_mem hx
    rw [List.length_cons]
    omega
theorem sorted_sublist {l m : List Str} (hl : sortedS l = true) (hm : sortedS m = true) (dl : l.Nodup) (dm : m.Nodup) (h : ∀ z ∈ l, z ∈ m) : l.Sublist m := by
  have e : l = m.filter (fun z => decide (z ∈ l)) := sorted_same hl (sortedS_sub hm List.filter_sublist) dl (dm.sublist List.filter_sublist) fun z => by
    rw [List.mem_filter, decide_eq_true_iff]
    exact ⟨fun q => ⟨h z q, q⟩, fun q => q.2⟩
  rw [e]
  exact List.filter_sublist
theorem set_again {leaf : Str} {M : Mak} {ns : List Str} (f : Fin6 leaf M ns) (n : Nat) (hn : ∀ i j, i < j → j ≤ n → setR leaf M i ≠ setR leaf M j) : n < 64 := by
  have nd : ((List.range (n + 1)).map (setR leaf M)).Nodup := by
    rw [List.nodup_iff_pairwise_ne, List.pairwise_map]
    refine List.Pairwise.imp_of_mem ?_ (List.pairwise_lt_range (n := n + 1))
    intro a b _ hb h
    exact hn a b h (by have := List.mem_range.mp hb; omega)
  have l6 : ns.length ≤ 6 := f.v.few ns f.n.nd fun z hz => (f.n.mem z).mp hz
  have h1 := nodup_len nd (ys := subs ns) fun s hs => by
    obtain ⟨i, _, rfl⟩ := List.mem_map.mp hs
    exact subs_mem (sorted_sublist (set_srt f.srt i) f.n.srt (set_nd f.v.nd i) f.n.nd fun z hz => (f.n.mem z).mpr (set_sub i z hz))
  rw [List.length_map, List.length_range, subs_len] at h1
  have : 2 ^ ns.length ≤ 2 ^ 6 := Nat.pow_le_pow_right (by omega) l6
  omega
/-- L ranks are not alike, and the one behind them is like the one at t -/
structure Turn (leaf : Str) (M : Mak) (L t : Nat) : Prop where
  lt : t < L
  few : L ≤ 64
  ne : ∀ i j, i < j → j < L → setR leaf M i ≠ setR leaf M j
  eq : setR leaf M t = setR leaf M L
end Kl

set_option maxRecDepth 100000
set_option maxHeartbeats 4000000
namespace L2
open PySem PySem.Spec PyProof.Rows
/-! ### own rules: list.remove of a text, sums of tuples -/
def eqS (z : Str) (u : Value) : Bool := match u with
  | .str y _ => y == z
  | _ => false
theorem eqS_gives {z : Str} {t : Tok} : ∀ {zs : List Str} {us : List Value}, Vals (zs.map V.str) us → ∀ y ∈ us, MeetsSeq.EqGives y (.str z t) (eqS z y)
  | [], _, .nil => fun y hy => nomatch hy
  | x :: zs, _, .cons r rest => fun y hy => by
    obtain ⟨k, rfl⟩ := r
    rcases List.mem_cons.mp hy with rfl | hy
    · show MeetsSeq.EqGives _ _ (x == z)
      rw [← SeqAt.str_beq]
      exact SeqRoads2.EqGives.str x z k t
    · exact eqS_gives rest y hy
theorem eqS_at {z : Str} : ∀ {zs : List Str} {us : List Value}, Vals (zs.map V.str) us → ∀ (m : Nat) (h : m < us.length), eqS z us[m] = true ↔ zs[m]? = some z
  | [], _, .nil, m, h => absurd h (Nat.not_lt_zero _)
  | x :: zs, _, .cons r rest, 0, _ => by
    obtain ⟨k, rfl⟩ := r
    show (x == z) = true ↔ some x = some z
    rw [beq_iff_eq, Option.some_inj]
  | x :: zs, _, .cons r rest, m + 1, h => eqS_at rest m (Nat.lt_of_succ_lt_succ h)
theorem erase_mapS : ∀ (l : List Str) (j : Nat), (l.map V.str).eraseIdx j = (l.eraseIdx j).map V.str
  | [], j => by simp
  | a :: r, 0 => by simp
  | a :: r, j + 1 => by
    have ih := erase_mapS r j
    simp [ih]
section
variable {X : Cx}
def rRemS : V → List V → Hp → VK → Prop := fun x xs H Q => ∃ (l : Addr) (zs : List Str) (z : Str) (j : Nat), x = .ref l ∧ xs = [.str z] ∧ H l = some (.lst (zs.map V.str)) ∧ zs[j]? = some z ∧ (∀ m : Nat, m < j → zs[m]? ≠ some z) ∧ Q .non (upd H l (.lst ((zs.eraseIdx j).map V.str)))
theorem mt_removeS : MtM X "list.remove" rRemS := by
  intro pins s σ H x xs v us Q I rx rxs h
  obtain ⟨l, zs, z, j, rfl, rfl, hH, hj, hno, q⟩ := h
  cases rx
  obtain ⟨u, rfl, ru⟩ := rxs.one
  obtain ⟨t, rfl⟩ := ru
  obtain ⟨hz, its, n, r, hl, e⟩ := I.lstM hH
  rw [List.length_map] at hl hz
  have hjn : j < zs.length := (List.getElem?_eq_some_iff.mp hj).1
  have hjl : j < its.toArray.size := by rw [List.size_toArray]; omega
  refine call_meets PySem.F.slot_list_remove ⟨_, e, rfl⟩ PySem.F.entry_list_remove (PySem.F.args_list_remove_2 _ _)
    (MeetsSeq.list_remove l its.toArray n (.str z t) (eqS z) (fun y hy => eqS_gives r y (by simpa using hy)) j hjl ?_ ?_ (by rw [List.size_toArray]; omega)) ⟨e, ?_⟩
  · exact (eqS_at r j (by simpa using hjl)).mpr hj
  · intro m hm hmj
    cases c : eqS z its.toArray[m] with
    | false => rfl
    | true => exact absurd ((eqS_at r m (by simpa using hm)).mp c) (hno m hmj)
  · have rr := r.eraseIdx j
    rw [erase_mapS] at rr
    refine ⟨.non, _, I.lset (its' := its.eraseIdx j) (t' := s.toks) hH e ?_ rr ?_, rfl, q⟩
    · show its.toArray.eraseIdxIfInBounds j = (its.eraseIdx j).toArray
      rw [List.eraseIdxIfInBounds_toArray]
    · rw [List.length_map]
      have : (zs.eraseIdx j).length ≤ zs.length := by rw [List.length_eraseIdx]; split <;> omega
      omega
/-- t + u, whichever object it is -/
def rCatC : R2 := fun x y H Q => ∃ a b xs ys, x = .ref a ∧ y = .ref b ∧ H a = some (.tup xs) ∧ H b = some (.tup ys) ∧ xs.length + ys.length ≤ sizeLine ∧ ∀ p G, (∀ c o, H c = some o → G c = some o) → G p = some (.tup (xs ++ ys)) → Q (.ref p) G
theorem op_catC : OpR X (binaryOp .Add) rCatC := by
  intro pins s σ H x y v u Q I rx ry h
  obtain ⟨a, b, xs, ys, rfl, rfl, ha, hb, hz, q⟩ := h
  refine op_catA pins s σ H _ _ v u Q I rx ry ⟨a, b, xs, ys, rfl, rfl, .inl (.inl ha), .inl (.inl hb), hz, fun e => q b H (fun _ _ e => e) (by rw [e]; exact hb), fun _ e => q a H (fun _ _ e => e) (by rw [e, List.append_nil]; exact ha), fun _ _ p np => q p _ (fun c o e => ?_) upd_same⟩
  rw [upd_ne (fun z => by rw [z, np] at e; cases e)]
  exact e
end
end L2

set_option maxRecDepth 100000
set_option maxHeartbeats 4000000
namespace Kl
open PySem PySem.Spec PyProof.Rows L2 Gx Mx
/-! ### rows: tuples of tuples of texts -/
def TxtsAt (K : PySem.W.Frag) (H : Hp) (L : List (Addr × List Str)) : Prop := ∀ q ∈ L, SqT K H q.1 (q.2.map V.str)
theorem sqT_sm {K : PySem.W.Frag} {H H' : Hp} (s : Same H H') {a : Addr} {xs : List V} (h : SqT K H a xs) : SqT K H' a xs := by
  rcases h with (h | ⟨o, h⟩) | h
  · exact .inl (.inl (s _ _ h))
  · exact .inl (.inr ⟨o, s _ _ h⟩)
  · exact .inr h
theorem tyx_sqT {K : PySem.W.Frag} {H : Hp} {p : Addr} {xs : List V} (h : SqT K H p xs) : TyX K H (.ref p) (.type "tuple") := by
  rcases h with (h | ⟨o, h⟩) | ⟨o, its, n, h, c, _⟩
  · exact .base (.tup h)
  · exact .fTuple h
  · exact .kTuple h c
structure RowAt (K : PySem.W.Frag) (H : Hp) (p : Addr) (LL : List (Addr × List Str)) : Prop where
  e : SqT K H p (LL.map fun q => V.ref q.1)
  t : TxtsAt K H LL
theorem RowAt.same {K : PySem.W.Frag} {H H' : Hp} {p : Addr} {LL : List (Addr × List Str)} (h : RowAt K H p LL) (s : Same H H') : RowAt K H' p LL := ⟨sqT_sm s h.e, fun q hq => sqT_sm s (h.t q hq)⟩
/-- a digit: at most 20 sorted names -/
def goodB (q : List Str) : Bool := decide (q.length ≤ 20) && (q.all nameB && sortedS q)
/-- not too great for the judges -/
def Few (qs : List (List Str)) : Prop := qs.length ≤ 1000 ∧ ∀ q ∈ qs, q.length ≤ 1000 ∧ ∀ z ∈ q, z.length ≤ 1000
section
variable {P : Program} {w : World} {K : PySem.W.Frag} {mg : Str → Option Value} {base : Heap}
/-! ### are_digits, are_loose_digits -/
def spDig (K : PySem.W.Frag) : Sp := fun vs H Q _ => ∃ (p : Addr) (LL : List (Addr × List Str)), vs = [V.ref p] ∧ RowAt K H p LL ∧ Few (LL.map (·.2)) ∧ ∀ H', Same H H' → Q (.bl (LL.all fun q => goodB q.2)) H'
abbrev NDG : List Str := ["value", "digit"]
theorem ok_dig {f : Addr} {fd : FuncData} (F : Fun K "are_digits" "are_digits" s_are_digits f fd) (T : Top K mg) : FnOk P w K mg base CX0 4 f fd ["value"] (spDig K) := by
  obtain ⟨tm, gm⟩ := T.g_LOOSE_DIGIT
  have cs : CalO P w K mg base 3 "is_sorted" ["value", "most"] 1 ["most"] (fun vs zs => vs ++ zs) (spSorted K) := T.d_is_sorted.calO fun f fd F => ok_sorted F T
  refine F.ok sc_are_digits (fun vs H Q E h => ?_) (fun cdv A outer s H vs Q E hr h => ?_)
  · obtain ⟨p, LL, rfl, _⟩ := h
    rfl
  · obtain ⟨p, LL, rfl, hR, hF, q⟩ := h
    refine ⟨_, pss_one (ps_ret (pe_and (pe_callB call_isi (by rfl) T.b_isinstance (by decide +kernel) (pa_cons (pv 0) (pa_cons (pe_bltn (v := .ty "tuple") (by rfl) T.b_tuple (by decide +kernel) rfl) pa_nil)))
      (pe_one (pe_callB (cr_all rfl) (by rfl) T.b_all (by decide +kernel) (pa_cons (pe_lc (own := [("digit", 1)]) (g := gName 1) (tt := tYes) rfl sc_are_digits.nd (pi_tup (pv 0))
        (blkOk_by (N := NDG) (sc := defScope s_are_digits) (by decide +kernel)) (fun _ _ _ _ _ => pg_name (i := 1) sc_are_digits.nd rfl (.inl rfl)) (fun _ _ _ _ _ => pts_nil)
        (fun _ _ _ _ _ => pe_calO cs hr (by rfl) (pa_cons (pv 1) pa_nil) (pk_cons (pe_glob (v := .int 20) (by rfl) gm ⟨_, rfl⟩) pk_nil))) pa_nil))))), ?_⟩
    have big : 100000 ≤ sizeLine := by decide
    refine ⟨_, rfl, _, .ty "tuple", .type "tuple", .type "tuple", true, rfl, .ty _, tyx_sqT hR.e, kit_ty (by decide +kernel), true, rfl, ?_⟩
    rw [if_pos rfl]
    have l1 : LL.length ≤ 1000 := by
      have := hF.1
      rw [List.length_map] at this
      exact this
    refine ⟨_, rfl, p, rfl, ⟨_, hR.e⟩, fun D hD => ?_⟩
    refine lc_it (g := gName 1) (tt := tYes) (vs := [1]) (walk_tup (K := K) (a := p) (xs := LL.map fun q => V.ref q.1)) (fun j G' => G' D = some (.lst (((LL.take j).map fun q => goodB q.2).map V.bl)) ∧ Same H G')
      ⟨upd_same, same_new (Same.refl H) hD⟩ (fun j G' _ h => sqT_sm h.2 hR.e) (fun j u Gx G' hj h hy => ?_) (fun G' h => ?_)
    · obtain ⟨eD, sm⟩ := h
      obtain ⟨rfl, hu⟩ := hy
      have hu : (LL.map fun q => V.ref q.1)[j]? = some u := hu
      rw [List.getElem?_map] at hu
      obtain ⟨q0, hq0, rfl⟩ := Option.map_eq_some_iff.mp hu
      have hm := List.mem_of_getElem? hq0
      obtain ⟨f1, f2⟩ := hF.2 q0.2 (List.mem_map.mpr ⟨_, hm, rfl⟩)
      have hs := sqT_sm sm (hR.t q0 hm)
      refine ⟨rfl, _, rfl, rfl, rfl, q0.1, q0.2, 20, rfl, hs, tyx_sqT hs, by decide, by decide, f1, f2, fun G3 s3 => ?_⟩
      refine ⟨_, s3 _ _ eD, ?_, ?_, fun b o e => by rw [upd_ne (ne_of_none e hD)]; exact s3 _ _ (sm b o e)⟩
      · rw [List.length_map, List.length_map, List.length_take]
        omega
      · rw [upd_same, take_snoc hq0, List.map_append, List.map_append]
        show some (HO.lst (_ ++ [V.bl _])) = some (HO.lst (_ ++ [V.bl (goodB q0.2)]))
        unfold goodB
        rw [show decide (((q0.2.length : Nat) : Int) ≤ 20) = decide (q0.2.length ≤ 20) by rw [decide_eq_decide]; omega]
    · obtain ⟨eD, sm⟩ := h
      rw [List.length_map, List.take_length] at eD
      refine ⟨D, _, rfl, .inl (.inl eD), ?_⟩
      rw [List.all_map]
      exact q G' sm
def spLDig (K : PySem.W.Frag) : Sp := fun vs H Q _ => ∃ (p : Addr) (LL : List (Addr × List Str)), vs = [V.ref p] ∧ RowAt K H p LL ∧ Few (LL.map (·.2)) ∧ ∀ H', Same H H' → Q (.bl (decide (LL.length ≤ 402) && LL.all fun q => goodB q.2)) H'
theorem ok_ldig {f : Addr} {fd : FuncData} (F : Fun K "are_loose_digits" "are_loose_digits" s_are_loose_digits f fd) (T : Top K mg) : FnOk P w K mg base CX0 5 f fd ["value"] (spLDig K) := by
  obtain ⟨tm, gm⟩ := T.g__LOOSE_RANKS
  have cd : Cal P w K mg base 4 "are_digits" ["value"] (spDig K) := T.d_are_digits.cal fun f fd F => ok_dig F T
  refine F.ok sc_are_loose_digits (fun vs H Q E h => ?_) (fun cdv A outer s H vs Q E hr h => ?_)
  · obtain ⟨p, LL, rfl, _⟩ := h
    rfl
  · obtain ⟨p, LL, rfl, hR, hF, q⟩ := h
    refine ⟨_, pss_one (ps_ret (pe_and (pe_callB call_isi (by rfl) T.b_isinstance (by decide +kernel) (pa_cons (pv 0) (pa_cons (pe_bltn (v := .ty "tuple") (by rfl) T.b_tuple (by decide +kernel) rfl) pa_nil)))
      (pe_and (pe_cmpR op_le (pe_callB call_len_seq (by rfl) T.b_len PySem.boot_len (pa_cons (pv 0) pa_nil)) (pe_glob (v := .int 402) (by rfl) gm ⟨_, rfl⟩) (nomark _))
        (pe_one (pe_cal cd hr (by rfl) (pa_cons (pv 0) pa_nil)))))), ?_⟩
    refine ⟨_, rfl, _, .ty "tuple", .type "tuple", .type "tuple", true, rfl, .ty _, tyx_sqT hR.e, kit_ty (by decide +kernel), true, rfl, ?_⟩
    rw [if_pos rfl]
    refine ⟨_, rfl, p, _, rfl, .inr hR.e, _, _, rfl, rfl, _, rfl, ?_⟩
    rw [List.length_map, show decide (((LL.length : Nat) : Int) ≤ 402) = decide (LL.length ≤ 402) by rw [decide_eq_decide]; omega]
    cases c : decide (LL.length ≤ 402) with
    | false =>
      rw [if_neg (by decide)]
      have h1 := q H (Same.refl H)
      rw [c, Bool.false_and] at h1
      exact h1
    | true =>
      rw [if_pos rfl]
      refine ⟨_, rfl, p, LL, rfl, hR, hF, fun H' s => ?_⟩
      have h1 := q H' s
      rw [c, Bool.true_and] at h1
      exact h1
end
end Kl

set_option maxRecDepth 100000
set_option maxHeartbeats 4000000
namespace Kl
open PySem PySem.Spec PyProof.Rows L2 Gx Mx
/-! ### t[a:b], t + u, whichever objects they are -/
def rSlS (K : PySem.W.Frag) : V → Option Int → Option Int → Hp → VK → Prop := fun x lo hi H Q => ∃ a xs, x = .ref a ∧ SqT K H a xs ∧ ∀ p G, Same H G → SqT K G p (cutV xs lo hi) → Q (.ref p) G
theorem cut_whole {xs : List V} {lo hi : Option Int} (h : HT.sIx xs.length 0 lo = 0 ∧ HT.sIx xs.length xs.length hi = xs.length) : cutV xs lo hi = xs := by
  unfold cutV
  rw [h.1, h.2, List.drop_zero, Nat.sub_zero, List.take_length]
theorem sl_tupS {X : Cx} : SlR X (rSlS X.K) := by
  intro pins s σ H x v vl vu lo hi sl Q I rx hs pl pu h
  obtain ⟨a, xs, rfl, ea, q⟩ := h
  exact sl_tupA pins s σ H _ v vl vu lo hi sl Q I rx hs pl pu ⟨a, xs, rfl, ea, fun hw => q a H (Same.refl H) (by rw [cut_whole hw]; exact ea), fun _ p np => q p _ (same_new (Same.refl H) np) (.inl (.inl upd_same))⟩
def rCatS (K : PySem.W.Frag) : R2 := fun x y H Q => ∃ a b xs ys, x = .ref a ∧ y = .ref b ∧ SqT K H a xs ∧ SqT K H b ys ∧ xs.length + ys.length ≤ sizeLine ∧ ∀ p G, Same H G → SqT K G p (xs ++ ys) → Q (.ref p) G
theorem op_catS {X : Cx} : OpR X (binaryOp .Add) (rCatS X.K) := by
  intro pins s σ H x y v u Q I rx ry h
  obtain ⟨a, b, xs, ys, rfl, rfl, ha, hb, hz, q⟩ := h
  refine op_catA pins s σ H _ _ v u Q I rx ry ⟨a, b, xs, ys, rfl, rfl, ha, hb, hz, fun e => q b H (Same.refl H) (by rw [e]; exact hb), fun _ e => q a H (Same.refl H) (by rw [e, List.append_nil]; exact ha), fun _ _ p np => q p _ (same_new (Same.refl H) np) (.inl (.inl upd_same))⟩
theorem cut_last {xs : List V} : cutV xs (some (-1)) none = xs.drop (xs.length - 1) := by
  unfold cutV
  have e : HT.sIx xs.length 0 (some (-1)) = xs.length - 1 := by
    show (if (-1 : Int) < 0 then ((-1 : Int) + (xs.length : Int)).toNat else min (-1 : Int).toNat xs.length) = _
    rw [if_pos (by decide)]
    omega
  rw [e, HT.sIx_none, List.take_of_length_le (by rw [List.length_drop]; omega)]
/-! ### data of rows -/
abbrev rD (qs : List (List Str)) : PyData := .tuple (qs.map fun z => .tuple (tD z))
theorem dp_refs {K : PySem.W.Frag} {H : Hp} : ∀ {LL : List (Addr × List Str)}, TxtsAt K H LL → DpAll K H (LL.map fun q => V.ref q.1) ((LL.map (·.2)).map fun z => PyData.tuple (tD z))
  | [], _ => .nil
  | q :: LL, h => .cons (.tup (h q List.mem_cons_self) (dp_texts _)) (dp_refs fun x hx => h x (List.mem_cons_of_mem _ hx))
theorem RowAt.dp {K : PySem.W.Frag} {H : Hp} {p : Addr} {LL : List (Addr × List Str)} (h : RowAt K H p LL) : Dp K H (.ref p) (rD (LL.map (·.2))) := .tup h.e (dp_refs h.t)
theorem row_all : ∀ {qs : List (List Str)}, (∀ q ∈ qs, ∀ z ∈ q, PyData.strOk z = true) → PyData.canLayAll0 (qs.map fun z => PyData.tuple (tD z)) = true ∧ PyData.depthAll (qs.map fun z => PyData.tuple (tD z)) ≤ 2
  | [], _ => ⟨rfl, Nat.zero_le _⟩
  | q :: qs, h => by
    obtain ⟨i1, i2⟩ := row_all (qs := qs) fun x hx => h x (List.mem_cons_of_mem _ hx)
    have c := canLay_texts q (h q List.mem_cons_self)
    have d := depth_texts q
    refine ⟨?_, ?_⟩
    · rw [List.map_cons, PyData.canLayAll0, i1]
      show (PyData.canLayAll0 (tD q) && true) = true
      rw [c]
      rfl
    · rw [List.map_cons, PyData.depthAll, PyData.depth]
      omega
theorem row_shaped {qs : List (List Str)} (h : ∀ q ∈ qs, ∀ z ∈ q, PyData.strOk z = true) : SeqAt.shaped (rD qs) = true := by
  obtain ⟨h1, h2⟩ := row_all h
  unfold SeqAt.shaped
  rw [Bool.and_eq_true]
  exact ⟨h1, decide_eq_true (by rw [PyData.depth]; omega)⟩
theorem eqv_rows : ∀ (xs ys : List (List Str)), PyData.eqvAll (xs.map fun z => PyData.tuple (tD z)) (ys.map fun z => PyData.tuple (tD z)) = decide (xs = ys)
  | [], [] => rfl
  | [], _ :: _ => rfl
  | _ :: _, [] => rfl
  | x :: xs, y :: ys => by
    rw [List.map_cons, List.map_cons, PyData.eqvAll, eqv_rows xs ys, PyData.eqv, eqv_texts]
    by_cases e : x = y
    · by_cases e2 : xs = ys
      · rw [decide_eq_true e, decide_eq_true e2, e, e2, decide_eq_true rfl]
        rfl
      · rw [decide_eq_true e, decide_eq_false e2, decide_eq_false (fun h => e2 (List.cons.inj h).2)]
        rfl
    · rw [decide_eq_false e, decide_eq_false (fun h => e (List.cons.inj h).1)]
      rfl
theorem eqv_row (xs ys : List (List Str)) : PyData.eqv (rD xs) (rD ys) = decide (xs = ys) := by
  rw [PyData.eqv]
  exact eqv_rows xs ys
theorem good_ok {q : List Str} (h : goodB q = true) : ∀ z ∈ q, PyData.strOk z = true := fun z hz => by
  unfold goodB at h
  rw [Bool.and_eq_true, Bool.and_eq_true] at h
  exact names_low (List.all_eq_true.mp h.2.1 z hz)
/-- a loose row -/
def looseB (qs : List (List Str)) : Bool := (decide (qs.length ≤ 402) && qs.all goodB) && !decide (qs.drop (qs.length - 1) = [[]])
section
variable {P : Program} {w : World} {K : PySem.W.Frag} {mg : Str → Option Value} {base : Heap}
/-! ### is_loose, digit_at, merged -/
def spLoose (K : PySem.W.Frag) : Sp := fun vs H Q _ => ∃ (p : Addr) (LL : List (Addr × List Str)), vs = [V.ref p] ∧ RowAt K H p LL ∧ Few (LL.map (·.2)) ∧ ∀ H', Same H H' → Q (.bl (looseB (LL.map (·.2)))) H'
theorem ok_loose {f : Addr} {fd : FuncData} (F : Fun K "is_loose" "is_loose" s_is_loose f fd) (T : Top K mg) : FnOk P w K mg base CX0 6 f fd ["value"] (spLoose K) := by
  have cd : Cal P w K mg base 5 "are_loose_digits" ["value"] (spLDig K) := T.d_are_loose_digits.cal fun f fd F => ok_ldig F T
  refine F.ok sc_is_loose (fun vs H Q E h => ?_) (fun cdv A outer s H vs Q E hr h => ?_)
  · obtain ⟨p, LL, rfl, _⟩ := h
    rfl
  · obtain ⟨p, LL, rfl, hR, hF, q⟩ := h
    refine ⟨_, pss_one (ps_ret (pe_and (pe_cal cd hr (by rfl) (pa_cons (pv 0) pa_nil)) (pe_one (pe_cmpR (op_neD hr.units) (pe_slice sl_tupS (pv 0) (po_some (pe_un un_neg pe_int)) po_none) (pe_tup (pa_cons (pe_tup pa_nil) pa_nil)) (by rfl))))), ?_⟩
    have ea : (LL.all fun q => goodB q.2) = (LL.map (·.2)).all goodB := by rw [List.all_map]; rfl
    refine ⟨_, rfl, p, LL, rfl, hR, hF, fun H1 s1 => ⟨_, rfl, ?_⟩⟩
    have h1 : ∀ H', Same H1 H' → Q (.bl (looseB (LL.map (·.2)))) H' := fun H' s => q H' fun b o e => s _ _ (s1 _ _ e)
    unfold looseB at h1
    rw [← ea, List.length_map] at h1
    cases c : (decide (LL.length ≤ 402) && LL.all fun q => goodB q.2) with
    | false =>
      rw [if_neg (by decide)]
      have h2 := h1 H1 (Same.refl H1)
      rw [c, Bool.false_and] at h2
      exact h2
    | true =>
      rw [if_pos rfl]
      have hg : ∀ q ∈ LL, goodB q.2 = true := by
        rw [Bool.and_eq_true] at c
        exact List.all_eq_true.mp c.2
      have hR1 := hR.same s1
      refine ⟨_, rfl, _, rfl, _, rfl, p, _, rfl, hR1.e, fun p2 G s2 hp2 => ?_⟩
      rw [cut_last, List.length_map, ← List.map_drop] at hp2
      have hR2 : RowAt K G p2 (LL.drop (LL.length - 1)) := ⟨hp2, fun q hq => sqT_sm s2 (hR1.t q (List.mem_of_mem_drop hq))⟩
      refine ⟨Nat.zero_le _, fun p3 n3 => ⟨by show 1 ≤ sizeLine; decide, fun p4 n4 => ?_⟩⟩
      have s3 := same_new (o := .tup []) (Same.refl G) n3
      have e3 : (upd G p3 (.tup [])) p3 = some (.tup []) := upd_same
      generalize upd G p3 (.tup []) = G3 at s3 e3 n4
      have s4 := same_new (o := .tup [V.ref p3]) (Same.refl G3) n4
      have hR4 : RowAt K (upd G3 p4 (.tup [V.ref p3])) p4 [(p3, [])] := ⟨.inl (.inl upd_same), fun q hq => by
        rw [List.mem_singleton.mp hq]
        exact .inl (.inl (s4 _ _ e3))⟩
      have s24 : Same G (upd G3 p4 (.tup [V.ref p3])) := fun b o e => s4 _ _ (s3 _ _ e)
      refine ⟨_, _, (hR2.same s24).dp, hR4.dp, row_shaped fun q hq => ?_, row_shaped fun q hq => ?_, ?_⟩
      · obtain ⟨x, hx, rfl⟩ := List.mem_map.mp hq
        exact good_ok (hg x (List.mem_of_mem_drop hx))
      · rw [List.mem_singleton.mp hq]
        exact nofun
      rw [eqv_row]
      have h2 := h1 _ fun b o e => s24 _ _ (s2 _ _ e)
      rw [c, Bool.true_and, ← List.map_drop] at h2
      exact h2
end
end Kl

set_option maxRecDepth 100000
set_option maxHeartbeats 4000000
namespace Kl
open PySem PySem.Spec PyProof.Rows L2 Gx Mx
theorem len_sum : ∀ l : List (List Str), (l.map fun q => ((q.length : Nat) : Int)).sum = (((l.map List.length).sum : Nat) : Int)
  | [] => rfl
  | p :: l => by
    rw [List.map_cons, List.sum_cons, len_sum l, List.map_cons, List.sum_cons, Int.natCast_add]
theorem call_lenK {X : Cx} {K : PySem.W.Frag} (hk : X.K = K) : CallR X (.builtin "len") (fun xs H Q => ∃ p ys, xs = [V.ref p] ∧ (SqL K H p ys ∨ SqT K H p ys) ∧ Q (V.int (ys.length : Nat)) H) := by
  subst hk
  exact call_len_seq
section
variable {P : Program} {w : World} {K : PySem.W.Frag} {mg : Str → Option Value} {base : Heap}
/-! ### _check_loose, trees_of -/
def spChkL (K : PySem.W.Frag) : Sp := fun vs H Q _ => ∃ (p : Addr) (LL : List (Addr × List Str)), vs = [V.ref p] ∧ RowAt K H p LL ∧ Few (LL.map (·.2)) ∧ looseB (LL.map (·.2)) = true ∧ ∀ H', Same H H' → Q .non H'
theorem ok_chkL {f : Addr} {fd : FuncData} (F : Fun K "_check_loose" "_check_loose" s_check_loose f fd) (T : Top K mg) : FnOk P w K mg base CX0 7 f fd ["row"] (spChkL K) := by
  have cl : Cal P w K mg base 6 "is_loose" ["value"] (spLoose K) := T.d_is_loose.cal fun f fd F => ok_loose F T
  refine F.ok sc_check_loose (fun vs H Q E h => ?_) (fun cdv A outer s H vs Q E hr h => ?_)
  · obtain ⟨p, LL, rfl, _⟩ := h
    rfl
  · obtain ⟨p, LL, rfl, hR, hF, hL, q⟩ := h
    refine ⟨_, pss_one (ps_if (pt_not (pt_val (pe_cal cl hr (by rfl) (pa_cons (pv 0) pa_nil)))) (pss_one ps_never) pss_nil), ?_⟩
    refine ⟨_, rfl, p, LL, rfl, hR, hF, fun H1 s1 => ⟨_, rfl, ?_⟩⟩
    rw [hL]
    show (if (!true) = true then _ else _)
    rw [if_neg (by decide)]
    exact q H1 s1
def spTrees (K : PySem.W.Frag) : Sp := fun vs H Q _ => ∃ (p : Addr) (LL : List (Addr × List Str)), vs = [V.ref p] ∧ RowAt K H p LL ∧ Few (LL.map (·.2)) ∧ looseB (LL.map (·.2)) = true ∧ ∀ H', Same H H' → Q (.int (((LL.map (·.2)).map List.length).sum : Nat)) H'
abbrev NTR : List Str := ["row", "digit"]
theorem ok_trees {f : Addr} {fd : FuncData} (F : Fun K "trees_of" "trees_of" s_trees_of f fd) (T : Top K mg) : FnOk P w K mg base CX0 8 f fd ["row"] (spTrees K) := by
  have cc : Cal P w K mg base 7 "_check_loose" ["row"] (spChkL K) := T.d_check_loose.cal fun f fd F => ok_chkL F T
  refine F.ok sc_trees_of (fun vs H Q E h => ?_) (fun cdv A outer s H vs Q E hr h => ?_)
  · obtain ⟨p, LL, rfl, _⟩ := h
    rfl
  · obtain ⟨p, LL, rfl, hR, hF, hL, q⟩ := h
    refine ⟨_, pss_cons (ps_expr (pe_cal cc hr (by rfl) (pa_cons (pv 0) pa_nil)))
      (pss_one (ps_ret (pe_callB (cr_sum rfl) (by rfl) T.b_sum (by decide +kernel) (pa_cons (pe_lc (own := [("digit", 1)]) (g := gName 1) (tt := tYes) rfl sc_trees_of.nd (pi_tup (pv 0))
        (blkOk_by (N := NTR) (sc := defScope s_trees_of) (by decide +kernel)) (fun _ _ _ _ _ => pg_name (i := 1) sc_trees_of.nd rfl (.inl rfl)) (fun _ _ _ _ _ => pts_nil)
        (fun _ _ _ _ _ => pe_callB (call_lenK (K := K) (by exact rfl)) (by rfl) T.b_len PySem.boot_len (pa_cons (pv 1) pa_nil))) pa_nil)))), ?_⟩
    have big : 100000 ≤ sizeLine := by decide
    have l1 : LL.length ≤ 1000 := by
      have := hF.1
      rw [List.length_map] at this
      exact this
    refine ⟨_, rfl, p, LL, rfl, hR, hF, hL, fun H1 s1 => ?_⟩
    have hR1 := hR.same s1
    refine ⟨_, rfl, p, rfl, ⟨_, hR1.e⟩, fun D hD => ?_⟩
    refine lc_it (g := gName 1) (tt := tYes) (vs := [1]) (walk_tup (K := K) (a := p) (xs := LL.map fun q => V.ref q.1)) (fun j G' => G' D = some (.lst (((LL.take j).map fun q => ((q.2.length : Nat) : Int)).map V.int)) ∧ Same H1 G')
      ⟨upd_same, same_new (Same.refl H1) hD⟩ (fun j G' _ h => sqT_sm h.2 hR1.e) (fun j u Gx G' hj h hy => ?_) (fun G' h => ?_)
    · obtain ⟨eD, sm⟩ := h
      obtain ⟨rfl, hu⟩ := hy
      have hu : (LL.map fun q => V.ref q.1)[j]? = some u := hu
      rw [List.getElem?_map] at hu
      obtain ⟨q0, hq0, rfl⟩ := Option.map_eq_some_iff.mp hu
      have hs := sqT_sm sm (hR1.t q0 (List.mem_of_getElem? hq0))
      refine ⟨rfl, _, rfl, q0.1, _, rfl, .inr hs, ?_⟩
      rw [List.length_map]
      refine ⟨_, eD, ?_, ?_, fun b o e => by rw [upd_ne (ne_of_none e hD)]; exact sm b o e⟩
      · rw [List.length_map, List.length_map, List.length_take]
        omega
      · rw [upd_same, take_snoc hq0, List.map_append, List.map_append]
        rfl
    · obtain ⟨eD, sm⟩ := h
      rw [List.length_map, List.take_length] at eD
      refine ⟨D, _, rfl, .inl (.inl eD), ?_⟩
      have h1 := len_sum (LL.map (·.2))
      rw [List.map_map] at h1
      rw [show ((LL.map fun q => ((q.2.length : Nat) : Int))).sum = _ from h1]
      exact q G' fun b o e => sm _ _ (s1 _ _ e)
end
end Kl

set_option maxRecDepth 100000
set_option maxHeartbeats 4000000
namespace Kl
open PySem PySem.Spec PyProof.Rows L2 Gx Mx
theorem name_len {z : Str} (h : nameB z = true) : z.length ≤ 8 := by
  unfold nameB at h
  simp only [Bool.and_eq_true, decide_eq_true_eq] at h
  exact h.1.2
/-- the digit at a place, none is () -/
def dg (qs : List (List Str)) (i : Nat) : List Str := (qs[i]?).getD []
theorem dg_map (LL : List (Addr × List Str)) (i : Nat) : (LL[i]?.map (·.2)).getD [] = dg (LL.map (·.2)) i := by
  unfold dg
  rw [List.getElem?_map]
theorem loose_facts {qs : List (List Str)} (h : looseB qs = true) : qs.length ≤ 402 ∧ (∀ q ∈ qs, goodB q = true) ∧ ∀ j, j + 1 = qs.length → dg qs j ≠ [] := by
  unfold looseB at h
  rw [Bool.and_eq_true, Bool.and_eq_true] at h
  obtain ⟨⟨h1, h2⟩, h3⟩ := h
  refine ⟨of_decide_eq_true h1, List.all_eq_true.mp h2, fun j hj e => ?_⟩
  have hl : j < qs.length := by omega
  have e1 : qs.drop (qs.length - 1) = [qs[j]] := by
    rw [show qs.length - 1 = j by omega, List.drop_eq_getElem_cons hl, List.drop_eq_nil_of_le (by omega)]
  unfold dg at e
  rw [List.getElem?_eq_getElem hl] at e
  have e2 : qs[j] = [] := e
  rw [e1, e2, decide_eq_true rfl] at h3
  cases h3
theorem loose_of {qs : List (List Str)} (h1 : qs.length ≤ 402) (h2 : ∀ q ∈ qs, goodB q = true) (h3 : ∀ j, j + 1 = qs.length → dg qs j ≠ []) : looseB qs = true := by
  unfold looseB
  rw [decide_eq_true h1, List.all_eq_true.mpr h2, Bool.true_and, Bool.true_and]
  have e : ¬ qs.drop (qs.length - 1) = [[]] := fun e => by
    cases hq : qs.length with
    | zero =>
      have : qs = [] := List.eq_nil_of_length_eq_zero hq
      rw [this] at e
      cases e
    | succ j =>
      have hl : j < qs.length := by omega
      rw [show qs.length - 1 = j by omega, List.drop_eq_getElem_cons hl] at e
      refine h3 j hq.symm ?_
      unfold dg
      rw [List.getElem?_eq_getElem hl]
      exact (List.cons.inj e).1
  rw [decide_eq_false e]
  rfl
theorem dg_good {qs : List (List Str)} (h : ∀ q ∈ qs, goodB q = true) (i : Nat) : ∀ z ∈ dg qs i, nameB z = true := fun z hz => by
  unfold dg at hz
  cases e : qs[i]? with
  | none =>
    rw [e] at hz
    cases hz
  | some q =>
    rw [e] at hz
    have hg := h q (List.mem_of_getElem? e)
    unfold goodB at hg
    rw [Bool.and_eq_true, Bool.and_eq_true] at hg
    exact List.all_eq_true.mp hg.2.1 z hz
theorem sqT_lst {K : PySem.W.Frag} {G : Hp} {D a : Addr} {xs ys : List V} {o : HO} (e : G D = some (.lst xs)) (h : SqT K G a ys) : SqT K (upd G D o) a ys := by
  rcases h with (h | ⟨u, h⟩) | h
  · exact .inl (.inl (by rw [upd_ne (fun z => by rw [z, e] at h; cases h)]; exact h))
  · exact .inl (.inr ⟨u, by rw [upd_ne (fun z => by rw [z, e] at h; cases h)]; exact h⟩)
  · exact .inr h
section
variable {P : Program} {w : World} {K : PySem.W.Frag} {mg : Str → Option Value} {base : Heap}
/-! ### added -/
end
end Kl

set_option maxRecDepth 100000
set_option maxHeartbeats 4000000
namespace Kl
open PySem PySem.Spec PyProof.Rows L2 Gx Mx
section
variable {P : Program} {w : World} {K : PySem.W.Frag} {mg : Str → Option Value} {base : Heap}
/-! ### trimmed -/
theorem cut_to0 {xs : List V} (n : Nat) : cutV xs none (some ((n : Nat) : Int)) = xs.take n := by
  unfold cutV
  rw [HT.sIx_nat, HT.sIx_none, List.drop_zero, Nat.sub_zero]
  by_cases h : n ≤ xs.length
  · rw [Nat.min_eq_left h]
  · rw [Nat.min_eq_right (by omega), List.take_length, List.take_of_length_le (by omega)]
end
end Kl

set_option maxRecDepth 100000
set_option maxHeartbeats 4000000
namespace Kl
open PySem PySem.Spec PyProof.Rows L2 Gx Mx
section
variable {P : Program} {w : World} {K : PySem.W.Frag} {mg : Str → Option Value} {base : Heap}
/-! ### the law's dice -/
def spDice (K : PySem.W.Frag) : Sp := fun vs H Q _ => ∃ (a : Addr) (ns : List Int) (i : Nat), vs = [.ref a, .int i] ∧ SqL K H a (ns.map V.int) ∧ ns.length ≤ 63 ∧ i ≤ 1000 ∧
  ∀ (p : Addr) (x b : Int), H p = none → Q (.ref p) (upd H p (.lst [.int x, .int b, .int 0]))
theorem ok_dice {f : Addr} {fd : FuncData} (F : Fun K "_law_dice" "_law_dice" s_law_dice f fd) (T : Top K mg) : FnOk P w K mg base CX0 1 f fd ["_law_script", "_law_spot"] (spDice K) := by
  refine F.ok sc_law_dice (fun vs H Q E h => ?_) (fun cdv A outer s H vs Q E hr h => ?_)
  · obtain ⟨a, ns, i, rfl, _⟩ := h
    rfl
  · obtain ⟨a, ns, i, rfl, hS, hlen, hi, q⟩ := h
    refine ⟨_, pss_cut (ps_set (i := 2) sc_law_dice.nd rfl (.inl rfl) (pe_ifExp
        (pt_cmpR op_lt (pv 1) (pe_callB call_len_seq (by rfl) T.b_len PySem.boot_len (pa_cons (pv 0) pa_nil)) (nomark _))
        (pe_callTy call_int1 (by rfl) T.b_int (by decide +kernel) (pa_cons (pe_ix ix_list (pv 0) (pv 1) (fun _ _ => rfl)) pa_nil))
        (pe_op op_add (pe_op op_mul pe_int (pv 1)) pe_int)))
      (pss_cons (ps_set (i := 3) sc_law_dice.nd rfl (.inl rfl) (pe_op op_mod
        (pe_callB (call_max2 rfl) (by rfl) T.b_max (by decide +kernel) (pa_cons pe_int (pa_cons (pe_op op_sub
          (pe_callB call_abs (by rfl) T.b_abs (by decide +kernel) (pa_cons (pv 2) pa_nil)) (pe_op op_pow pe_int pe_int)) pa_nil)))
        (pe_op op_mulW (pe_op op_pow pe_int pe_int) (pe_op op_pow pe_int pe_int))))
      (pss_one (ps_ret (pe_lst (pa_cons (pv 3) (pa_cons
        (pe_op op_add (pe_op op_add (pe_op op_add (pe_op op_mul (pe_op op_mod (pe_callB call_abs (by rfl) T.b_abs (by decide +kernel) (pa_cons (pv 2) pa_nil)) pe_int) pe_int)
          (pe_op op_mul pe_int (pv 1)))
          (pe_op op_mul pe_int (pe_callTy call_int1 (by rfl) T.b_int (by decide +kernel) (pa_cons (pe_cmpR op_lt (pv 2) pe_int (nomark _)) pa_nil)))) pe_int)
        (pa_cons pe_int pa_nil))))))), ?_⟩
    refine ⟨fun σ' H' => ∃ c : Int, σ' = [some (.ref a), some (.int i), some (.int c), none] ∧ H' = H, ?_, ?_⟩
    · refine ⟨_, rfl, .ref a, rfl, a, _, rfl, .inl hS, _, _, rfl, rfl, _, rfl, ite2 (fun e => ?_) (fun e => ?_)⟩
      · have e' : i < ns.length := by
          have := of_decide_eq_true e
          rw [List.length_map] at this
          omega
        refine ⟨.ref a, rfl, .int i, rfl, a, _, _, .int ns[i], rfl, rfl, hS, atI_nat (by rw [List.getElem?_map, List.getElem?_eq_getElem e']; rfl), .inl ⟨_, rfl, ns[i], rfl, rfl⟩⟩
      · refine ⟨_, rfl, _, _, rfl, rfl, .inl ⟨by decide, by decide⟩, _, _, rfl, rfl, _, rfl, rfl⟩
    · rintro σ' H' ⟨c, rfl, rfl⟩
      refine ⟨_, rfl, _, rfl, ?_⟩
      refine ⟨_, _, rfl, rfl, ⟨by decide, by decide, by decide⟩, ?_⟩
      refine ⟨_, _, rfl, rfl, ?_⟩
      refine ⟨_, _, rfl, ?_⟩
      refine ⟨_, _, rfl, rfl, ⟨by decide, by decide, by decide⟩, ?_⟩
      refine ⟨_, _, rfl, rfl, ⟨by decide, by decide, by decide⟩, ?_⟩
      refine ⟨_, _, rfl, rfl, wide_mul (a := 200) (b := 200) (by decide) (by decide) (by decide) (by decide) (by decide), ?_⟩
      refine ⟨_, _, rfl, rfl, by show (0 : Int) < _; decide, ?_⟩
      generalize (if (if c < 0 then -c else c) - 10 ^ Int.toNat 17 > 0 then (if c < 0 then -c else c) - 10 ^ Int.toNat 17 else 0) % (10 ^ Int.toNat 60 * 10 ^ Int.toNat 60) = left
      refine ⟨_, rfl, _, rfl, _, rfl, _, _, rfl, rfl, by show (0 : Int) < _; decide, _, _, rfl, rfl, .inr ⟨by decide, by decide⟩, ?_⟩
      refine ⟨_, rfl, _, _, rfl, rfl, .inl ⟨by decide, by decide⟩, _, _, rfl, rfl, _, rfl, _, _, rfl, rfl, .inr ⟨_, rfl, ?_⟩⟩
      refine ⟨_, _, rfl, rfl, .inl ⟨by decide, by decide⟩, _, _, rfl, rfl, _, _, rfl, rfl, by show 3 ≤ sizeLine; decide, fun p hp => ?_⟩
      exact q p _ _ hp
def spRoll : Sp := fun vs H Q _ => ∃ (d : Addr) (t : Int), vs = [.ref d, .int t] ∧ DiceAt H d ∧ 0 < t ∧ t.natAbs.log2 < 9000 ∧
  ∀ (r x b c : Int), 0 ≤ r → r < t → Q (.int r) (upd H d (.lst [.int x, .int b, .int c]))
theorem ok_roll {f : Addr} {fd : FuncData} (F : Fun K "_law_roll" "_law_roll" s_law_roll f fd) (T : Top K mg) : FnOk P w K mg base CX0 1 f fd ["_law_dice_here", "_law_total"] spRoll := by
  refine F.ok sc_law_roll (fun vs H Q E h => ?_) (fun cdv A outer s H vs Q E hr h => ?_)
  · obtain ⟨d, t, rfl, _⟩ := h
    rfl
  · obtain ⟨d, t, rfl, ⟨x, b, c, hd⟩, ht, ht2, q⟩ := h
    refine ⟨_, pss_cons (ps_if (pt_cmpR op_gt (pe_ix ix_list (pv 0) pe_int (fun _ _ => rfl)) pe_int (nomark _))
        (pss_cons (ps_set (i := 2) sc_law_roll.nd rfl (.inl rfl) (pe_op op_mod (pe_callTy call_int1 (by rfl) T.b_int (by decide +kernel) (pa_cons (pe_ix ix_list (pv 0) pe_int (fun _ _ => rfl)) pa_nil)) (pv 1)))
        (pss_cons (ps_asg (pe_op op_fdivW (pe_ix ix_list (pv 0) pe_int (fun _ _ => rfl)) (pv 1)) (pg_sub (pv 0) pe_int set_list))
        (pss_one (ps_ret (pv 2))))) pss_nil)
      (pss_cons (ps_asg (pe_op op_add (pe_ix ix_list (pv 0) pe_int (fun _ _ => rfl)) pe_int) (pg_sub (pv 0) pe_int set_list))
      (pss_cons (ps_set (i := 3) sc_law_roll.nd rfl (.inl rfl) (pe_op op_mod (pe_callTy call_int1 (by rfl) T.b_int (by decide +kernel) (pa_cons
        (pe_op op_add (pe_ix ix_list (pv 0) pe_int (fun _ _ => rfl)) (pe_op op_mul pe_int (pe_ix ix_list (pv 0) pe_int (fun _ _ => rfl)))) pa_nil)) pe_int))
      (pss_cons (ps_set (i := 4) sc_law_roll.nd rfl (.inl rfl) (pe_op op_add (pe_op op_mul (pe_op op_mod (pe_callTy call_int1 (by rfl) T.b_int (by decide +kernel) (pa_cons
        (pe_op op_add (pe_op op_mul (pv 3) (pv 3)) (pe_op op_mul pe_int (pe_ix ix_list (pv 0) pe_int (fun _ _ => rfl)))) pa_nil)) pe_int) pe_int) (pv 3)))
      (pss_one (ps_ret (pe_op op_mod (pe_callTy call_int1 (by rfl) T.b_int (by decide +kernel) (pa_cons (pe_op op_fdiv (pv 4) pe_int) pa_nil)) (pv 1))))))), ?_⟩
    have at0 : ∀ (x y z : V), atI [x, y, z] 0 = some x := fun x y z => atI_nat (j := 0) rfl
    have at1 : ∀ (x y z : V), atI [x, y, z] 1 = some y := fun x y z => atI_nat (j := 1) rfl
    have at2 : ∀ (x y z : V), atI [x, y, z] 2 = some z := fun x y z => atI_nat (j := 2) rfl
    have hS : SqL K H d [.int x, .int b, .int c] := .inl (.inl hd)
    refine ⟨_, rfl, d, _, _, _, rfl, rfl, hS, at0 _ _ _, _, _, rfl, rfl, _, rfl, ite2 (fun e => ?_) (fun e => ?_)⟩
    · refine ⟨_, rfl, d, _, _, _, rfl, rfl, hS, at0 _ _ _, .inl ⟨_, rfl, _, rfl, _, _, rfl, rfl, ht, ?_⟩⟩
      refine ⟨_, rfl, d, _, _, _, rfl, rfl, hS, at0 _ _ _, _, rfl, _, _, rfl, rfl, ⟨ht, ht2⟩, ?_⟩
      refine ⟨_, rfl, d, _, _, 0, rfl, rfl, hd, rfl, ?_⟩
      refine ⟨_, rfl, ?_⟩
      exact q _ _ _ _ (Int.emod_nonneg _ (by omega)) (Int.emod_lt_of_pos _ ht)
    · refine ⟨_, rfl, d, _, _, _, rfl, rfl, hS, at2 _ _ _, _, _, rfl, rfl, ?_⟩
      refine ⟨_, rfl, d, _, _, 2, rfl, rfl, hd, rfl, ?_⟩
      have hd1 : (upd H d (.lst ([V.int x, V.int b, V.int c].set 2 (.int (c + 1))))) d = some (.lst [V.int x, V.int b, V.int (c + 1)]) := upd_same
      have hS1 : SqL K (upd H d (.lst ([V.int x, V.int b, V.int c].set 2 (.int (c + 1))))) d [V.int x, V.int b, V.int (c + 1)] := .inl (.inl hd1)
      refine ⟨_, rfl, d, _, _, _, rfl, rfl, hS1, at1 _ _ _, _, rfl, d, _, _, _, rfl, rfl, hS1, at2 _ _ _, _, _, rfl, rfl, .inl ⟨by decide, by decide⟩, _, _, rfl, rfl, .inl ⟨_, rfl, ?_⟩⟩
      refine ⟨_, _, rfl, rfl, by show (0 : Int) < _; decide, ?_⟩
      have h1 := Int.emod_nonneg (b + 7919 * (c + 1)) (show (2305843009213693907 : Int) ≠ 0 by decide)
      have h2 := Int.emod_lt_of_pos (b + 7919 * (c + 1)) (show (0 : Int) < 2305843009213693907 by decide)
      generalize (b + 7919 * (c + 1)) % 2305843009213693907 = one at h1 h2
      refine ⟨_, rfl, _, rfl, _, _, rfl, rfl, .inl ⟨by omega, by omega⟩, _, rfl, d, _, _, _, rfl, rfl, hS1, at2 _ _ _, _, _, rfl, rfl, .inl ⟨by decide, by decide⟩, _, _, rfl, rfl, .inl ⟨_, rfl, ?_⟩⟩
      refine ⟨_, _, rfl, rfl, by show (0 : Int) < _; decide, _, _, rfl, rfl, .inr ⟨by decide, by decide⟩, _, rfl, _, _, rfl, rfl, ?_⟩
      refine ⟨_, rfl, _, _, rfl, rfl, ⟨by decide, by decide⟩, .inl ⟨_, rfl, _, rfl, _, _, rfl, rfl, ht, ?_⟩⟩
      exact q _ _ _ _ (Int.emod_nonneg _ (by omega)) (Int.emod_lt_of_pos _ ht)
/-- what may be picked from: the items of a list, a tuple, a text -/
def Items (K : PySem.W.Frag) (H : Hp) (d : Addr) (x : V) (xs : List V) : Prop :=
  (∃ p, x = .ref p ∧ p ≠ d ∧ (SqL K H p xs ∨ SqT K H p xs)) ∨ ∃ z : Str, x = .str z ∧ xs = signV z ∧ z.length ≤ sizeLine
def spPick (K : PySem.W.Frag) : Sp := fun vs H Q _ => ∃ (d : Addr) (x : V) (xs : List V), vs = [.ref d, x] ∧ DiceAt H d ∧ Items K H d x xs ∧ xs ≠ [] ∧ xs.length ≤ 100000 ∧
  ∀ (v : V) (x b c : Int), v ∈ xs → Q v (upd H d (.lst [.int x, .int b, .int c]))
theorem log2_small {n : Nat} (h : n ≤ 100000) : ((n : Int).natAbs).log2 < 9000 := by
  have h1 : ((n : Int).natAbs) < 2 ^ 20 := by
    rw [Int.natAbs_natCast]
    exact Nat.lt_of_le_of_lt h (by decide)
  exact Nat.lt_of_lt_of_le (PySem.Flt.log2_lt_of (by decide) h1) (by decide)
theorem ok_pick {f : Addr} {fd : FuncData} (F : Fun K "_law_pick" "_law_pick" s_law_pick f fd) (T : Top K mg) : FnOk P w K mg base CX0 2 f fd ["_law_dice_here", "_law_items"] (spPick K) := by
  have cr : Cal P w K mg base 1 "_law_roll" ["_law_dice_here", "_law_total"] spRoll := T.d_law_roll.cal fun f fd F => ok_roll F T
  refine F.ok sc_law_pick (fun vs H Q E h => ?_) (fun cdv A outer s H vs Q E hr h => ?_)
  · obtain ⟨d, x, xs, rfl, _⟩ := h
    rfl
  · obtain ⟨d, x, xs, rfl, hd, hI, hne, hlen, q⟩ := h
    refine ⟨_, pss_one (ps_ret (pe_ix ix_seq (pv 1) (pe_cal cr hr (by rfl) (pa_cons (pv 0) (pa_cons (pe_callB call_len (by rfl) T.b_len PySem.boot_len (pa_cons (pv 1) pa_nil)) pa_nil))) (fun _ _ => rfl))), ?_⟩
    have hpos : 0 < xs.length := List.length_pos_iff.mpr hne
    rcases hI with ⟨p, rfl, hp, hs⟩ | ⟨z, rfl, rfl, hz⟩
    · refine ⟨_, rfl, _, rfl, _, rfl, _, (xs.length : Nat), rfl, ?_, ?_⟩
      · rcases hs with hs | hs
        · exact .inl ⟨_, hs, rfl⟩
        · exact .inr ⟨_, hs, rfl⟩
      · refine ⟨d, _, rfl, hd, by omega, log2_small hlen, fun r x b c h0 h1 => ?_⟩
        obtain ⟨v, hv, ha⟩ := atI_int (xs := xs) h0 h1
        rcases hs with hs | hs
        · exact .inl ⟨p, _, _, v, rfl, rfl, sqL_ne hp hs, ha, q v x b c hv⟩
        · exact .inr (.inl ⟨p, _, _, v, rfl, rfl, sqT_ne hp hs, ha, q v x b c hv⟩)
    · have hlz := signV_len z
      refine ⟨_, rfl, _, rfl, _, rfl, _, (z.length : Nat), rfl, ⟨hz, rfl⟩, ?_⟩
      refine ⟨d, _, rfl, hd, by omega, log2_small (by omega), fun r x b c h0 h1 => ?_⟩
      obtain ⟨v, hv, ha⟩ := atI_int (xs := z.cps.toList) h0 (by rw [Array.length_toList]; exact h1)
      exact .inr (.inr ⟨z, r, v, rfl, rfl, hz, ha, q _ x b c (List.mem_map.mpr ⟨_, hv, rfl⟩)⟩)
end
end Kl

set_option maxRecDepth 100000
set_option maxHeartbeats 4000000
namespace Kl
open PySem PySem.Spec PyProof.Rows L2 Gx Mx
/-! ### all but the dice stays -/
/-- all but what stands at d is as it was -/
def SameX (d : Addr) (H H' : Hp) : Prop := ∀ b o, b ≠ d → H b = some o → H' b = some o
theorem SameX.refl (d : Addr) (H : Hp) : SameX d H H := fun _ _ _ e => e
theorem SameX.trans {d : Addr} {H H' H'' : Hp} (h : SameX d H H') (h' : SameX d H' H'') : SameX d H H'' := fun b o n e => h' b o n (h b o n e)
theorem SameX.atd {d : Addr} {H H' : Hp} {o : HO} (h : SameX d H H') : SameX d H (upd H' d o) := fun b u n e => by rw [upd_ne n]; exact h b u n e
theorem SameX.new {d p : Addr} {H H' : Hp} {o : HO} (h : SameX d H H') (n : H' p = none) : SameX d H (upd H' p o) := fun b u nb e => by
  have e' := h b u nb e
  rw [upd_ne (ne_of_none e' n)]
  exact e'
theorem SameX.at {d p : Addr} {H H' : Hp} {o : HO} (h : SameX d H H') (n : H p = none) : SameX d H (upd H' p o) := fun b u nb e => by
  rw [upd_ne (ne_of_none e n)]
  exact h b u nb e
theorem SameX.of {d : Addr} {H H' : Hp} (h : Same H H') : SameX d H H' := fun b o _ e => h b o e
theorem SameX.free {d p : Addr} {H H' : Hp} (h : SameX d H H') (n : p ≠ d) (e : H' p = none) : H p = none := by
  cases q : H p with
  | none => rfl
  | some o => rw [h p o n q] at e; cases e
theorem dice_ne {H : Hp} {d p : Addr} (h : DiceAt H d) (e : H p = none) : p ≠ d := fun q => by
  obtain ⟨_, _, _, h⟩ := h
  rw [q, h] at e
  cases e
theorem dice_upd {H : Hp} {d p : Addr} {o : HO} (h : DiceAt H d) (n : p ≠ d) : DiceAt (upd H p o) d := by
  obtain ⟨a, b, c, h⟩ := h
  exact ⟨a, b, c, by rw [upd_ne n.symm]; exact h⟩
theorem dice_new {H : Hp} {d : Addr} (x b c : Int) : DiceAt (upd H d (.lst [.int x, .int b, .int c])) d := ⟨_, _, _, upd_same⟩
end Kl

set_option maxRecDepth 100000
set_option maxHeartbeats 4000000
namespace Gx
open PySem PySem.Spec PyProof.Rows L2
section
variable {X : Cx} {K : PySem.W.Frag} {e o : Expr} {f : Str} {te to : TE} {pos apos : Pos}
theorem pe_fldK (hk : X.K = K) (he : PE X e te) (hb : attributeBase e f X.env (eval e X.env) = eval e X.env := by rfl) : PE X (.Attribute e f pos) (tFld K te f) := by
  subst hk
  exact pe_fld he hb
/-- f'..' of two parts or more, told by a name -/
def tJoined (ts : List TE) : TE := fun σ H Q => tJs ts Str.empty σ H fun out H1 => Q (.str out) H1
theorem pe_joinedN {v1 v2 : Expr} {rest : List Expr} {ts : List TE} {pos : Pos} (h : PJ X (v1 :: v2 :: rest) ts) : PE X (.JoinedStr (v1 :: v2 :: rest) pos) (tJoined ts) := pe_joined h
/-- sep.join(xs) -/
def rJoin (K : PySem.W.Frag) : V → List V → Hp → VK → Prop := fun x xs H Q => ∃ a p, ∃ ys : List Str, x = .str a ∧ xs = [.ref p] ∧ (SqL K H p (ys.map V.str) ∨ SqT K H p (ys.map V.str)) ∧ (ys.map (·.length)).sum + ys.length * a.length ≤ 16777216 ∧ Q (.str (Txt.join a ys)) H
theorem pe_joinK (hk : X.K = K) (ho : PE X o to) (he : PE X e te) (hs : starEach [e] X.env = [(false, eval e X.env)] := by rfl) (hbase : attributeBase o "join" X.env (eval o X.env) = eval o X.env := by rfl) (hline : (apos.endLine == pos.line) = true := by rfl) :
    PE X (.Call (.Attribute o "join" apos) [e] [] pos) (tM1 (rJoin K) to te) := by
  subst hk
  exact pe_join ho he hs hbase hline
end
end Gx
namespace Kl
open PySem PySem.Spec PyProof.Rows L2 Gx Mx
section
variable {P : Program} {w : World} {K : PySem.W.Frag} {mg : Str → Option Value} {base : Heap}
/-! ### what Kinds tells: leaf, makings, names, lines -/
abbrev kf (leaf : Str) (md nt : Addr) : List (Str × V) := [("_leaf", .str leaf), ("_makings", .ref md), ("_names", .ref nt)]
theorem kf_leaf (leaf : Str) (md nt : Addr) : List.lookup ("_leaf" : Str) (kf leaf md nt) = some (.str leaf) := by simp [List.lookup]
theorem kf_mak (leaf : Str) (md nt : Addr) : List.lookup ("_makings" : Str) (kf leaf md nt) = some (.ref md) := by
  have h : (("_makings" : Str) == "_leaf") = false := beq_eq_false_iff_ne.mpr (Ne.symm kLM)
  simp [List.lookup, h]
theorem kf_names (leaf : Str) (md nt : Addr) : List.lookup ("_names" : Str) (kf leaf md nt) = some (.ref nt) := by
  have h : (("_names" : Str) == "_leaf") = false := beq_eq_false_iff_ne.mpr (Ne.symm kLN)
  have h2 : (("_names" : Str) == "_makings") = false := beq_eq_false_iff_ne.mpr (Ne.symm kMN)
  simp [List.lookup, h, h2]
theorem kf_no (leaf : Str) (md nt : Addr) {m : Str} (h1 : m ≠ "_leaf") (h2 : m ≠ "_makings") (h3 : m ≠ "_names") : (kf leaf md nt).lookup m = none := by
  have e1 : (m == "_leaf") = false := beq_eq_false_iff_ne.mpr h1
  have e2 : (m == "_makings") = false := beq_eq_false_iff_ne.mpr h2
  have e3 : (m == "_names") = false := beq_eq_false_iff_ne.mpr h3
  simp [List.lookup, e1, e2, e3]
def spKLeaf (C : Addr) : Sp := fun vs H Q _ => ∃ x md leaf M ns, vs = [.ref x] ∧ KindsAt C H x md leaf M ns ∧ Q (.str leaf) H
theorem ok_kleaf {C f : Addr} {fd : FuncData} (F : Fun K "leaf" "Kinds.leaf" s_Kinds_leaf f fd) (TC : Cl_Kinds K mg C) : FnOk P w K mg base CX0 1 f fd ["self"] (spKLeaf C) := by
  refine F.ok sc_Kinds_leaf (fun vs H Q E h => ?_) (fun cdv A outer s H vs Q E hr h => ?_)
  · obtain ⟨x, md, leaf, M, ns, rfl, _⟩ := h
    rfl
  · obtain ⟨x, md, leaf, M, ns, rfl, ⟨dx, nt, kvs, hx, hd, hM, hn⟩, q⟩ := h
    refine ⟨_, pss_one (ps_ret (pe_fld (pv 0) rfl)), ?_⟩
    exact ⟨_, rfl, x, C, dx, _, _, rfl, hx, TC.cl, TC.n_leaf, kf_leaf _ _ _, q⟩
def spKMak (C : Addr) : Sp := fun vs H Q _ => ∃ x md leaf M ns, vs = [.ref x] ∧ KindsAt C H x md leaf M ns ∧ ∀ p kvs, H p = none → MakAt H kvs M → Q (.ref p) (upd H p (.dK kvs))
theorem ok_kmak {C f : Addr} {fd : FuncData} (F : Fun K "makings" "Kinds.makings" s_Kinds_makings f fd) (T : Top K mg) (TC : Cl_Kinds K mg C) : FnOk P w K mg base CX0 1 f fd ["self"] (spKMak C) := by
  refine F.ok sc_Kinds_makings (fun vs H Q E h => ?_) (fun cdv A outer s H vs Q E hr h => ?_)
  · obtain ⟨x, md, leaf, M, ns, rfl, _⟩ := h
    rfl
  · obtain ⟨x, md, leaf, M, ns, rfl, ⟨dx, nt, kvs, hx, hd, hM, hn⟩, q⟩ := h
    refine ⟨_, pss_one (ps_ret (pe_callTy call_dictD (by rfl) T.b_dict (by decide +kernel) (pa_cons (pe_fld (pv 0) rfl) pa_nil))), ?_⟩
    exact ⟨_, rfl, x, C, dx, _, _, rfl, hx, TC.cl, TC.n_makings, kf_mak _ _ _, md, kvs, rfl, .inl hd, fun p np => q p kvs np hM⟩
def spKNam (C : Addr) : Sp := fun vs H Q _ => ∃ x md leaf M ns, vs = [.ref x] ∧ KindsAt C H x md leaf M ns ∧ ∀ p, H p = some (.tup (ns.map V.str)) → Q (.ref p) H
theorem ok_knam {C f : Addr} {fd : FuncData} (F : Fun K "names" "Kinds.names" s_Kinds_names f fd) (TC : Cl_Kinds K mg C) : FnOk P w K mg base CX0 1 f fd ["self"] (spKNam C) := by
  refine F.ok sc_Kinds_names (fun vs H Q E h => ?_) (fun cdv A outer s H vs Q E hr h => ?_)
  · obtain ⟨x, md, leaf, M, ns, rfl, _⟩ := h
    rfl
  · obtain ⟨x, md, leaf, M, ns, rfl, ⟨dx, nt, kvs, hx, hd, hM, hn⟩, q⟩ := h
    refine ⟨_, pss_one (ps_ret (pe_fld (pv 0) rfl)), ?_⟩
    exact ⟨_, rfl, x, C, dx, _, _, rfl, hx, TC.cl, TC.n_names, kf_names _ _ _, q nt hn⟩
/-! ### lines -/
theorem empty_app (a : Str) : Str.empty ++ a = a := by
  show (⟨#[] ++ a.cps⟩ : Str) = a
  rw [Array.empty_append]
theorem len_app (a b : Str) : (a ++ b).length = a.length + b.length := by
  show (a.cps ++ b.cps).size = _
  rw [Array.size_append]
  rfl
end
end Kl

set_option maxRecDepth 100000
set_option maxHeartbeats 4000000
namespace Gx
open PySem PySem.Spec PyProof.Rows L2 SeqAt Mx
open AutoSeq1 (wpAny_loadPart')
/-! ### a dict is no text; data and dicts in a tuple -/
theorem str_eq_dict (b : Str) (u : Tok) (l : Addr) (dd : Option Addr) (sl : Array (Option Value)) (es : Array DictEntry) (ep : Nat) :
    Meets (Builtin.«str.__eq__» ⟨[.str b u, .ref l], []⟩) (fun _ R s => s.heap.get? l = some { cls := .type "dict", dict := dd, data := .dict es ep, slots := sl } ∧ R (.ok (.ret .notImplemented)) s) :=
  .of_wp fun prog w A R s h => by obtain ⟨hp, g, d, tk, os⟩ := s; obtain ⟨hl, h⟩ := h; wp_walk using wpAny_loadPart' hl, wpAny_load hl; exact ⟨_, rfl, h⟩
theorem dict_eq_str {prog : Program} {w : World} {A : Around} {E : Value → Shared → Prop} {s : Shared} {Q : Value → Shared → Prop} {a : Addr} {b : Str} {u : Tok} (da : s.TypeIs (.ref a) "dict") (h : Q .notImplemented s) :
    wpAny (model prog w) A (call (.builtin "dict.__eq__") [.ref a, .str b u]) Q E s := by
  refine wpAny_call_entry PySem.F.slot_dict_eq da PySem.F.entry_dict_eq ?_ (PySem.F.args_dict_eq_2 _ _)
  show wpAny _ _ (Builtin.Dict.dictSlotArgs "__eq__" ⟨[.ref a, .str b u], []⟩ >>= _) _ _ s
  refine wpAny_bind ?_
  unfold Builtin.Dict.dictSlotArgs
  refine wpAny_bind (wpAny_notOrdered_dict da ?_)
  show wpAny _ _ (pure (Value.ref a, Value.str b u)) _ _ s
  refine wpAny_pure ?_
  refine wpAny_bind (wpAny_isInstance (T := "str") (typeIs_str s b u) PySem.F.sub_str_dict ?_)
  simp only [Bool.not_false, if_true]
  exact wpAny_bind (wpAny_rule (wpAny_bind (wpAny_pure (wpAny_pure ⟨_, rfl, h⟩))))
section
variable {A : Around} {s : Shared}
theorem eqAt_str_dict {l : Addr} {ob : Obj} (b : Str) (u : Tok) (hl : s.heap.get? l = some ob) (hc : ob.cls = .type "dict") {es : Array DictEntry} {ep : Nat} (hde : ob.data = .dict es ep) (hu : A.units < cLine) : EqAt A s (.str b u) (.ref l) false := fun prog w E Q h => by
  unfold eqBool
  refine wpAny_holding ?_
  refine wpAny_ite_split (fun hab => absurd (eq_of_beq hab) nofun) (fun _ => ?_)
  obtain ⟨cls2, dd2, data2, sl2⟩ := ob
  simp only at hc hde
  subst hc hde
  refine wpAny_bind ?_
  exact rc_eq_decline_or (k := false) (typeIs_str s b u) ⟨_, hl, rfl⟩ (by decide) F.sub_dict_str F.slot_str_eq F.slot_dict_eq_refl
    (fun _ hq => call_meets F.slot_str_eq (typeIs_str s b u) F.entry_str_eq (F.args_str_eq_2 _ _) (str_eq_dict b u l dd2 sl2 es ep) ⟨hl, hq⟩)
    (fun _ hq => dict_eq_str ⟨_, hl, rfl⟩ hq)
    (fun _ hq => wpAny_of_eq (rfl : isSame (.str b u) (.ref l) = pure false) hq) (.inr hu) (wpAny_truthy_bool h)
end
section
variable {X : Cx}
theorem vals_mem : ∀ {zs : List Str} {its : List Value} {y : Value}, Vals (zs.map V.str) its → y ∈ its → ∃ z t, y = .str z t
  | [], _, _, .nil, h => nomatch h
  | z :: zs, _, y, .cons r t, h => by
    rcases List.mem_cons.mp h with rfl | h
    · obtain ⟨tk, e⟩ := r
      exact ⟨z, tk, e⟩
    · exact vals_mem t h
/-- x in a tuple of texts: data that are not deep, or a dict -/
def rInTx (K : PySem.W.Frag) : R2 := fun x y H Q => ∃ (p : Addr) (zs : List Str), y = .ref p ∧ SqT K H p (zs.map V.str) ∧ (∀ z ∈ zs, PyData.strOk z = true) ∧
  ((∃ d, Dp K H x d ∧ d.canLay0 = true ∧ d.depth ≤ 10 ∧ Q (.bl ((tD zs).any fun z => PyData.eqv z d)) H) ∨ ∃ a kvs, x = .ref a ∧ H a = some (.dK kvs) ∧ Q (.bl false) H)
theorem op_inTx (hu : X.A.units + 64 < cLine) : OpR X (compareOp .In) (rInTx X.K) := by
  intro pins s σ H x y v u Q I rx ry h
  obtain ⟨p, zs, rfl, hp, ok, h⟩ := h
  rcases h with ⟨d, hd, sd, dp, q⟩ | ⟨a, kvs, rfl, ea, q⟩
  · obtain ⟨as, r1⟩ := Dp.reads I d x v hd rx
    obtain ⟨bs, r2⟩ := Dp.reads I (.tuple (tD zs)) (.ref p) u (.tup hp (dp_texts zs)) ry
    exact SeqAt.in_tuple_reads r2 r1 (canLay_texts zs ok) sd (by omega) ⟨.bl _, H, I, rfl, q⟩
  · cases rx
    cases ry
    obtain ⟨its, rv, pl, hz⟩ := I.tuple hp
    obtain ⟨_, _, vs, _, hd⟩ := dk_of I.hok ea
    obtain ⟨ob, hb, hD⟩ := Heap.dictOf_iff.mp hd
    obtain ⟨es, ep, ex, ed, _⟩ := hD
    have hcb : ob.cls = .type "dict" := ex.1
    refine SeqAt.in_tupleAt (fun _ => false) pl (fun y hy => ?_) ⟨.bl false, H, I, ?_, q⟩
    · rw [List.mem_toArray] at hy
      obtain ⟨z, t, rfl⟩ := vals_mem rv hy
      exact eqAt_str_dict z t hb hcb ed (by show X.A.units + 1 < cLine; omega)
    · show Value.bool _ = Value.bool false
      rw [Array.any_eq_false' |>.mpr (fun _ _ => by simp)]
end
end Gx

set_option maxRecDepth 100000
set_option maxHeartbeats 4000000
namespace Kl
open PySem PySem.Spec PyProof.Rows L2 Gx Mx
section
variable {X : Cx}
/-! ### tuple(list): a tuple whose object is known; its index -/
theorem call_tupleZ : CallR X (.type "tuple") (fun xs H Q => ∃ p ys, xs = [.ref p] ∧ SqL X.K H p ys ∧ ∀ l H', TupZ H' l ys → H l = none → (∀ b, b ≠ l → H' b = H b) → Q (.ref l) H') := by
  intro pins s σ H xs us Q I r h
  obtain ⟨p, ys, rfl, hq, q⟩ := h
  obtain ⟨u, rfl, rx⟩ := vals1 r
  cases rx
  obtain ⟨its, r', pl, hz⟩ := I.list hq
  have hlen := r'.length
  refine call_tuple_list pl.isList (fun h' kp => ?_) (by simp only [List.size_toArray] <;> omega)
  have I1 : Inv X pins σ H { s with heap := h' } := I.kept (t' := s.toks) kp
  have I2 : Inv X pins σ (upd H h'.objs.size (.frz { cls := .type "tuple", data := .seq its.toArray } (.tup ys))) { s with heap := h'.push { cls := .type "tuple", data := .seq its.toArray } } :=
    I1.laid (t' := s.toks) (fun b o e => Heap.get?_push_of_some _ e) (Nat.le_refl _) (show ObjOk X.prog X.w _ _ _ (.frz _ (.tup ys)) from ⟨Heap.get?_push_size _ rfl, hz, its, r', IsTup.new _ _⟩)
  exact ⟨.ref h'.objs.size, _, I2, rfl, q _ _ ⟨_, rfl, upd_same⟩ (I1.hok.fresh (Nat.le_refl _)) (fun b n => upd_ne n)⟩
def tyTupZ (x : V) (H : Hp) : Prop := ∃ a xs, x = .ref a ∧ TupZ H a xs
theorem ty_tupZ : TyOk X "tuple" tyTupZ := by
  intro pins σ H s x v I r ty
  obtain ⟨a, xs, rfl, ob, hd, e⟩ := ty
  cases r
  obtain ⟨e1, hz, its, rv, o2, e2, hc, _⟩ := I.hok a _ e
  rw [e1] at e2
  cases e2
  refine ⟨⟨_, e1, hc⟩, fun b q => ?_⟩
  cases q
  exact ⟨_, e1, hd⟩
end
section
variable {P : Program} {w : World} {K : PySem.W.Frag} {mg : Str → Option Value} {base : Heap}
/-! ### in, [..], len, str -/
def spKHas (K : PySem.W.Frag) (C : Addr) : Sp := fun vs H Q _ => ∃ (x md : Addr) (leaf : Str) (M : Mak) (ns : List Str) (v : V), vs = [V.ref x, v] ∧ KindsAt C H x md leaf M ns ∧ (∀ z ∈ ns, PyData.strOk z = true) ∧
  ((∃ d, Dp K H v d ∧ d.canLay0 = true ∧ d.depth ≤ 10 ∧ Q (.bl ((tD ns).any fun z => PyData.eqv z d)) H) ∨ ∃ a kvs, v = .ref a ∧ H a = some (.dK kvs) ∧ Q (.bl false) H)
theorem ok_khas {C f : Addr} {fd : FuncData} (F : Fun K "__contains__" "Kinds.__contains__" s_Kinds_contains f fd) (T : Top K mg) (TC : Cl_Kinds K mg C) : FnOk P w K mg base CX0 1 f fd ["self", "value"] (spKHas K C) := by
  refine F.ok sc_Kinds_contains (fun vs H Q E h => ?_) (fun cdv A outer s H vs Q E hr h => ?_)
  · obtain ⟨x, md, leaf, M, ns, v, rfl, _⟩ := h
    rfl
  · obtain ⟨x, md, leaf, M, ns, v, rfl, ⟨dx, nt, kvs, hx, hd, hM, hn⟩, ok, q⟩ := h
    have hu := hu_of hr
    refine ⟨_, pss_one (ps_ret (pe_cmpR (op_inTx hr.units) (pv 1) (pe_fld (pv 0) rfl) (by rfl))), ?_⟩
    exact ⟨_, rfl, _, rfl, x, C, dx, _, _, rfl, hx, TC.cl, TC.n_names, kf_names _ _ _, nt, ns, rfl, .inl (.inl hn), ok, q⟩
def spKGet (C : Addr) : Sp := fun vs H Q _ => ∃ (x md : Addr) (leaf : Str) (M : Mak) (ns : List Str) (z : Str), vs = [V.ref x, .str z] ∧ KindsAt C H x md leaf M ns ∧ z ∈ ns ∧
  ∀ p H', Same H H' → ((∃ ps, lookM M z = some ps ∧ TupZ H' p (ps.map V.str)) ∨ (lookM M z = none ∧ H' p = some (.tup []))) → Q (.ref p) H'
theorem ok_kget {C f : Addr} {fd : FuncData} (F : Fun K "__getitem__" "Kinds.__getitem__" s_Kinds_getitem f fd) (T : Top K mg) (TC : Cl_Kinds K mg C) : FnOk P w K mg base CX0 1 f fd ["self", "name"] (spKGet C) := by
  refine F.ok sc_Kinds_getitem (fun vs H Q E h => ?_) (fun cdv A outer s H vs Q E hr h => ?_)
  · obtain ⟨x, md, leaf, M, ns, z, rfl, _⟩ := h
    rfl
  · obtain ⟨x, md, leaf, M, ns, z, rfl, ⟨dx, nt, kvs, hx, hd, hM, hn⟩, hz, q⟩ := h
    have hu := hu_of hr
    refine ⟨_, pss_cons (ps_if (pt_cmpR op_notIn_seq (pv 1) (pe_fld (pv 0) rfl) (by rfl)) (pss_one ps_never) pss_nil)
      (pss_one (ps_ret (pe_dget2 hu (pe_fld (pv 0) rfl) (pv 1) (pe_tup pa_nil) (by constructor <;> rfl)))), ?_⟩
    refine ⟨_, rfl, _, rfl, x, C, dx, _, _, rfl, hx, TC.cl, TC.n_names, kf_names _ _ _, nt, _, rfl, .inr (.inl (.inl hn)), rfl, flat_strs' ns, _, rfl, ?_⟩
    have e : inV (V.str z) (ns.map V.str) = true := by rw [inV_strs, decide_eq_true hz]
    simp only [e, if_true, Bool.not_true, Bool.false_eq_true, if_false]
    refine ⟨_, rfl, x, C, dx, _, _, rfl, hx, TC.cl, TC.n_makings, kf_mak _ _ _, md, rfl, .inl ⟨kvs, .inl hd⟩, _, rfl, Nat.zero_le _, fun p np => ?_⟩
    have s1 : Same H (upd H p (.tup [])) := same_new (Same.refl H) np
    have hd1 := s1 _ _ hd
    rcases hM.get z with ⟨e1, e2⟩ | ⟨ps, a, e1, e2, e3⟩
    · refine ⟨none, .inl ⟨kvs, Sum.inr z, .inl hd1, rfl, e2.symm⟩, ?_⟩
      exact q p _ s1 (.inr ⟨e1, upd_same⟩)
    · refine ⟨some (.ref a), .inl ⟨kvs, Sum.inr z, .inl hd1, rfl, e2.symm⟩, ?_⟩
      exact q a _ s1 (.inl ⟨ps, e1, e3.mono s1⟩)
def spKLen (C : Addr) : Sp := fun vs H Q _ => ∃ (x md : Addr) (leaf : Str) (M : Mak) (ns : List Str), vs = [V.ref x] ∧ KindsAt C H x md leaf M ns ∧ Q (.int (ns.length : Nat)) H
theorem ok_klen {C f : Addr} {fd : FuncData} (F : Fun K "__len__" "Kinds.__len__" s_Kinds_len f fd) (T : Top K mg) (TC : Cl_Kinds K mg C) : FnOk P w K mg base CX0 1 f fd ["self"] (spKLen C) := by
  refine F.ok sc_Kinds_len (fun vs H Q E h => ?_) (fun cdv A outer s H vs Q E hr h => ?_)
  · obtain ⟨x, md, leaf, M, ns, rfl, _⟩ := h
    rfl
  · obtain ⟨x, md, leaf, M, ns, rfl, ⟨dx, nt, kvs, hx, hd, hM, hn⟩, q⟩ := h
    refine ⟨_, pss_one (ps_ret (pe_callB call_len_seq (by rfl) T.b_len PySem.boot_len (pa_cons (pe_fld (pv 0) rfl) pa_nil))), ?_⟩
    refine ⟨_, rfl, x, C, dx, _, _, rfl, hx, TC.cl, TC.n_names, kf_names _ _ _, nt, _, rfl, .inr (.inl (.inl hn)), ?_⟩
    rw [List.length_map]
    exact q
def strK (n : Nat) (leaf : Str) : Str := ((toString (n : Int) : Str) ++ " kinds, leaf ") ++ leaf
theorem strK_len {n : Nat} (h : n ≤ 6) : ((toString (n : Int) : Str)).length ≤ 8 := by
  have e : (List.range 7).all (fun n => decide (((toString (n : Int) : Str)).length ≤ 8)) = true := by decide +kernel
  exact of_decide_eq_true (List.all_eq_true.mp e n (List.mem_range.mpr (by omega)))
theorem log_six {n : Nat} (h : n ≤ 6) : ((n : Int)).natAbs.log2 < 1920 := by
  have e : (List.range 7).all (fun n => decide (((n : Int)).natAbs.log2 < 1920)) = true := by decide +kernel
  exact of_decide_eq_true (List.all_eq_true.mp e n (List.mem_range.mpr (by omega)))
def spKStr (C : Addr) : Sp := fun vs H Q _ => ∃ (x md : Addr) (leaf : Str) (M : Mak) (ns : List Str), vs = [V.ref x] ∧ KindsAt C H x md leaf M ns ∧ ns.length ≤ 6 ∧ leaf.length ≤ 8 ∧ Q (.str (strK ns.length leaf)) H
theorem ok_kstr {C f : Addr} {fd : FuncData} (F : Fun K "__str__" "Kinds.__str__" s_Kinds_str f fd) (T : Top K mg) (TC : Cl_Kinds K mg C) : FnOk P w K mg base CX0 1 f fd ["self"] (spKStr C) := by
  refine F.ok sc_Kinds_str (fun vs H Q E h => ?_) (fun cdv A outer s H vs Q E hr h => ?_)
  · obtain ⟨x, md, leaf, M, ns, rfl, _⟩ := h
    rfl
  · obtain ⟨x, md, leaf, M, ns, rfl, ⟨dx, nt, kvs, hx, hd, hM, hn⟩, l6, l8, q⟩ := h
    refine ⟨_, pss_one (ps_ret (pe_joinedN (.cons (pe_fmt (pe_callB call_len_seq (by rfl) T.b_len PySem.boot_len (pa_cons (pe_fld (pv 0) rfl) pa_nil))) (.cons pe_str (.cons (pe_fmt (pe_fld (pv 0) rfl)) .nil))))), ?_⟩
    refine ⟨_, rfl, x, C, dx, _, _, rfl, hx, TC.cl, TC.n_names, kf_names _ _ _, nt, _, rfl, .inr (.inl (.inl hn)), .inr ⟨(ns.length : Int), by rw [List.length_map], log_six l6, ?_⟩⟩
    have k14 : (" kinds, leaf " : Str).length = 13 := rfl
    have big : 1000 ≤ sizeLine := by decide
    have e8 := strK_len l6
    refine ⟨_, rfl, by rw [empty_app]; omega, _, rfl, by rw [empty_app, len_app]; omega, _, rfl, x, C, dx, _, _, rfl, hx, TC.cl, TC.n_leaf, kf_leaf _ _ _, .inl ⟨leaf, rfl, by omega, _, rfl, by rw [empty_app, len_app, len_app]; omega, ?_⟩⟩
    rw [empty_app]
    exact q
end
end Kl

set_option maxRecDepth 100000
set_option maxHeartbeats 4000000
namespace Kl
open PySem PySem.Spec PyProof.Rows L2 Gx Mx
/-! ### equal makings -/
def eqB (M N : Mak) : Bool := M.length == N.length && M.all fun m => decide (lookM N m.1 = some m.2)
theorem sub_back : ∀ {xs ys : List Str}, xs.Nodup → (∀ z ∈ xs, z ∈ ys) → ys.length ≤ xs.length → ∀ z ∈ ys, z ∈ xs
  | [], ys, _, _, hl, z, hz => by
    have e : ys = [] := List.eq_nil_of_length_eq_zero (Nat.le_zero.mp hl)
    rw [e] at hz
    exact hz
  | x :: xs, ys, nd, hs, hl, z, hz => by
    have nd' := List.nodup_cons.mp nd
    have hx : x ∈ ys := hs x List.mem_cons_self
    by_cases e : z = x
    · rw [e]
      exact List.mem_cons_self
    · refine List.mem_cons_of_mem _ (sub_back nd'.2 (ys := ys.erase x) (fun y hy => ?_) ?_ z ((List.mem_erase_of_ne e).mpr hz))
      · exact (List.mem_erase_of_ne (fun q => nd'.1 (by rw [← q]; exact hy))).mpr (hs y (List.mem_cons_of_mem _ hy))
      · rw [List.length_erase_of_mem hx]
        rw [List.length_cons] at hl
        omega
theorem eqB_iff {M N : Mak} (hM : (keysOf M).Nodup) (hN : (keysOf N).Nodup) : eqB M N = true ↔ ∀ z, lookM M z = lookM N z := by
  unfold eqB
  rw [Bool.and_eq_true, beq_iff_eq, List.all_eq_true]
  constructor
  · rintro ⟨hl, ha⟩ z
    have sub : ∀ z ∈ keysOf M, z ∈ keysOf N := fun z hz => by
      obtain ⟨m, hm, rfl⟩ := List.mem_map.mp hz
      exact List.mem_map.mpr ⟨(m.1, m.2), lookM_some (of_decide_eq_true (ha m hm)), rfl⟩
    have back := sub_back hM sub (by unfold keysOf; rw [List.length_map, List.length_map]; omega)
    by_cases hz : z ∈ keysOf M
    · obtain ⟨m, hm, rfl⟩ := List.mem_map.mp hz
      rw [lookM_mem hM hm, of_decide_eq_true (ha m hm)]
    · rw [lookM_none.mpr hz, lookM_none.mpr fun q => hz (back z q)]
  · intro h
    have k : ∀ z, z ∈ keysOf M ↔ z ∈ keysOf N := fun z => by
      constructor
      · intro q
        obtain ⟨ps, e⟩ := lookM_in q
        rw [h] at e
        exact List.mem_map.mpr ⟨_, lookM_some e, rfl⟩
      · intro q
        obtain ⟨ps, e⟩ := lookM_in q
        rw [← h] at e
        exact List.mem_map.mpr ⟨_, lookM_some e, rfl⟩
    refine ⟨?_, fun m hm => decide_eq_true ((h m.1).symm.trans (lookM_mem hM hm))⟩
    have := ((List.perm_ext_iff_of_nodup hM hN).mpr k).length_eq
    unfold keysOf at this
    rwa [List.length_map, List.length_map] at this
theorem eqB_ord {M M' N N' : Mak} (hM : (keysOf M).Nodup) (hN : (keysOf N).Nodup) (o : OrdOf M M') (o' : OrdOf N N') : eqB M' N' = eqB M N := by
  rw [Bool.eq_iff_iff, eqB_iff o.nd o'.nd, eqB_iff hM hN]
  constructor
  · intro h z
    rw [← o.look, ← o'.look]
    exact h z
  · intro h z
    rw [o.look, o'.look]
    exact h z
theorem hits {K : PySem.W.Frag} {H : Hp} {ls : List (Key × V)} {N : Mak} (hN : MakAt H ls N) : ∀ {ks : List (Key × V)} {M : Mak}, MakAt H ks M → M.length ≤ 1000 → (∀ m ∈ M, SeqAt.shaped (.tuple (tD m.2)) = true) → (∀ m ∈ N, SeqAt.shaped (.tuple (tD m.2)) = true) →
    HitsV K H ls ks (M.all fun m => decide (lookM N m.1 = some m.2))
  | _, _, .nil, _, _, _ => .nil
  | kv :: ks, m :: M, .cons h t, hl, hs, hs' => by
    obtain ⟨h1, a, h2, h3⟩ := h
    have ih := hits (K := K) hN t (by rw [List.length_cons] at hl; omega) (fun m hm => hs m (List.mem_cons_of_mem _ hm)) hs'
    rw [List.all_cons]
    rcases hN.get m.1 with ⟨e1, e2⟩ | ⟨ps, b, e1, e2, e3⟩
    · rw [e1, show decide ((none : Option (List Str)) = some m.2) = false from rfl, Bool.false_and]
      exact .miss (by rw [h1]; exact e2)
    · have e : decide (lookM N m.1 = some m.2) = PyData.eqv (.tuple (tD m.2)) (.tuple (tD ps)) := by
        rw [PyData.eqv, eqv_texts, e1, Bool.eq_iff_iff, decide_eq_true_eq, decide_eq_true_eq]
        constructor
        · intro q
          exact (Option.some.inj q).symm
        · intro q
          rw [q]
      rw [e]
      exact .hit (by rw [h1]; exact e2) (by rw [h2]; exact .tup h3.sq (dp_texts _)) (.tup e3.sq (dp_texts _)) (hs m List.mem_cons_self) (hs' (m.1, ps) (lookM_some e1)) ih
section
variable {P : Program} {w : World} {K : PySem.W.Frag} {mg : Str → Option Value} {base : Heap}
/-! ### == -/
theorem hu66_of {A : Around} {k : Nat} (hr : Room k A) : A.units + 66 < cLine := by
  have := hr.un
  omega
theorem texts_shaped : ∀ (zs : List Str), (∀ z ∈ zs, z ∈ POOL) → zs.length ≤ 3 → SeqAt.shaped (.tuple (tD zs)) = true
  | [], _, _ => by decide +kernel
  | [a], h, _ => by
    have e : POOL.all (fun a => SeqAt.shaped (.tuple (tD [a]))) = true := by decide +kernel
    exact List.all_eq_true.mp e a (h a List.mem_cons_self)
  | [a, b], h, _ => by
    have e : POOL.all (fun a => POOL.all fun b => SeqAt.shaped (.tuple (tD [a, b]))) = true := by decide +kernel
    exact List.all_eq_true.mp (List.all_eq_true.mp e a (h a (by simp))) b (h b (by simp))
  | [a, b, c], h, _ => by
    have e : POOL.all (fun a => POOL.all fun b => POOL.all fun c => SeqAt.shaped (.tuple (tD [a, b, c]))) = true := by decide +kernel
    exact List.all_eq_true.mp (List.all_eq_true.mp (List.all_eq_true.mp e a (h a (by simp))) b (h b (by simp))) c (h c (by simp))
  | a :: b :: c :: d :: r, _, hl => by simp at hl
theorem Vld.shaped {leaf : Str} {M : Mak} (v : Vld leaf M) : ∀ m ∈ M, SeqAt.shaped (.tuple (tD m.2)) = true := fun m hm =>
  texts_shaped m.2 (fun z hz => v.part hm hz) (v.parts m hm).2.2.1
def spKEq (K : PySem.W.Frag) (C : Addr) : Sp := fun vs H Q _ => ∃ (x md : Addr) (leaf : Str) (M : Mak) (ns : List Str) (y : V), vs = [V.ref x, y] ∧ KindsAt C H x md leaf M ns ∧ Vld leaf M ∧
  ((∃ (x' md' : Addr) (leaf' : Str) (N : Mak) (ns' : List Str), y = .ref x' ∧ KindsAt C H x' md' leaf' N ns' ∧ Vld leaf' N ∧ Q (.bl (decide (leaf = leaf') && eqB M N)) H) ∨
    ∃ t, TyX K H y t ∧ PySem.W.kitOne K t (.ref C) = some false ∧ Q (.bl false) H)
theorem ok_keq {C f : Addr} {fd : FuncData} (F : Fun K "__eq__" "Kinds.__eq__" s_Kinds_eq f fd) (T : Top K mg) (TC : Cl_Kinds K mg C) : FnOk P w K mg base CX0 1 f fd ["self", "other"] (spKEq K C) := by
  refine F.ok sc_Kinds_eq (fun vs H Q E h => ?_) (fun cdv A outer s H vs Q E hr h => ?_)
  · obtain ⟨x, md, leaf, M, ns, y, rfl, _⟩ := h
    rfl
  · obtain ⟨x, md, leaf, M, ns, y, rfl, ⟨dx, nt, kvs, hx, hd, hM, hn⟩, hV, q⟩ := h
    have hu := hu_of hr
    refine ⟨_, pss_one (ps_ret (pe_and (pe_callB call_isi (by rfl) T.b_isinstance (by decide +kernel) (pa_cons (pv 1) (pa_cons (pe_glob (v := .ref C) (by rfl) TC.gC rfl) pa_nil)))
      (pe_and (pe_cmpR op_eq (pe_fld (pv 0) rfl) (pe_fld (pv 1) rfl) (nomark _)) (pe_one (pe_cmpR (op_eqDX (hu66_of hr)) (pe_fld (pv 0) rfl) (pe_fld (pv 1) rfl) (nomark _)))))), ?_⟩
    rcases q with ⟨x', md', leaf', N, ns', rfl, ⟨dx', nt', kvs', hx', hd', hN, hn'⟩, hV', q⟩ | ⟨t, ty, kt, q⟩
    · refine ⟨_, rfl, _, _, .ref C, .ref C, true, rfl, .own C, .base (.ins hx' TC.cl TC.ca TC.cg TC.ct TC.ob), TC.kit, true, rfl, ?_⟩
      rw [if_pos rfl]
      refine ⟨_, rfl, x, C, dx, _, _, rfl, hx, TC.cl, TC.n_leaf, kf_leaf _ _ _, _, rfl, x', C, dx', _, _, rfl, hx', TC.cl, TC.n_leaf, kf_leaf _ _ _, rfl, _, rfl, ?_⟩
      have ed : decide (V.str leaf = V.str leaf') = decide (leaf = leaf') := by
        rw [Bool.eq_iff_iff, decide_eq_true_eq, decide_eq_true_eq]
        exact ⟨fun q => V.str.inj q, fun q => by rw [q]⟩
      rw [ed]
      by_cases e : leaf = leaf'
      · rw [decide_eq_true e, if_pos rfl]
        rw [decide_eq_true e, Bool.true_and] at q
        refine ⟨_, rfl, x, C, dx, _, _, rfl, hx, TC.cl, TC.n_makings, kf_mak _ _ _, _, rfl, x', C, dx', _, _, rfl, hx', TC.cl, TC.n_makings, kf_mak _ _ _, md, md', kvs, kvs', _, rfl, rfl, hd, hd', fun _ => hits hN hM (by have := hV.len; omega) hV.shaped hV'.shaped, ?_⟩
        rw [hM.len, hN.len]
        exact q
      · rw [decide_eq_false e] at q ⊢
        rw [if_neg (by decide)]
        exact q
    · refine ⟨_, rfl, _, _, t, .ref C, false, rfl, .own C, ty, kt, false, rfl, ?_⟩
      rw [if_neg (by decide)]
      exact q
end
end Kl

set_option maxRecDepth 100000
set_option maxHeartbeats 4000000
namespace Kl
open PySem PySem.Spec PyProof.Rows L2 Gx Mx
theorem erase_map {α β : Type} (f : α → β) : ∀ (l : List α) (k : Nat), (l.map f).eraseIdx k = (l.eraseIdx k).map f
  | [], _ => rfl
  | _ :: _, 0 => rfl
  | x :: l, k + 1 => congrArg (f x :: ·) (erase_map f l k)
theorem erase_perm {α : Type} : ∀ (l : List α) (k : Nat) (x : α), l[k]? = some x → (x :: l.eraseIdx k).Perm l
  | [], _, _, h => by simp at h
  | y :: l, 0, x, h => by
    simp at h
    subst h
    exact List.Perm.refl _
  | y :: l, k + 1, x, h => by
    have ih := erase_perm l k x h
    exact (List.Perm.swap y x (l.eraseIdx k)).trans (ih.cons y)
section
variable {P : Program} {w : World} {K : PySem.W.Frag} {mg : Str → Option Value} {base : Heap}
/-! ### _law_mixed -/
def spMixed (K : PySem.W.Frag) : Sp := fun vs H Q _ => ∃ (d p : Addr) (zs : List Str), vs = [.ref d, .ref p] ∧ DiceAt H d ∧ p ≠ d ∧ SqL K H p (zs.map V.str) ∧ zs.length ≤ 1000 ∧
  ∀ (q : Addr) (H' : Hp) (ys : List Str), ys.Perm zs → H q = none → H' q = some (.lst (ys.map V.str)) → SameX d H H' → DiceAt H' d → Q (.ref q) H'
theorem seqI {r : Int} {n : Nat} (h0 : 0 ≤ r) (h1 : r < n) : seqIndex? r n = some r.toNat := by
  have e : ¬ r < 0 := by omega
  simp [seqIndex?, e, h0, h1]
theorem ok_mixed {f : Addr} {fd : FuncData} (F : Fun K "_law_mixed" "_law_mixed" s_law_mixed f fd) (T : Top K mg) : FnOk P w K mg base CX0 2 f fd ["_law_dice_here", "_law_items"] (spMixed K) := by
  have cr : Cal P w K mg base 1 "_law_roll" ["_law_dice_here", "_law_total"] spRoll := T.d_law_roll.cal fun f fd F => ok_roll F T
  refine F.ok sc_law_mixed (fun vs H Q E h => ?_) (fun cdv A outer s H vs Q E hr h => ?_)
  · obtain ⟨d, p, zs, rfl, _⟩ := h
    rfl
  · obtain ⟨d, p, zs, rfl, hd, hpd, hs, hl, q⟩ := h
    refine ⟨_, pss_cons (ps_par (i := 2) (j := 3) rfl sc_law_mixed.nd rfl rfl (by decide) rfl rfl (pa_cons (pe_callTy call_list_of (by rfl) T.b_list (by decide +kernel) (pa_cons (pv 1) pa_nil)) (pa_cons (pe_lst pa_nil) pa_nil)) rfl)
      (pss_cons (ps_for PassesOwn.never rfl (pi_range1 (by rfl) T.b_range (pa_cons (pe_callB call_len_seq (by rfl) T.b_len PySem.boot_len (pa_cons (pv 1) pa_nil)) pa_nil)) (pg_name (i := 4) sc_law_mixed.nd rfl (.inl rfl))
        (pss_one (ps_expr (pe_bm PySem.F.plainAttrs_list PySem.F.slot_list_append PySem.F.type_list_append mt_append (pv 3) (pa_cons
          (pe_bm PySem.F.plainAttrs_list PySem.F.slot_list_pop PySem.F.type_list_pop mt_popAt (pv 2) (pa_cons (pe_cal cr hr (by rfl) (pa_cons (pv 0) (pa_cons (pe_callB call_len_seq (by rfl) T.b_len PySem.boot_len (pa_cons (pv 2) pa_nil)) pa_nil))) pa_nil)) pa_nil)))))
      (pss_one (ps_ret (pv 3)))), ?_⟩
    have ln : (zs.map V.str).length = zs.length := List.length_map _
    refine ⟨_, rfl, p, _, rfl, .inl hs, fun l nl => ?_⟩
    have hld : l ≠ d := dice_ne hd nl
    refine ⟨Nat.zero_le _, fun q' nq => ?_⟩
    have hql : q' ≠ l := fun z => by
      rw [z, upd_same] at nq
      cases nq
    have nq0 : H q' = none := by rwa [upd_ne hql] at nq
    have hqd : q' ≠ d := dice_ne hd nq0
    have hp2 : SqL K (upd (upd H l (.lst (zs.map V.str))) q' (.lst [])) p (zs.map V.str) := by
      have s2 : Same H (upd (upd H l (.lst (zs.map V.str))) q' (.lst [])) := same_new (same_new (Same.refl H) nl) nq
      rcases hs with (h | ⟨o, h⟩) | h
      · exact .inl (.inl (s2 _ _ h))
      · exact .inl (.inr ⟨o, s2 _ _ h⟩)
      · exact .inr h
    refine ⟨_, _, rfl, _, rfl, p, _, rfl, .inl hp2, _, rfl, by omega, by omega, ?_⟩
    rw [ln]
    refine for_range (lo := 0) (fun i σ' H' => ∃ t, ∃ ls fs : List Str, σ' = [some (.ref d), some (.ref p), some (.ref l), some (.ref q'), t] ∧ H' l = some (.lst (ls.map V.str)) ∧ H' q' = some (.lst (fs.map V.str)) ∧ fs.length = i ∧ (fs ++ ls).Perm zs ∧ SameX d H H' ∧ DiceAt H' d)
      ⟨none, zs, [], rfl, ?_, upd_same, rfl, List.Perm.refl _, ?_, ?_⟩ (fun i σ' H' hi hP => ?_) (fun σ' H' hP => ?_)
    · rw [upd_ne hql.symm, upd_same]
    · exact ((SameX.refl d H).at nl).at nq0
    · exact dice_upd (dice_upd hd hld) hqd
    · obtain ⟨t, ls, fs, rfl, el, eq, lf, hp, sx, hd'⟩ := hP
      have lz := hp.length_eq
      rw [List.length_append] at lz
      have l1 : 0 < ls.length := by omega
      have lm : (ls.map V.str).length = ls.length := List.length_map _
      refine ⟨_, rfl, ⟨.inl ⟨rfl, _, .inl (.inl eq)⟩, ?_⟩⟩
      refine ⟨_, rfl, ⟨.inl ⟨rfl, _, .inl (.inl el)⟩, ?_⟩⟩
      refine ⟨_, rfl, _, rfl, l, _, rfl, .inl (.inl (.inl el)), d, _, rfl, hd', by rw [lm]; omega, by rw [lm]; exact log2_small (by omega), fun r x b c h0 h1 => ?_⟩
      rw [lm] at h1
      obtain ⟨k, rfl⟩ := Int.eq_ofNat_of_zero_le h0
      have hk : k < ls.length := by omega
      have ek : (ls.map V.str)[k]? = some (.str ls[k]) := by rw [List.getElem?_map, List.getElem?_eq_getElem hk]; rfl
      refine ⟨l, ls.map V.str, (k : Int), k, _, rfl, rfl, by rw [upd_ne hld]; exact el, by omega, by omega, by rw [lm]; exact seqI h0 h1, ek, ?_⟩
      refine ⟨q', fs.map V.str, _, rfl, rfl, by rw [upd_ne hql, upd_ne hqd]; exact eq, ?_, ?_⟩
      · rw [List.length_map]
        exact Nat.lt_of_le_of_lt (show fs.length ≤ 1000 by omega) (by decide)
      · refine ⟨_, ls.eraseIdx k, fs ++ [ls[k]], rfl, ?_, ?_, by rw [List.length_append, lf]; rfl, ?_, ?_, ?_⟩
        · rw [upd_ne hql.symm, upd_same, erase_map]
        · rw [upd_same, List.map_append]
          rfl
        · have e1 := erase_perm ls k _ (List.getElem?_eq_getElem hk)
          rw [List.append_assoc]
          exact (e1.append_left fs).trans hp
        · exact (sx.atd.at nl).at nq0
        · exact dice_upd (dice_upd (dice_new x b c) hld) hqd
    · obtain ⟨t, ls, fs, rfl, el, eq, lf, hp, sx, hd'⟩ := hP
      have lz := hp.length_eq
      rw [List.length_append] at lz
      have e0 : ls = [] := List.eq_nil_of_length_eq_zero (by omega)
      rw [e0, List.append_nil] at hp
      exact ⟨_, rfl, q q' H' fs hp nq0 eq sx hd'⟩
end
end Kl

set_option maxRecDepth 100000
set_option maxHeartbeats 4000000
namespace Kl
open PySem PySem.Spec PyProof.Rows L2 Gx Mx
def EIGHT : List Str := ["a", "b", "ab", "aa", "leaf", "page", "to", "zzzzzzzz"]
theorem eight_nd : EIGHT.Nodup := by decide +kernel
theorem eight_ok : EIGHT.all nameB = true := by decide +kernel
section
variable {P : Program} {w : World} {K : PySem.W.Frag} {mg : Str → Option Value} {base : Heap}
/-! ### _law_pool_names, _law_drawn_digit -/
def spPN : Sp := fun vs H Q _ => ∃ (d : Addr) (n : Nat), vs = [.ref d, .int (n : Nat)] ∧ n ≤ 8 ∧ DiceAt H d ∧
  ∀ (p : Addr) (zs : List Str) H', SameX d H H' → DiceAt H' d → H p = none → H' p = some (.lst (zs.map V.str)) → zs.Nodup → (∀ z ∈ zs, z ∈ EIGHT) → zs.length = n → Q (.ref p) H'
theorem ok_pn {f : Addr} {fd : FuncData} (F : Fun K "_law_pool_names" "_law_pool_names" s_law_pool_names f fd) (T : Top K mg) : FnOk P w K mg base CX0 3 f fd ["_law_dice_here", "_law_many"] spPN := by
  have cm : Cal P w K mg base 2 "_law_mixed" ["_law_dice_here", "_law_items"] (spMixed K) := T.d_law_mixed.cal fun f fd F => ok_mixed F T
  refine F.ok sc_law_pool_names (fun vs H Q E h => ?_) (fun cdv A outer s H vs Q E hr h => ?_)
  · obtain ⟨d, n, rfl, _⟩ := h
    rfl
  · obtain ⟨d, n, rfl, hn, hd, q⟩ := h
    refine ⟨_, pss_one (ps_ret (pe_slice sl_list (pe_cal cm hr (by rfl) (pa_cons (pv 0) (pa_cons (pe_lst (pa_cons pe_str (pa_cons pe_str (pa_cons pe_str (pa_cons pe_str (pa_cons pe_str (pa_cons pe_str (pa_cons pe_str (pa_cons pe_str pa_nil))))))))) pa_nil))) po_none (po_some (pv 1)))), ?_⟩
    have big : 100000 ≤ sizeLine := by decide
    refine ⟨_, rfl, by show 8 ≤ sizeLine; omega, fun pool np => ?_⟩
    have hpd : pool ≠ d := dice_ne hd np
    have hd1 := dice_upd (o := .lst (EIGHT.map V.str)) hd hpd
    have sx1 : SameX d H (upd H pool (.lst (EIGHT.map V.str))) := (SameX.refl d H).at np
    refine ⟨d, pool, EIGHT, rfl, hd1, hpd, .inl (.inl upd_same), by decide, fun lm H2 ys hperm nlm elm sx2 hd2 => ?_⟩
    have sxa := sx1.trans sx2
    have hlmd : lm ≠ d := dice_ne hd1 nlm
    have l8 : ys.length = 8 := hperm.length_eq
    refine ⟨_, rfl, _, rfl, lm, _, rfl, .inl (.inl elm), fun l nl => ?_⟩
    have ec : cutV (ys.map V.str) none (some ((n : Nat) : Int)) = (ys.take n).map V.str := by
      rw [cut_to0, List.map_take]
    rw [ec]
    have hld : l ≠ d := dice_ne hd2 nl
    refine q l (ys.take n) _ (sxa.new nl) (dice_upd hd2 hld) (sxa.free hld nl) upd_same ((hperm.nodup_iff.mpr eight_nd).sublist (List.take_sublist _ _)) (fun z hz => hperm.mem_iff.mp (List.mem_of_mem_take hz)) ?_
    rw [List.length_take]
    omega
def spDD (K : PySem.W.Frag) : Sp := fun vs H Q _ => ∃ (d nl : Addr) (ns : List Str) (m : Nat), vs = [.ref d, .ref nl, .int (m : Nat)] ∧ m ≤ 20 ∧ DiceAt H d ∧ H nl = some (.lst (ns.map V.str)) ∧ ns ≠ [] ∧ ns.length ≤ 100 ∧
  ∀ (p : Addr) (zs : List Str) H', SameX d H H' → DiceAt H' d → H p = none → H' p = some (.tup (zs.map V.str)) → sortedS zs = true → zs.length ≤ m → (∀ z ∈ zs, z ∈ ns) → Q (.ref p) H'
abbrev NDD : List Str := ["_law_dice_here", "_law_names", "_law_most", "_law_turn"]
theorem ok_dd {f : Addr} {fd : FuncData} (F : Fun K "_law_drawn_digit" "_law_drawn_digit" s_law_drawn_digit f fd) (T : Top K mg) : FnOk P w K mg base CX0 3 f fd ["_law_dice_here", "_law_names", "_law_most"] (spDD K) := by
  have cr : Cal P w K mg base 2 "_law_roll" ["_law_dice_here", "_law_total"] spRoll := (T.d_law_roll.cal fun f fd F => ok_roll F T).mono (by decide)
  have cp : Cal P w K mg base 2 "_law_pick" ["_law_dice_here", "_law_items"] (spPick K) := T.d_law_pick.cal fun f fd F => ok_pick F T
  refine F.ok sc_law_drawn_digit (fun vs H Q E h => ?_) (fun cdv A outer s H vs Q E hr h => ?_)
  · obtain ⟨d, nl, ns, m, rfl, _⟩ := h
    rfl
  · obtain ⟨d, nl, ns, m, rfl, hm, hd, enl, hne, hns, q⟩ := h
    refine ⟨_, pss_one (ps_ret (pe_callTy call_tuple_of (by rfl) T.b_tuple (by decide +kernel) (pa_cons (pe_callB cr_sortedS (by rfl) T.b_sorted (by decide +kernel) (pa_cons
        (pe_lc (own := [("_law_turn", 3)]) (g := gName 3) (tt := tYes) rfl sc_law_drawn_digit.nd (pi_range1 (by rfl) T.b_range (pa_cons (pe_cal cr hr (by rfl) (pa_cons (pv 0) (pa_cons (pe_op op_add (pv 2) pe_int) pa_nil))) pa_nil))
          (blkOk_by (N := NDD) (sc := defScope s_law_drawn_digit) (by decide +kernel)) (fun _ _ _ _ _ => pg_name (i := 3) sc_law_drawn_digit.nd rfl (.inl rfl)) (fun _ _ _ _ _ => pts_nil)
          (fun _ _ _ _ _ => pe_cal cp hr (by rfl) (pa_cons (pv 0) (pa_cons (pv 1) pa_nil)))) pa_nil)) pa_nil))), ?_⟩
    have big : 100000 ≤ sizeLine := by decide
    have nld : nl ≠ d := fun z => by
      obtain ⟨a, b, c, e⟩ := hd
      rw [z, e] at enl
      have h2 := HO.lst.inj (Option.some.inj enl)
      cases ns with
      | nil => cases h2
      | cons y l => cases (List.cons.inj h2).1
    refine ⟨_, rfl, _, rfl, _, _, rfl, rfl, d, _, rfl, hd, by omega, ?_, fun r x b c h0 h1 => ⟨_, rfl, ?_, ?_, fun D nD => ?_⟩⟩
    · rw [show ((m : Nat) : Int) + 1 = ((m + 1 : Nat) : Int) by omega]
      exact log2_small (by omega)
    · omega
    · omega
    obtain ⟨k, rfl⟩ := Int.eq_ofNat_of_zero_le h0
    rw [Int.toNat_natCast]
    have hd1 : DiceAt (upd H d (.lst [.int x, .int b, .int c])) d := dice_new x b c
    have sx1 : SameX d H (upd H d (.lst [.int x, .int b, .int c])) := (SameX.refl d H).atd
    have enl1 := sx1 _ _ nld enl
    generalize upd H d (.lst [.int x, .int b, .int c]) = H1 at nD hd1 sx1 enl1
    have hDd : D ≠ d := dice_ne hd1 nD
    have nDl : nl ≠ D := fun z => by rw [← z, enl1] at nD; cases nD
    refine lc_range (lo := 0) (fun j G => ∃ fs : List Str, G D = some (.lst (fs.map V.str)) ∧ fs.length = j ∧ (∀ p ∈ fs, p ∈ ns) ∧ SameX d H1 G ∧ DiceAt G d)
      ⟨[], upd_same, rfl, nofun, (SameX.refl d _).new nD, dice_upd hd1 hDd⟩ (fun j G hj hP => ?_) (fun G hP => ?_)
    · obtain ⟨fs, eD, lf, hf, sx, hdG⟩ := hP
      refine ⟨rfl, _, rfl, _, rfl, d, .ref nl, _, rfl, hdG, .inl ⟨nl, rfl, nld, .inl (.inl (.inl (sx _ _ nld enl1)))⟩, (fun h => hne (List.map_eq_nil_iff.mp h)), by rw [List.length_map]; omega, fun v x b c hv => ?_⟩
      obtain ⟨pp, hpp, rfl⟩ := List.mem_map.mp hv
      refine ⟨fs.map V.str, by rw [upd_ne hDd]; exact eD, ?_, fs ++ [pp], ?_, by rw [List.length_append, lf]; rfl, fun y hy => ?_, ?_, dice_upd (dice_new _ _ _) hDd⟩
      · rw [List.length_map]
        omega
      · rw [upd_same, List.map_append]
        rfl
      · rw [List.mem_append, List.mem_singleton] at hy
        rcases hy with hy | rfl
        · exact hf y hy
        · exact hpp
      · exact sx.atd.at nD
    · obtain ⟨fs, eD, lf, hf, sx, hdG⟩ := hP
      refine ⟨D, fs, rfl, .inl (.inl eD), by omega, fun zs sp hperm hsrt nsp => ?_⟩
      have hspd : sp ≠ d := dice_ne hdG nsp
      refine ⟨sp, _, rfl, .inl ⟨.inl (.inl upd_same), fun tq ntq => ?_⟩⟩
      have sxs : SameX d H1 (upd G sp (.lst (zs.map V.str))) := sx.new nsp
      have hds := dice_upd (o := .lst (zs.map V.str)) hdG hspd
      have htd : tq ≠ d := dice_ne hds ntq
      refine q tq zs _ (sx1.trans (sxs.new ntq)) (dice_upd hds htd) ((sx1.trans sxs).free htd ntq) upd_same hsrt ?_ (fun z hz => hf z (hperm.mem_iff.mp hz))
      rw [hperm.length_eq, lf]
      omega
end
end Kl

set_option maxRecDepth 100000
set_option maxHeartbeats 4000000
namespace Kl
open PySem PySem.Spec PyProof.Rows L2 Gx Mx
section
variable {P : Program} {w : World} {K : PySem.W.Frag} {mg : Str → Option Value} {base : Heap}
/-! ### _law_count -/
end
end Kl

set_option maxRecDepth 100000
set_option maxHeartbeats 4000000
namespace Kl
open PySem PySem.Spec PyProof.Rows L2 Gx Mx
theorem sqT_sx {K : PySem.W.Frag} {G G' : Hp} {d a : Addr} {xs : List V} (hd : DiceAt G d) (s : SameX d G G') (h : SqT K G a xs) : SqT K G' a xs := by
  obtain ⟨p, q, r, e⟩ := hd
  rcases h with (h | ⟨o, h⟩) | h
  · exact .inl (.inl (s _ _ (fun z => by rw [z, e] at h; cases h) h))
  · exact .inl (.inr ⟨o, s _ _ (fun z => by rw [z, e] at h; cases h) h⟩)
  · exact .inr h
section
variable {P : Program} {w : World} {K : PySem.W.Frag} {mg : Str → Option Value} {base : Heap}
/-! ### _law_drawn_loose -/
end
end Kl

set_option maxRecDepth 100000
set_option maxHeartbeats 4000000
namespace Kl
open PySem PySem.Spec PyProof.Rows L2 Gx Mx
/-- a book of kinds as the law writes it -/
def bookK (leaf : Str) (mk : Addr) : List (Key × V) := [(Sum.inr "leaf", .str leaf), (Sum.inr "makings", .ref mk)]
theorem book_leaf (leaf : Str) (mk : Addr) : valV (bookK leaf mk) (Sum.inr "leaf") = some (.str leaf) := valV_pos rfl
theorem book_mak (leaf : Str) (mk : Addr) : valV (bookK leaf mk) (Sum.inr "makings") = some (.ref mk) := by
  unfold bookK
  rw [valV_neg (by show ¬ (Sum.inr ("leaf" : Str) : Key) = Sum.inr ("makings" : Str); decide +kernel), valV_pos rfl]
section
variable {P : Program} {w : World} {K : PySem.W.Frag} {mg : Str → Option Value} {base : Heap}
/-! ### _check_kinds, _law_made_kinds -/
def spChkK (C : Addr) : Sp := fun vs H Q _ => ∃ (x md : Addr) (leaf : Str) (M : Mak) (ns : List Str), vs = [V.ref x] ∧ KindsAt C H x md leaf M ns ∧ Q .non H
theorem ok_chkK {C f : Addr} {fd : FuncData} (F : Fun K "_check_kinds" "_check_kinds" s_check_kinds f fd) (T : Top K mg) (TC : Cl_Kinds K mg C) : FnOk P w K mg base CX0 1 f fd ["kinds"] (spChkK C) := by
  refine F.ok sc_check_kinds (fun vs H Q E h => ?_) (fun cdv A outer s H vs Q E hr h => ?_)
  · obtain ⟨x, md, leaf, M, ns, rfl, _⟩ := h
    rfl
  · obtain ⟨x, md, leaf, M, ns, rfl, hK, q⟩ := h
    refine ⟨_, pss_one (ps_if (pt_not (pt_val (pe_callB call_isi (by rfl) T.b_isinstance (by decide +kernel) (pa_cons (pv 0) (pa_cons (pe_glob (v := .ref C) (by rfl) TC.gC rfl) pa_nil))))) (pss_one ps_never) pss_nil), ?_⟩
    obtain ⟨dx, _, _, hx, _⟩ := id hK
    refine ⟨_, rfl, _, _, .ref C, .ref C, true, rfl, .own C, .base (.ins hx TC.cl TC.ca TC.cg TC.ct TC.ob), TC.kit, true, rfl, ?_⟩
    show (if (!true) = true then _ else _)
    rw [if_neg (by decide)]
    exact q
def spMade (C : Addr) : Sp := fun vs H Q _ => ∃ (pl mk : Addr) (leaf : Str) (kvs : List (Key × V)) (M : Mak), vs = [V.ref pl] ∧ H pl = some (.dK (bookK leaf mk)) ∧ H mk = some (.dK kvs) ∧ MakAt H kvs M ∧ Vld leaf M ∧
  ∀ (x md : Addr) (M' : Mak) (ns : List Str) H', KindsAt C H' x md leaf M' ns → OrdOf M M' → IsNames leaf (keysOf M) ns → Same H H' → Q (.ref x) H'
theorem ok_made {C f : Addr} {fd : FuncData} (F : Fun K "_law_made_kinds" "_law_made_kinds" s_law_made_kinds f fd) (T : Top K mg) (TC : Cl_Kinds K mg C) : FnOk P w K mg base CX0 8 f fd ["_law_plain"] (spMade C) := by
  have kI : CalI P w K mg base C 6 ["self", "leaf", "makings"] (spInit C) := by
    obtain ⟨f, fd, m, F, b⟩ := TC.made
    exact ⟨f, fd, m, ok_init F T TC, b⟩
  refine F.ok sc_law_made_kinds (fun vs H Q E h => ?_) (fun cdv A outer s H vs Q E hr h => ?_)
  · obtain ⟨pl, mk, leaf, kvs, M, rfl, _⟩ := h
    rfl
  · obtain ⟨pl, mk, leaf, kvs, M, rfl, epl, emk, hM, hV, q⟩ := h
    have hu := hu_of hr
    refine ⟨_, pss_one (ps_ret (pe_makeC kI hr (by rfl) TC.gC (pa_cons (pe_dget hu (pv 0) pe_str (fun _ _ => rfl)) (pa_cons (pe_dget hu (pv 0) pe_str (fun _ _ => rfl)) pa_nil)))), ?_⟩
    refine ⟨_, rfl, pl, .str leaf, rfl, .inl ⟨_, Sum.inr "leaf", .inl epl, rfl, (book_leaf leaf mk).symm⟩, _, rfl, pl, .ref mk, rfl, .inl ⟨_, Sum.inr "makings", .inl epl, rfl, (book_mak leaf mk).symm⟩, fun x dx nx ndx nxx => ⟨x, dx, leaf, mk, kvs, M, rfl, upd_same, ?_, ?_, hV, fun G2 md M' ns hK hOr hN nmd keep => ⟨rfl, ?_⟩⟩⟩
    · rw [upd_ne (ne_of_none emk nx), upd_ne (ne_of_none emk ndx)]
      exact emk
    · exact hM.same fun a xs h => h.at fun o e => by rw [upd_ne (ne_of_none e nx), upd_ne (ne_of_none e ndx)]; exact e
    · obtain ⟨s1, _⟩ := made nx ndx nmd keep
      exact q x md M' ns G2 hK hOr hN s1
end
end Kl

set_option maxRecDepth 100000
set_option maxHeartbeats 4000000
namespace Kl
open PySem PySem.Spec PyProof.Rows L2 Gx Mx
theorem cr_allK {X : Cx} {K : PySem.W.Frag} (hk : X.K = K) (hc : X.calm = true) : CallR X (.builtin "all") (rAll K) := by
  subst hk
  exact cr_all hc
theorem cr_sumK {X : Cx} {K : PySem.W.Frag} (hk : X.K = K) (hc : X.calm = true) : CallR X (.builtin "sum") (rSum K) := by
  subst hk
  exact cr_sum hc
end Kl

set_option maxRecDepth 100000
set_option maxHeartbeats 4000000
namespace Kl
open PySem PySem.Spec PyProof.Rows L2 Gx Mx
theorem TupZ.samex {d a : Addr} {H H' : Hp} {xs : List V} (h : TupZ H a xs) (hd : DiceAt H d) (s : SameX d H H') : TupZ H' a xs := by
  obtain ⟨_, _, _, e⟩ := hd
  exact h.at fun o q => s _ _ (h.ne e (fun _ => nofun)) q
theorem MakAt.samex {d : Addr} {H H' : Hp} {kvs : List (Key × V)} {M : Mak} (h : MakAt H kvs M) (hd : DiceAt H d) (s : SameX d H H') : MakAt H' kvs M := h.same fun _ _ q => q.samex hd s
theorem sub_len : ∀ {xs ys : List Str}, xs.Nodup → (∀ z ∈ xs, z ∈ ys) → xs.length ≤ ys.length
  | [], ys, _, _ => Nat.zero_le _
  | x :: xs, ys, nd, hs => by
    have nd' := List.nodup_cons.mp nd
    have hx : x ∈ ys := hs x List.mem_cons_self
    have ih := sub_len nd'.2 (ys := ys.erase x) fun y hy => (List.mem_erase_of_ne (fun q => nd'.1 (by rw [← q]; exact hy))).mpr (hs y (List.mem_cons_of_mem _ hy))
    have e := List.length_erase_of_mem hx
    have p : 0 < ys.length := List.length_pos_of_mem hx
    rw [List.length_cons]
    omega
/-- the makings so far, of the first i names -/
structure Sofar (ns : List Str) (leaf : Str) (i : Nat) (M : Mak) : Prop where
  nd : (keysOf M).Nodup
  sub : ∀ z ∈ keysOf M, z ∈ ns.take i
  all : ∀ z ∈ ns.take i, z ≠ leaf → z ∈ keysOf M
  parts : ∀ m ∈ M, sortedS m.2 = true ∧ 2 ≤ m.2.length ∧ m.2.length ≤ 3 ∧ ∀ p ∈ m.2, p ∈ ns
theorem Sofar.vld {ns : List Str} {leaf : Str} {M : Mak} (h : Sofar ns leaf ns.length M) (hl : leaf ∈ ns) (hp : ∀ z ∈ ns, z ∈ POOL) (h6 : ns.length ≤ 6) : Vld leaf M := by
  have e : ns.take ns.length = ns := List.take_length
  refine ⟨hp _ hl, fun z hz => hp z (by have := h.sub z hz; rwa [e] at this), h.nd, fun m hm => ?_, fun ms nd hs => ?_⟩
  · obtain ⟨p1, p2, p3, p4⟩ := h.parts m hm
    refine ⟨p1, p2, p3, fun p hpm => ?_⟩
    by_cases c : p = leaf
    · exact .inl c
    · exact .inr (h.all p (by rw [e]; exact p4 p hpm) c)
  · refine Nat.le_trans (sub_len nd (ys := ns) fun z hz => ?_) h6
    rcases hs z hz with rfl | q
    · exact hl
    · have := h.sub z q
      rwa [e] at this
theorem Sofar.skip {ns : List Str} {leaf : Str} {i : Nat} {M : Mak} {z : Str} (h : Sofar ns leaf i M) (hz : ns[i]? = some z) (e : z = leaf) : Sofar ns leaf (i + 1) M := by
  have et : ns.take (i + 1) = ns.take i ++ [z] := by rw [List.take_add_one, hz]; rfl
  refine ⟨h.nd, fun y hy => by rw [et]; exact List.mem_append_left _ (h.sub y hy), fun y hy ne => ?_, h.parts⟩
  rw [et, List.mem_append, List.mem_singleton] at hy
  rcases hy with hy | rfl
  · exact h.all y hy ne
  · exact absurd e ne
theorem take_not {ns : List Str} (nd : ns.Nodup) {i : Nat} {z : Str} (hz : ns[i]? = some z) : z ∉ ns.take i := by
  intro hin
  obtain ⟨j, hj⟩ := List.mem_iff_getElem?.mp hin
  rw [List.getElem?_take] at hj
  by_cases c : j < i
  · rw [if_pos c] at hj
    obtain ⟨h1, e1⟩ := List.getElem?_eq_some_iff.mp hj
    obtain ⟨h2, e2⟩ := List.getElem?_eq_some_iff.mp hz
    have := (List.nodup_iff_pairwise_ne.mp nd)
    exact absurd (e1.trans e2.symm) (List.pairwise_iff_getElem.mp this j i h1 h2 c)
  · rw [if_neg c] at hj
    cases hj
theorem Sofar.put {ns : List Str} {leaf : Str} {i : Nat} {M : Mak} {z : Str} {ps : List Str} (h : Sofar ns leaf i M) (nd : ns.Nodup) (hz : ns[i]? = some z) (hs : sortedS ps = true) (h2 : 2 ≤ ps.length) (h3 : ps.length ≤ 3) (hp : ∀ p ∈ ps, p ∈ ns) :
    Sofar ns leaf (i + 1) (M ++ [(z, ps)]) := by
  have et : ns.take (i + 1) = ns.take i ++ [z] := by rw [List.take_add_one, hz]; rfl
  have ek : keysOf (M ++ [(z, ps)]) = keysOf M ++ [z] := by unfold keysOf; rw [List.map_append]; rfl
  have nz : z ∉ keysOf M := fun q => take_not nd hz (h.sub z q)
  refine ⟨?_, fun y hy => ?_, fun y hy ne => ?_, fun m hm => ?_⟩
  · rw [ek, List.nodup_append]
    refine ⟨h.nd, List.nodup_cons.mpr ⟨List.not_mem_nil, List.nodup_nil⟩, fun a ha b hb => ?_⟩
    rw [List.mem_singleton] at hb
    subst hb
    exact fun q => nz (by rw [← q]; exact ha)
  · rw [ek, List.mem_append, List.mem_singleton] at hy
    rw [et, List.mem_append, List.mem_singleton]
    exact hy.imp (h.sub y) id
  · rw [et, List.mem_append, List.mem_singleton] at hy
    rw [ek, List.mem_append, List.mem_singleton]
    exact hy.imp (fun q => h.all y q ne) id
  · rw [List.mem_append, List.mem_singleton] at hm
    rcases hm with hm | rfl
    · exact h.parts m hm
    · exact ⟨hs, h2, h3, hp⟩
theorem MakAt.put {H : Hp} {kvs : List (Key × V)} {M : Mak} {z : Str} {ps : List Str} {t : Addr} (h : MakAt H kvs M) (nz : z ∉ keysOf M) (ht : TupZ H t (ps.map V.str)) : MakAt H (putK kvs (Sum.inr z) (.ref t)) (M ++ [(z, ps)]) := by
  have e : valV kvs (Sum.inr z) = none := by
    rcases h.get z with ⟨_, e⟩ | ⟨ps', a, e1, _⟩
    · exact e
    · rw [lookM_none.mpr nz] at e1
      cases e1
  rw [putK_new _ e]
  unfold MakAt at h ⊢
  clear e nz
  induction h with
  | nil => exact .cons ⟨rfl, t, rfl, ht⟩ .nil
  | cons h _ ih => exact .cons h ih
structure LKs (H : Hp) (d l mk : Addr) (ns : List Str) (leaf : Str) (i : Nat) (H' : Hp) : Prop where
  el : H' l = some (.lst (ns.map V.str))
  mks : ∃ kvs M, H' mk = some (.dK kvs) ∧ MakAt H' kvs M ∧ Sofar ns leaf i M
  sx : SameX d H H'
  hd : DiceAt H' d
theorem LKs.step {H H' H'' : Hp} {d l mk : Addr} {ns : List Str} {leaf : Str} {i : Nat} (h : LKs H d l mk ns leaf i H') (nl : l ≠ d) (nm : mk ≠ d) (s : SameX d H' H'') (hd : DiceAt H'' d) : LKs H d l mk ns leaf i H'' := by
  obtain ⟨el, ⟨kvs, M, e1, e2, e3⟩, sx, hd'⟩ := h
  exact ⟨s _ _ nl el, ⟨kvs, M, s _ _ nm e1, e2.samex hd' s, e3⟩, sx.trans s, hd⟩
end Kl

set_option maxRecDepth 100000
set_option maxHeartbeats 4000000
namespace Kl
open PySem PySem.Spec PyProof.Rows L2 Gx Mx
section
variable {P : Program} {w : World} {K : PySem.W.Frag} {mg : Str → Option Value} {base : Heap}
theorem pi_or {X : Cx} {tg e : Expr} {t1 t2 : TI} (h1 : PI X tg e t1) (h2 : PI X tg e t2) : PI X tg e (fun σ H R => t1 σ H R ∨ t2 σ H R) :=
  ⟨fun pins s σ H R I h => h.elim (h1.run pins s σ H R I) (h2.run pins s σ H R I)⟩
/-- a sequence of these, a tuple or a list -/
def SqB (K : PySem.W.Frag) (H : Hp) (a : Addr) (xs : List V) : Prop := SqT K H a xs ∨ SqL K H a xs
theorem SqB.at {H H' : Hp} {a : Addr} {xs : List V} (h : SqB K H a xs) (s : ∀ o, H a = some o → H' a = some o) : SqB K H' a xs := by
  rcases h with ((h | ⟨o, h⟩) | h) | ((h | ⟨o, h⟩) | h)
  · exact .inl (.inl (.inl (s _ h)))
  · exact .inl (.inl (.inr ⟨o, s _ h⟩))
  · exact .inl (.inr h)
  · exact .inr (.inl (.inl (s _ h)))
  · exact .inr (.inl (.inr ⟨o, s _ h⟩))
  · exact .inr (.inr h)
theorem SqB.keep {H H' : Hp} {a : Addr} {xs : List V} (h : SqB K H a xs) (s : ∀ o, H a = some o → (∀ kv, o ≠ .dK kv) → H' a = some o) : SqB K H' a xs := by
  rcases h with ((h | ⟨o, h⟩) | h) | ((h | ⟨o, h⟩) | h)
  · exact .inl (.inl (.inl (s _ h (fun _ => nofun))))
  · exact .inl (.inl (.inr ⟨o, s _ h (fun _ => nofun)⟩))
  · exact .inl (.inr h)
  · exact .inr (.inl (.inl (s _ h (fun _ => nofun))))
  · exact .inr (.inl (.inr ⟨o, s _ h (fun _ => nofun)⟩))
  · exact .inr (.inr h)
theorem cast_sum (f : Str → Nat) : ∀ l : List Str, (l.map fun p => ((f p : Nat) : Int)).sum = (((l.map f).sum : Nat) : Int)
  | [] => rfl
  | p :: l => by
    rw [List.map_cons, List.sum_cons, cast_sum f l, List.map_cons, List.sum_cons, Int.natCast_add]
theorem sqT_mono {H H' : Hp} {a : Addr} {xs : List V} (h : SqT K H a xs) (s : Same H H') : SqT K H' a xs := by
  rcases h with (h | ⟨o, h⟩) | h
  · exact .inl (.inl (s _ _ h))
  · exact .inl (.inr ⟨o, s _ _ h⟩)
  · exact .inr h
theorem sqL_mono {H H' : Hp} {a : Addr} {xs : List V} (h : SqL K H a xs) (s : Same H H') : SqL K H' a xs := by
  rcases h with (h | ⟨o, h⟩) | h
  · exact .inl (.inl (s _ _ h))
  · exact .inl (.inr ⟨o, s _ _ h⟩)
  · exact .inr h
theorem rowK_some (R : Row) (z : Str) : (valV (rowK R) (Sum.inr z)).isSome = decide (z ∈ keysR R) := by
  by_cases h : z ∈ keysR R
  · rw [rowK_get h, decide_eq_true h]
    rfl
  · rw [rowK_look, lookR_no h, decide_eq_false h]
    rfl
theorem SqB.mono {H H' : Hp} {a : Addr} {xs : List V} (h : SqB K H a xs) (s : Same H H') : SqB K H' a xs := h.at fun o e => s _ _ e
/-- the parts of each kind, told by tuples or lists -/
def PartsAt (K : PySem.W.Frag) (H : Hp) (kvs : List (Key × V)) (M : Mak) : Prop := Paired (fun (kv : Key × V) (m : Str × List Str) => kv.1 = Sum.inr m.1 ∧ ∃ a, kv.2 = .ref a ∧ SqB K H a (m.2.map V.str)) kvs M
theorem PartsAt.len {H : Hp} {kvs : List (Key × V)} {M : Mak} (h : PartsAt K H kvs M) : kvs.length = M.length := Paired.length h
theorem PartsAt.same {H H' : Hp} {kvs : List (Key × V)} {M : Mak} (h : PartsAt K H kvs M) (s : ∀ a xs, SqB K H a xs → SqB K H' a xs) : PartsAt K H' kvs M := by
  unfold PartsAt at h ⊢
  induction h with
  | nil => exact .nil
  | cons h _ ih =>
    obtain ⟨h1, a, h2, h3⟩ := h
    exact .cons ⟨h1, a, h2, s a _ h3⟩ ih
theorem PartsAt.at {H : Hp} {kvs : List (Key × V)} {M : Mak} (h : PartsAt K H kvs M) {i : Nat} {k : Key} {v : V} (e : kvs[i]? = some (k, v)) : ∃ m a, M[i]? = some m ∧ k = Sum.inr m.1 ∧ v = .ref a ∧ SqB K H a (m.2.map V.str) := by
  unfold PartsAt at h
  induction h generalizing i with
  | nil => cases e
  | @cons kv m kvs M h _ ih =>
    cases i with
    | zero =>
      cases e
      obtain ⟨h1, a, h2, h3⟩ := h
      exact ⟨m, a, rfl, h1, h2, h3⟩
    | succ i => exact ih e
theorem MakAt.parts {H : Hp} {kvs : List (Key × V)} {M : Mak} (h : MakAt H kvs M) : PartsAt K H kvs M := by
  unfold MakAt at h
  unfold PartsAt
  induction h with
  | nil => exact .nil
  | cons h _ ih =>
    obtain ⟨h1, a, h2, h3⟩ := h
    exact .cons ⟨h1, a, h2, .inl h3.sq⟩ ih
/-! ### the sizes a rank above -/
def spSums (K : PySem.W.Frag) : Sp := fun vs H Q _ => ∃ (po pb : Addr) (kvs : List (Key × V)) (M : Mak) (R : Row), vs = [V.ref po, V.ref pb] ∧ H po = some (.dK kvs) ∧ PartsAt K H kvs M ∧ M.length ≤ 6 ∧ (keysOf M).Nodup ∧ (∀ m ∈ M, m.2.length ≤ 3) ∧ H pb = some (.dK (rowK R)) ∧ po ≠ pb ∧
  ∀ p H', Same H H' → H p = none → H' p = some (.dK (rowK (aboveR M R))) → Q (.ref p) H'
abbrev NSA : List Str := ["parts_of", "below", "name", "parts", "part"]
theorem ok_sums {f : Addr} {fd : FuncData} (F : Fun K "sums_above" "sums_above" s_sums_above f fd) (T : Top K mg) : FnOk P w K mg base CX0 1 f fd ["parts_of", "below"] (spSums K) := by
  refine F.ok sc_sums_above (fun vs H Q E h => ?_) (fun cdv A outer s H vs Q E hr h => ?_)
  · obtain ⟨po, pb, kvs, M, R, rfl, _⟩ := h
    rfl
  · obtain ⟨po, pb, kvs, M, R, rfl, hm, hM, lM, nd, l3, he, npb, q⟩ := h
    have hu := hu_of hr
    refine ⟨_, pss_one (ps_ret (pe_lock (pe_dc (own := [("name", 2), ("parts", 3)]) (g := gTup K 2 (gCons (gName 2) (gCons (gName 3) gNil))) rfl sc_sums_above.nd (pi_items (pv 0))
          (blkOk_by (N := NSA) (sc := defScope s_sums_above) (by decide +kernel)) (fun _ _ _ _ _ => pg_tup rfl (pgs_cons (pg_name (i := 2) sc_sums_above.nd rfl (.inl rfl)) (pgs_cons (pg_name (i := 3) sc_sums_above.nd rfl (.inl rfl)) pgs_nil)))
          (fun _ _ _ _ _ => pts_one (pt_val (pe_callB (cr_allK (K := K) (by exact rfl) (by exact rfl)) (by rfl) T.b_all (by decide +kernel) (pa_cons (pe_lc (own := [("part", 4)]) (g := gName 4) (tt := tYes) (by exact rfl) (by exact sc_sums_above.nd) (pi_or (pi_tupK (K := K) (by exact rfl) (pv 3)) (pi_listK (K := K) (by exact rfl) (pv 3)))
              (by exact blkOk_by (by kernel_rfl)) (fun _ _ _ _ _ => pg_name (i := 4) sc_sums_above.nd rfl (.inl rfl)) (fun _ _ _ _ _ => pts_nil)
              (fun _ _ _ _ _ => pe_cmp (pc_din hu (pv 4) (pv 1)))) pa_nil))))
          (fun _ _ _ _ _ => pv 2)
          (fun _ _ _ _ _ => pe_callB (cr_sumK (K := K) (by exact rfl) (by exact rfl)) (by rfl) T.b_sum (by decide +kernel) (pa_cons (pe_lc (own := [("part", 4)]) (g := gName 4) (tt := tYes) (by exact rfl) (by exact sc_sums_above.nd) (pi_or (pi_tupK (K := K) (by exact rfl) (pv 3)) (pi_listK (K := K) (by exact rfl) (pv 3)))
              (by exact blkOk_by (by kernel_rfl)) (fun _ _ _ _ _ => pg_name (i := 4) sc_sums_above.nd rfl (.inl rfl)) (fun _ _ _ _ _ => pts_nil)
              (fun _ _ _ _ _ => pe_dget hu (pv 1) (pv 4) (fun _ _ => rfl))) pa_nil))))), ?_⟩
    have lk := hM.len
    refine ⟨po, _, hm, trivial, fun od => ?_⟩
    have heF : (upd H po (.frz od (.dK kvs))) pb = some (.dK (rowK R)) := by
      rw [upd_ne npb.symm]
      exact he
    have hMF : PartsAt K (upd H po (.frz od (.dK kvs))) kvs M := hM.same fun a xs h => h.keep fun o e n => by
      rw [upd_ne (fun c => by rw [c, hm] at e; exact n _ (Option.some.inj e).symm)]
      exact e
    refine ⟨_, rfl, po, od, kvs, rfl, upd_same, fun D hD => ?_⟩
    refine walk_in (walk_items (d := po) (o := od) (kvs := kvs)) (fun j G => G D = some (.dK (rowK (aboveR (M.take j) R))) ∧ Same (upd H po (.frz od (.dK kvs))) G) ⟨upd_same, same_new (Same.refl _) hD⟩ (fun j G _ hP => hP.2 _ _ upd_same) (fun j v Gx G hj hP hy => ?_) (fun G hP => ?_)
    · obtain ⟨eD0, sm0⟩ := hP
      obtain ⟨t, x, y, rfl, nt, rfl, hx, hy2⟩ := hy
      obtain ⟨⟨k, v⟩, hkv, rfl⟩ := Option.map_eq_some_iff.mp hx
      have hy3 : kvs[j]?.map Prod.snd = some y := hy2
      rw [hkv] at hy3
      cases hy3
      obtain ⟨m, a, hmj, rfl, rfl, ha⟩ := hMF.at hkv
      have hmM := List.mem_of_getElem? hmj
      have lm := l3 m hmM
      have sm : Same (upd H po (.frz od (.dK kvs))) (upd Gx t (.tup [kV (Sum.inr m.1), .ref a])) := same_new sm0 nt
      have eD : (upd Gx t (.tup [kV (Sum.inr m.1), .ref a])) D = some (.dK (rowK (aboveR (M.take j) R))) := by
        rw [upd_ne (ne_of_none eD0 nt)]
        exact eD0
      refine ⟨t, _, rfl, .inl (.inl upd_same), rfl, _, _, rfl, _, _, rfl, rfl, rfl, ?_⟩
      generalize upd Gx t (.tup [kV (Sum.inr m.1), .ref a]) = G at sm eD
      have haG := ha.mono sm
      have hfit : ((m.2.map fun p => decide (p ∈ keysR R)).all id) = fitsR (keysR R) m.2 := by
        unfold fitsR
        rw [List.all_map]
        rfl
      have et : aboveR (M.take (j + 1)) R = aboveR (M.take j) R ++ (if fitsR (keysR R) m.2 = true then [(m.1, (m.2.map (getR R)).sum)] else []) := by
        unfold aboveR
        rw [take_snoc hmj, List.filter_append, List.map_append]
        by_cases c : fitsR (keysR R) m.2 = true
        · simp [c]
        · simp [c]
      have hnew : m.1 ∉ keysR (aboveR (M.take j) R) := by
        rw [keys_above]
        intro hin
        have h1 := (above_sub (M.take j) (keysR R)).subset hin
        unfold keysOf at h1
        rw [List.map_take] at h1
        have hkey : (M.map (·.1))[j]? = some m.1 := by
          rw [List.getElem?_map, hmj]
          rfl
        exact take_not nd hkey h1
      have hlen : (aboveR (M.take j) R).length ≤ 6 := by
        unfold aboveR
        rw [List.length_map]
        have := List.length_filter_le (fun m => fitsR (keysR R) m.2) (M.take j)
        rw [List.length_take] at this
        omega
      rcases haG with haG | haG
      · refine .inl ⟨_, rfl, a, rfl, ⟨_, haG⟩, fun D2 hD2 => ?_⟩
        refine lc_it (g := gName 4) (tt := tYes) (vs := [4]) (walk_tup (K := K) (a := a) (xs := m.2.map V.str)) (fun i G2 => G2 D2 = some (.lst (((m.2.take i).map fun p => decide (p ∈ keysR R)).map V.bl)) ∧ Same G G2) ⟨upd_same, same_new (Same.refl G) hD2⟩ (fun i G2 _ h => sqT_mono haG h.2) (fun i v Gx G2 hi h hy => ?_) (fun G2 h => ?_)
        · obtain ⟨eD2, sm2⟩ := h
          obtain ⟨rfl, hv2⟩ := hy
          obtain ⟨z, hz, rfl⟩ := at_texts hv2
          refine ⟨rfl, _, rfl, _, rfl, pb, _, rfl, .inl ⟨_, Sum.inr z, .inl (sm2 _ _ (sm _ _ heF)), rfl, rfl⟩, ?_⟩
          show ∃ acc, _
          refine ⟨_, eD2, ?_, ?_, fun b u e => by rw [upd_ne (ne_of_none e hD2)]; exact sm2 b u e⟩
          · rw [List.length_map, List.length_map, List.length_take]
            exact Nat.lt_of_le_of_lt (show _ ≤ 3 by omega) (by decide)
          · rw [upd_same, take_snoc hz, List.map_append, List.map_append, rowK_some]
            rfl
        · obtain ⟨eD2, sm2⟩ := h
          rw [List.length_map, List.take_length] at eD2
          refine ⟨D2, _, rfl, .inl (.inl eD2), ?_⟩
          rw [hfit]
          have sm3 : ∀ b o, (upd H po (.frz od (.dK kvs))) b = some o → G2 b = some o := fun b o e => sm2 _ _ (sm b o e)
          have eD3 := sm2 _ _ eD
          have haG2 := sqT_mono haG sm2
          refine ⟨_, rfl, ?_⟩
          by_cases c : fitsR (keysR R) m.2 = true
          · rw [if_pos c] at et
            rw [if_pos c]
            refine ⟨_, rfl, .inl ⟨_, rfl, a, rfl, ⟨_, haG2⟩, fun D4 hD4 => ?_⟩⟩
            refine lc_it (g := gName 4) (tt := tYes) (vs := [4]) (walk_tup (K := K) (a := a) (xs := m.2.map V.str)) (fun i G3 => G3 D4 = some (.lst (((m.2.take i).map fun p => ((getR R p : Nat) : Int)).map V.int)) ∧ Same G2 G3) ⟨upd_same, same_new (Same.refl G2) hD4⟩ (fun i G3 _ h => sqT_mono haG2 h.2) (fun i v Gx G3 hi h hy => ?_) (fun G3 h => ?_)
            · obtain ⟨eD4, sm4⟩ := h
              obtain ⟨rfl, hv2⟩ := hy
              obtain ⟨z, hz, rfl⟩ := at_texts hv2
              have hzR : z ∈ keysR R := of_decide_eq_true (List.all_eq_true.mp c z (List.mem_of_getElem? hz))
              refine ⟨rfl, _, rfl, _, rfl, pb, _, rfl, .inl ⟨_, Sum.inr z, .inl (sm4 _ _ (sm3 _ _ heF)), rfl, (rowK_get hzR).symm⟩, _, eD4, ?_, ?_, fun b u e => by rw [upd_ne (ne_of_none e hD4)]; exact sm4 b u e⟩
              · rw [List.length_map, List.length_map, List.length_take]
                exact Nat.lt_of_le_of_lt (show _ ≤ 3 by omega) (by decide)
              · rw [upd_same, take_snoc hz, List.map_append, List.map_append]
                rfl
            · obtain ⟨eD4, sm4⟩ := h
              rw [List.length_map, List.take_length] at eD4
              refine ⟨D4, _, rfl, .inl (.inl eD4), ?_⟩
              rw [cast_sum]
              refine ⟨_, Sum.inr m.1, rfl, sm4 _ _ eD3, by rw [rowK_len]; exact Nat.lt_of_le_of_lt hlen (by decide), ?_, fun b u e => by rw [upd_ne (ne_of_none e hD)]; exact sm4 _ _ (sm3 b u e)⟩
              rw [upd_same, putK_new _ (by rw [rowK_look, lookR_no hnew]; rfl), et]
              unfold rowK
              rw [List.map_append]
              rfl
          · rw [if_neg c, List.append_nil] at et
            rw [if_neg c]
            rw [et]
            exact ⟨eD3, sm3⟩
      · refine .inr ⟨_, rfl, a, rfl, ⟨_, haG⟩, fun D2 hD2 => ?_⟩
        refine lc_it (g := gName 4) (tt := tYes) (vs := [4]) (walk_list (K := K) (a := a) (xs := m.2.map V.str)) (fun i G2 => G2 D2 = some (.lst (((m.2.take i).map fun p => decide (p ∈ keysR R)).map V.bl)) ∧ Same G G2) ⟨upd_same, same_new (Same.refl G) hD2⟩ (fun i G2 _ h => sqL_mono haG h.2) (fun i v Gx G2 hi h hy => ?_) (fun G2 h => ?_)
        · obtain ⟨eD2, sm2⟩ := h
          obtain ⟨rfl, hv2⟩ := hy
          obtain ⟨z, hz, rfl⟩ := at_texts hv2
          refine ⟨rfl, _, rfl, _, rfl, pb, _, rfl, .inl ⟨_, Sum.inr z, .inl (sm2 _ _ (sm _ _ heF)), rfl, rfl⟩, ?_⟩
          show ∃ acc, _
          refine ⟨_, eD2, ?_, ?_, fun b u e => by rw [upd_ne (ne_of_none e hD2)]; exact sm2 b u e⟩
          · rw [List.length_map, List.length_map, List.length_take]
            exact Nat.lt_of_le_of_lt (show _ ≤ 3 by omega) (by decide)
          · rw [upd_same, take_snoc hz, List.map_append, List.map_append, rowK_some]
            rfl
        · obtain ⟨eD2, sm2⟩ := h
          rw [List.length_map, List.take_length] at eD2
          refine ⟨D2, _, rfl, .inl (.inl eD2), ?_⟩
          rw [hfit]
          have sm3 : ∀ b o, (upd H po (.frz od (.dK kvs))) b = some o → G2 b = some o := fun b o e => sm2 _ _ (sm b o e)
          have eD3 := sm2 _ _ eD
          have haG2 := sqL_mono haG sm2
          refine ⟨_, rfl, ?_⟩
          by_cases c : fitsR (keysR R) m.2 = true
          · rw [if_pos c] at et
            rw [if_pos c]
            refine ⟨_, rfl, .inr ⟨_, rfl, a, rfl, ⟨_, haG2⟩, fun D4 hD4 => ?_⟩⟩
            refine lc_it (g := gName 4) (tt := tYes) (vs := [4]) (walk_list (K := K) (a := a) (xs := m.2.map V.str)) (fun i G3 => G3 D4 = some (.lst (((m.2.take i).map fun p => ((getR R p : Nat) : Int)).map V.int)) ∧ Same G2 G3) ⟨upd_same, same_new (Same.refl G2) hD4⟩ (fun i G3 _ h => sqL_mono haG2 h.2) (fun i v Gx G3 hi h hy => ?_) (fun G3 h => ?_)
            · obtain ⟨eD4, sm4⟩ := h
              obtain ⟨rfl, hv2⟩ := hy
              obtain ⟨z, hz, rfl⟩ := at_texts hv2
              have hzR : z ∈ keysR R := of_decide_eq_true (List.all_eq_true.mp c z (List.mem_of_getElem? hz))
              refine ⟨rfl, _, rfl, _, rfl, pb, _, rfl, .inl ⟨_, Sum.inr z, .inl (sm4 _ _ (sm3 _ _ heF)), rfl, (rowK_get hzR).symm⟩, _, eD4, ?_, ?_, fun b u e => by rw [upd_ne (ne_of_none e hD4)]; exact sm4 b u e⟩
              · rw [List.length_map, List.length_map, List.length_take]
                exact Nat.lt_of_le_of_lt (show _ ≤ 3 by omega) (by decide)
              · rw [upd_same, take_snoc hz, List.map_append, List.map_append]
                rfl
            · obtain ⟨eD4, sm4⟩ := h
              rw [List.length_map, List.take_length] at eD4
              refine ⟨D4, _, rfl, .inl (.inl eD4), ?_⟩
              rw [cast_sum]
              refine ⟨_, Sum.inr m.1, rfl, sm4 _ _ eD3, by rw [rowK_len]; exact Nat.lt_of_le_of_lt hlen (by decide), ?_, fun b u e => by rw [upd_ne (ne_of_none e hD)]; exact sm4 _ _ (sm3 b u e)⟩
              rw [upd_same, putK_new _ (by rw [rowK_look, lookR_no hnew]; rfl), et]
              unfold rowK
              rw [List.map_append]
              rfl
          · rw [if_neg c, List.append_nil] at et
            rw [if_neg c]
            rw [et]
            exact ⟨eD3, sm3⟩
    · obtain ⟨eD, sm⟩ := hP
      rw [lk, List.take_length] at eD
      have s1 := same_unlock hm sm
      have nD : D ≠ po := fun z => by
        rw [z, upd_same] at hD
        cases hD
      refine ⟨sm _ _ upd_same, q D _ s1 ?_ (by rw [upd_ne nD]; exact eD)⟩
      rw [upd_ne nD] at hD
      exact hD
end
end Kl

set_option maxRecDepth 100000
set_option maxHeartbeats 4000000
namespace Kl
open PySem PySem.Spec PyProof.Rows L2 Gx Mx
section
variable {P : Program} {w : World} {K : PySem.W.Frag} {mg : Str → Option Value} {base : Heap}
/-! ### the sizes of many ranks -/
def RowsAt (H : Hp) (leaf : Str) (M : Mak) (ds : List Addr) : Prop := ∀ (i : Nat) (a : Addr), ds[i]? = some a → H a = some (.dK (rowK (rowsR leaf M i)))
theorem RowsAt.same {H H' : Hp} {leaf : Str} {M : Mak} {ds : List Addr} (h : RowsAt H leaf M ds) (s : Same H H') : RowsAt H' leaf M ds := fun i a e => s _ _ (h i a e)
theorem RowsAt.snoc {H H' : Hp} {leaf : Str} {M : Mak} {ds : List Addr} {p : Addr} (h : RowsAt H leaf M ds) (k : ∀ a kv, H a = some (.dK kv) → H' a = some (.dK kv)) (e : H' p = some (.dK (rowK (rowsR leaf M ds.length)))) : RowsAt H' leaf M (ds ++ [p]) := by
  intro i a ha
  rw [List.getElem?_append] at ha
  by_cases c : i < ds.length
  · rw [if_pos c] at ha
    exact k _ _ (h i a ha)
  · rw [if_neg c] at ha
    obtain ⟨h1, h2⟩ := List.getElem?_eq_some_iff.mp ha
    have e0 : i - ds.length = 0 := by
      rw [List.length_singleton] at h1
      omega
    have e1 : i = ds.length := by omega
    rw [e1]
    have : a = p := by
      rw [e0] at ha
      exact (Option.some.inj ha).symm
    rw [this]
    exact e
def spSumsBy (K : PySem.W.Frag) : Sp := fun vs H Q _ => ∃ (leaf : Str) (po : Addr) (n : Nat) (kvs : List (Key × V)) (M : Mak), vs = [V.str leaf, V.ref po, V.int (n : Nat)] ∧ n ≤ 1000 ∧ H po = some (.dK kvs) ∧ PartsAt K H kvs M ∧ M.length ≤ 6 ∧ (keysOf M).Nodup ∧ (∀ m ∈ M, m.2.length ≤ 3) ∧
  ∀ (p : Addr) (ds : List Addr) (H' : Hp), Same H H' → H p = none → H' p = some (.lst (ds.map V.ref)) → ds.length = max 1 n → RowsAt H' leaf M ds → Q (.ref p) H'
abbrev NSB : List Str := ["leaf", "parts_of", "ranks", "by_rank"]
theorem ok_sumsBy {f : Addr} {fd : FuncData} (F : Fun K "sums_by_rank" "sums_by_rank" s_sums_by_rank f fd) (T : Top K mg) : FnOk P w K mg base CX0 2 f fd ["leaf", "parts_of", "ranks"] (spSumsBy K) := by
  have cs : Cal P w K mg base 1 "sums_above" ["parts_of", "below"] (spSums K) := T.d_sums_above.cal fun f fd F => ok_sums F T
  refine F.ok sc_sums_by_rank (fun vs H Q E h => ?_) (fun cdv A outer s H vs Q E hr h => ?_)
  · obtain ⟨leaf, po, n, kvs, M, rfl, _⟩ := h
    rfl
  · obtain ⟨leaf, po, n, kvs, M, rfl, n2, hm, hM, lM, nd, l3, q⟩ := h
    have hu := hu_of hr
    refine ⟨_, pss_cut (ps_set (i := 3) sc_sums_by_rank.nd rfl (.inl rfl) (pe_lst (pa_cons (pe_disp (pps_cons (pv 0) pe_int pps_nil) rfl rfl (by decide) (by decide)) pa_nil)))
      (pss_cut (ps_while PassesOwn.never (pt_cmpR op_lt (pe_callB call_len_seq (by rfl) T.b_len PySem.boot_len (pa_cons (pv 3) pa_nil)) (pv 2) (nomark _))
        (pss_one (ps_expr (pe_bm PySem.F.plainAttrs_list PySem.F.slot_list_append PySem.F.type_list_append mt_append (pv 3) (pa_cons (pe_cal cs hr (by rfl) (pa_cons (pv 1) (pa_cons (pe_ix ix_list (pv 3) (pe_un un_neg pe_int) (fun _ _ => rfl)) pa_nil))) pa_nil)))))
      (pss_one (ps_ret (pv 3)))), ?_⟩
    have big : 100000 ≤ sizeLine := by decide
    refine ⟨fun σ' G => ∃ (bl b0 : Addr), σ' = [some (.str leaf), some (.ref po), some (.int (n : Nat)), some (.ref bl)] ∧ G bl = some (.lst [.ref b0]) ∧ G b0 = some (.dK (rowK (rowsR leaf M 0))) ∧ Same H G ∧ H bl = none ∧ H b0 = none, ?_, ?_⟩
    · refine fun b0 nb0 => ⟨_, rfl, upd_same, [(Sum.inr leaf, V.int 1)], rfl, by show 1 ≤ 15; omega, by show 1 ≤ sizeLine; omega, fun bl nbl => ?_⟩
      have e1 : mergeK [] [((Sum.inr leaf : Key), V.int 1)] = rowK (rowsR leaf M 0) := rfl
      rw [e1] at nbl ⊢
      have s1 : Same H (upd (upd H b0 (.dK [])) b0 (.dK (rowK (rowsR leaf M 0)))) := fun b o e => by
        rw [upd_ne (ne_of_none e nb0), upd_ne (ne_of_none e nb0)]
        exact e
      have s2 := same_new (o := .lst [V.ref b0]) s1 nbl
      refine ⟨bl, b0, rfl, upd_same, ?_, s2, s1.free nbl, nb0⟩
      rw [upd_ne (ne_of_none upd_same nbl)]
      exact upd_same
    rintro σ' G ⟨bl, b0, rfl, ebl, eb0, s0, nbl, nb0⟩
    refine ⟨fun σ' G' => ∃ ds : List Addr, σ' = [some (.str leaf), some (.ref po), some (.int (n : Nat)), some (.ref bl)] ∧ G' bl = some (.lst (ds.map V.ref)) ∧ ds.length = max 1 n ∧ RowsAt G' leaf M ds ∧ Same H G', ?_, ?_⟩
    · refine ⟨fun m σ' G' => ∃ ds : List Addr, σ' = [some (.str leaf), some (.ref po), some (.int (n : Nat)), some (.ref bl)] ∧ G' bl = some (.lst (ds.map V.ref)) ∧ ds.length + m = max 1 n ∧ 1 ≤ ds.length ∧ RowsAt G' leaf M ds ∧ Same H G' ∧ ∀ a ∈ ds, H a = none,
        ⟨max 1 n - 1, [b0], rfl, ebl, by rw [List.length_singleton]; omega, by show 1 ≤ 1; omega, ?_, s0, fun a ha => by rw [List.mem_singleton.mp ha]; exact nb0⟩, fun m σ' G' hW => ?_⟩
      · intro i a ha
        have hi : i = 0 := by
          have := (List.getElem?_eq_some_iff.mp ha).1
          rw [List.length_singleton] at this
          omega
        subst hi
        cases ha
        exact eb0
      obtain ⟨ds, rfl, eB, hl, h1, hR, sm, hF⟩ := hW
      have ld : (ds.map V.ref).length = ds.length := List.length_map _
      refine ⟨_, rfl, bl, _, rfl, .inl (.inl (.inl eB)), _, rfl, _, _, rfl, rfl, ?_⟩
      rw [ld]
      refine ⟨_, rfl, ?_⟩
      refine ite2 (fun c0 => ?_) (fun c0 => ?_)
      · have c : ds.length < n := by
          have := of_decide_eq_true c0
          omega
        refine ⟨fun σ' G' => ∃ m', m' < m ∧ ∃ ds : List Addr, σ' = [some (.str leaf), some (.ref po), some (.int (n : Nat)), some (.ref bl)] ∧ G' bl = some (.lst (ds.map V.ref)) ∧ ds.length + m' = max 1 n ∧ 1 ≤ ds.length ∧ RowsAt G' leaf M ds ∧ Same H G' ∧ ∀ a ∈ ds, H a = none, fun σ' G' h => h, ?_⟩
        obtain ⟨k, hk⟩ : ∃ k, ds.length = k + 1 := ⟨ds.length - 1, by omega⟩
        have hlast : atI (ds.map V.ref) (-1) = (ds[k]?).map V.ref := by
          unfold atI ixN
          rw [ld]
          have h0 : ¬ (0 : Int) ≤ -1 := by omega
          rw [if_neg h0, if_pos (by omega)]
          show (ds.map V.ref)[((-1 : Int) + (ds.length : Int)).toNat]? = _
          rw [show ((-1 : Int) + (ds.length : Int)).toNat = k by omega, List.getElem?_map]
        have hdk : ds[k]? = some ds[k] := List.getElem?_eq_getElem (by omega)
        rw [hdk] at hlast
        have hrow := hR k _ hdk
        refine ⟨_, rfl, ⟨.inl ⟨rfl, _, .inl (.inl eB)⟩, ?_⟩⟩
        have hmG := sm _ _ hm
        have hMG : PartsAt K G' kvs M := hM.same fun a xs h => h.mono sm
        have npo : po ≠ ds[k] := fun z => by
          have := hF _ (List.mem_of_getElem? hdk)
          rw [← z, hm] at this
          cases this
        refine ⟨_, rfl, _, rfl, _, rfl, bl, _, _, _, rfl, rfl, .inl (.inl eB), hlast, po, ds[k], kvs, M, rowsR leaf M k, rfl, hmG, hMG, lM, nd, l3, hrow, npo, fun p H2 s2 np ep => ?_⟩
        refine ⟨bl, _, _, rfl, rfl, s2 _ _ eB, by rw [ld]; exact Nat.lt_of_le_of_lt (show _ ≤ 1000 by omega) (by decide), ?_⟩
        have npb : p ≠ bl := fun z => by
          rw [z, eB] at np
          cases np
        refine ⟨m - 1, by omega, ds ++ [p], rfl, ?_, by rw [List.length_append, List.length_singleton]; omega, by rw [List.length_append]; omega, ?_, fun b o e => ?_, fun a ha => ?_⟩
        · rw [upd_same, List.map_append]
          rfl
        · refine (hR.same s2).snoc (fun a kv e => ?_) ?_
          · rw [upd_ne (fun z => by rw [z, s2 _ _ eB] at e; cases e)]
            exact e
          · rw [upd_ne npb, hk]
            exact ep
        · rw [upd_ne (ne_of_none e nbl)]
          exact s2 _ _ (sm _ _ e)
        · rcases List.mem_append.mp ha with h | h
          · exact hF a h
          · rw [List.mem_singleton.mp h]
            exact sm.free np
      · have c : ¬ ds.length < n := fun z => c0 (decide_eq_true (by omega))
        exact ⟨ds, rfl, eB, by omega, hR, sm⟩
    rintro σ' G' ⟨ds, rfl, eB, hl, hR, sm⟩
    exact ⟨_, rfl, q bl ds G' sm nbl eB hl hR⟩
/-! ### the kinds of each rank -/
end
end Kl

set_option maxRecDepth 100000
/-! ### own rule: zip(t, l), t a tuple, l a list; a walk within a walk -/
namespace L2
open PySem PySem.Spec PyProof.Rows
set_option maxHeartbeats 4000000
theorem sep_zip {z TI TO i1 i2 a b : Addr} (D : ZipApart z TI TO i1 i2 a b) : ZipSep2 z TI TO i1 i2 [i1, a] [i2, b] := by
  refine ⟨D.TIz, D.TOz, D.TITO, D.TIi1, by simp, ?_, ?_, D.TIi2, by simp, ?_, ?_, ?_, ?_⟩
  · simp only [List.mem_cons, List.not_mem_nil, or_false, not_or]
    exact ⟨D.i1z.symm, D.l1z.symm⟩
  · simp only [List.mem_cons, List.not_mem_nil, or_false, not_or]
    exact ⟨D.TOi1, D.l1TO.symm⟩
  · simp only [List.mem_cons, List.not_mem_nil, or_false, not_or]
    exact ⟨D.i2z.symm, D.l2z.symm⟩
  · simp only [List.mem_cons, List.not_mem_nil, or_false, not_or]
    exact ⟨D.TOi2, D.l2TO.symm⟩
  · simp only [List.mem_cons, List.not_mem_nil, or_false, not_or]
    exact ⟨D.i12, D.l2i1.symm⟩
  · simp only [List.mem_cons, List.not_mem_nil, or_false, not_or]
    exact ⟨D.i12.symm, D.l1i2.symm⟩
/-- the tuple at a and the list at b, items side by side in new pairs -/
def ItzM (K : PySem.W.Frag) (a b : Addr) : It :=
  ⟨fun i H => ∃ (xs ys : List V) (x y : V), SqT K H a xs ∧ SqL K H b ys ∧ xs[i]? = some x ∧ ys[i]? = some y,
    fun i H v H' => ∃ T x y, v = .ref T ∧ H T = none ∧ H' = upd H T (.tup [x, y]) ∧ (∀ us, SqT K H a us → us[i]? = some x) ∧ ∀ us, SqL K H b us → us[i]? = some y,
    fun i H => ∃ xs ys : List V, SqT K H a xs ∧ SqL K H b ys ∧ i ≤ xs.length ∧ i ≤ ys.length ∧ (xs.length = i ∨ ys.length = i)⟩
theorem turn_zipM {P : Program} {w : World} {K : PySem.W.Frag} {elts : List Expr} {kk : Nat} {tpos : Pos} {a b z TI TO i1 i2 : Addr} (D : ZipApart z TI TO i1 i2 a b) :
    Turn P w K (.Tuple elts kk tpos) (ItzM K a b) [z, TI, TO, i1, i2] z (fun i h => IsZip h z TI TO .none ∧ IsTupOf2 h TI (.ref i1) (.ref i2) ∧ (∃ x y, IsTupOf2 h TO x y) ∧ h.IsTupleIter i1 a i ∧ h.IsListIter i2 b i) where
  mem := by simp
  obj := fun i h st c hc => by
    obtain ⟨hz, hTI, ⟨x, y, hTO⟩, ⟨o1, e1, _, d1⟩, ⟨o2, e2, _, d2⟩⟩ := st
    have e' : c = z ∨ c = TI ∨ c = TO ∨ c = i1 ∨ c = i2 := by simpa using hc
    rcases e' with q | q | q | q | q
    · rw [q]; exact ⟨_, hz, fun v q => nomatch q⟩
    · rw [q]; exact ⟨_, hTI, fun v q => nomatch q⟩
    · rw [q]; exact ⟨_, hTO, fun v q => nomatch q⟩
    · rw [q]; exact ⟨o1, e1, fun v q => by rw [d1] at q; cases q⟩
    · rw [q]; exact ⟨o2, e2, fun v q => by rw [d2] at q; cases q⟩
  keep := fun i h h' st k => by
    obtain ⟨hz, hTI, ⟨x, y, hTO⟩, h1, h2⟩ := st
    refine ⟨k z (by simp) _ hz, k TI (by simp) _ hTI, ⟨x, y, k TO (by simp) _ hTO⟩, h1.at fun o q => k i1 (by simp) o q, ?_⟩
    exact h2.at fun o q => k i2 (by simp) o q
  item := by
    intro X hP hw hK hc i pins s σ H E I hf st hg
    subst hP hw hK
    obtain ⟨hz, hTI, ⟨x0, y0, hTO⟩, h1, h2⟩ := st
    obtain ⟨xs, ys, x, y, hqx, hqy, hx, hy⟩ := hg
    obtain ⟨its, rv, p, _⟩ := I.tuple hqx
    obtain ⟨its2, rv2, p2, _⟩ := I.list hqy
    obtain ⟨u, hu, ru⟩ := rv.get hx
    obtain ⟨u2, hu2, ru2⟩ := rv2.get hy
    have hp : s.heap.IsTuple a its.toArray := p
    have hp2 : s.heap.IsList b its2.toArray := p2.isList
    have hzl : z < s.heap.objs.size := Heap.lt_size hz
    have lt1 : i < its.toArray.size := by
      have := (List.getElem?_eq_some_iff.mp hu).1
      simpa using this
    have lt2 : i < its2.toArray.size := by
      have := (List.getElem?_eq_some_iff.mp hu2).1
      simpa using this
    refine wpAny_pyNext_zipD2_item (sep_zip D) (Draws.tuple (A := X.A.in1) (I.ok.hd hc) i1 a D.l1i1 its.toArray) (Draws.list (A := X.A.in1) (I.ok.hd hc) i2 b D.l2i2 its2.toArray) hz hTI hTO ⟨h1, hp⟩ ⟨h2, hp2⟩ lt1 lt2 fun w1 w2 h' tk y1 y2 z' TO' st1 st2 hT hsz hk => ?_
    have ew1 : w1 = u := by
      have q : its.toArray[i]? = some u := by simpa using hu
      exact Option.some.inj (y1.symm.trans q)
    have ew2 : w2 = u2 := by
      have q : its2.toArray[i]? = some u2 := by simpa using hu2
      exact Option.some.inj (y2.symm.trans q)
    subst ew1 ew2
    refine ⟨_, rfl, wpAny_letOwnedTupleGo_zip (s := { s with heap := h', toks := tk }) z' fun h'' z'' sb => ?_⟩
    have hT2 : h''.get? s.heap.objs.size = some { cls := .type "tuple", data := .seq #[w1, w2] } := (sb.2 _ (Nat.ne_of_gt hzl)).trans hT
    have new : ObjOk X.prog X.w (upd H s.heap.objs.size (.tup [x, y])) h'' s.heap.objs.size (.tup [x, y]) :=
      ⟨by show 2 ≤ sizeLine; decide, [w1, w2], .cons ru (.cons ru2 .nil), ⟨_, hT2, rfl, _, rfl⟩⟩
    have I1 : Inv X pins σ (upd H s.heap.objs.size (.tup [x, y])) { s with heap := h'', toks := tk } := by
      refine I.turnedNew (ch := [z, TI, TO, i1, i2]) (fun c o hb q => ?_) hf (Nat.le_refl _) new
      have nb : c ≠ z ∧ c ≠ TI ∧ c ≠ TO ∧ c ≠ i1 ∧ c ≠ i2 := by simpa using hb
      exact (sb.2 c nb.1).trans (hk c o nb.1 nb.2.2.1 nb.2.2.2.1 nb.2.2.2.2 q)
    refine ⟨.ref s.heap.objs.size, _, I1, rfl, ⟨_, x, y, rfl, I.hok.fresh (Nat.le_refl _), rfl, fun l hl => ?_, fun l hl => ?_⟩, ⟨z'', ?_, ⟨w1, w2, ?_⟩, ?_, ?_⟩, fun c hcm => ?_⟩
    · rw [I.tuple_inj hl hqx]
      exact hx
    · rw [I.list_inj hl hqy]
      exact hy
    · exact (sb.2 _ D.TIz).trans (hk _ _ D.TIz D.TITO D.TIi1 D.TIi2 hTI)
    · exact (sb.2 _ D.TOz).trans TO'
    · exact st1.1.at fun o q => (sb.2 _ D.i1z).trans q
    · exact st2.1.at fun o q => (sb.2 _ D.i2z).trans q
    · have hlt : c < s.heap.objs.size := by
        have e' : c = z ∨ c = TI ∨ c = TO ∨ c = i1 ∨ c = i2 := by simpa using hcm
        rcases e' with rfl | rfl | rfl | rfl | rfl
        · exact hzl
        · exact Heap.lt_size hTI
        · exact Heap.lt_size hTO
        · obtain ⟨_, e1, _⟩ := h1
          exact Heap.lt_size e1
        · obtain ⟨_, e2, _⟩ := h2
          exact Heap.lt_size e2
      rw [upd_ne (Nat.ne_of_lt hlt)]
      exact (hf c hcm).1
  done := by
    intro X hP hw hK hc i pins s σ H E I hf st hg
    subst hP hw hK
    obtain ⟨hz, hTI, ⟨x0, y0, hTO⟩, h1, h2⟩ := st
    obtain ⟨xs, ys, hqx, hqy, b1, b2, hend⟩ := hg
    obtain ⟨its, rv, p, _⟩ := I.tuple hqx
    obtain ⟨its2, rv2, p2, _⟩ := I.list hqy
    have hp : s.heap.IsTuple a its.toArray := p
    have l1 := rv.length
    have l2 := rv2.length
    refine wpAny_pyNext_zipD2_end (sep_zip D) (Draws.tuple (A := X.A.in1) (I.ok.hd hc) i1 a D.l1i1 its.toArray) (Draws.list (A := X.A.in1) (I.ok.hd hc) i2 b D.l2i2 its2.toArray) hz hTI hTO ⟨h1, hp⟩ ⟨h2, p2.isList⟩ (by simp; omega) (by simp; omega) (by simp; omega) fun h' tk hk => ?_
    refine ⟨rfl, I.turnedL (t' := tk) (ch := [z, TI, TO, i1, i2]) (fun c o hb q => ?_) hf⟩
    have nb : c ≠ z ∧ c ≠ TI ∧ c ≠ TO ∧ c ≠ i1 ∧ c ≠ i2 := by simpa using hb
    exact hk c o nb.1 nb.2.2.1 nb.2.2.2.1 nb.2.2.2.2 q
  self := fun A i s Q E st h => wpAny_pyIter_zip st.1 h
def iZipM (K : PySem.W.Frag) (ta : TA) : TI := fun σ H R => ta σ H fun vs H1 => ∃ a b xs ys, vs = [.ref a, .ref b] ∧ SqT K H1 a xs ∧ SqL K H1 b ys ∧ R (ItzM K a b) H1
theorem pi_zipM {X : Cx} {e e2 : Expr} {ta : TA} {p pos tpos : Pos} {elts : List Expr} {kk : Nat} (hg : Gl X "zip") (hm : X.mg "zip" = none) (ha : PA X [e, e2] ta)
    (hs : starEach [e, e2] X.env = (false, eval e X.env) :: starEach [e2] X.env := by rfl) (hpl : (backTo pos (starEach [e2] X.env)).any (·.1) = false := by rfl) :
    PI X (.Tuple elts kk tpos) (.Call (.Name "zip" p) [e, e2] [] pos) (iZipM X.K ta) := by
  refine ⟨fun pins s σ H R I h => ?_⟩
  refine Call_ (ld_blt I hg hm PyProof.Rows.boot_zip (PyProof.Rows.callWith_type1 (thn (ha.run pos pins s σ H _ I h) fun us s1 ⟨vs, H1, I1, r1, q1⟩ => ?_) hs hpl))
  obtain ⟨a, b, xs, ys, ex, hqx, hqy, q⟩ := q1
  subst ex
  cases r1 with
  | cons r rr =>
    cases rr with
    | cons r' rr =>
      cases rr
      cases r
      cases r'
      obtain ⟨its, rv, p1, _⟩ := I1.tuple hqx
      obtain ⟨its2, rv2, p2, _⟩ := I1.list hqy
      have hp1 : s1.heap.IsTuple a its.toArray := p1
      have la : a < s1.heap.objs.size := by
        obtain ⟨_, e, _⟩ := hp1
        exact Heap.lt_size e
      refine zip_begins2 (begins_tuple a its.toArray) (begins_list b its2.toArray) hp1 p2.isList fun h' hz hTI hTO g1 g2 hsz hk => wpAny_pyIter_zip hz ?_
      have I2 : Inv X pins σ H1 { s1 with heap := h' } := I1.kept (t' := s1.toks) hk
      refine ⟨s1.heap.objs.size + 4, _, _, _, H1, rfl, I2, turn_zipM (PySem.W.ktu_apart s1.heap.objs.size a b la p2.lt), ⟨hz, hTI, ⟨_, _, hTO⟩, ⟨_, g1, rfl, rfl⟩, ⟨_, g2, rfl, rfl⟩⟩, fun c hcm => ?_, q⟩
      have hle : s1.heap.objs.size ≤ c := by
        simp only [List.mem_cons, List.not_mem_nil, or_false] at hcm
        rcases hcm with rfl | rfl | rfl | rfl | rfl
        all_goals first | exact Nat.le_refl _ | exact Nat.le_add_right _ _
      exact I1.fpOk hle (I1.hok.fresh hle)
theorem walk_zipM {K : PySem.W.Frag} {a b : Addr} {xs ys : List V} {n : Nat} (hn : n = min xs.length ys.length) : Walk (ItzM K a b) n (fun H => SqT K H a xs ∧ SqL K H b ys) (YPair (fun i => xs[i]?) (fun i => ys[i]?)) := by
  subst hn
  refine ⟨fun i _ hi q => ?_, fun _ q => ⟨xs, ys, q.1, q.2, Nat.min_le_left _ _, Nat.min_le_right _ _, ?_⟩, fun i H v H' _ q y => ?_⟩
  · have g1 : i < xs.length := by omega
    have g2 : i < ys.length := by omega
    exact ⟨xs, ys, xs[i], ys[i], q.1, q.2, List.getElem?_eq_getElem g1, List.getElem?_eq_getElem g2⟩
  · omega
  · obtain ⟨T, u, z, e1, e2, e3, e4, e5⟩ := y
    exact ⟨T, u, z, e1, e2, e3, e4 _ q.1, e5 _ q.2⟩
/-- the outer walk of a comprehension with two `for`s -/
theorem lc2_it {J : It} {n : Nat} {G : Hp → Prop} {Y : Nat → Hp → V → Hp → Prop} (w : Walk J n G Y) {g : TG} {tt : TT} {R : L2.St → Hp → (Hp → Prop) → Prop} {vs : List Nat} {σ : L2.St} {H1 : Hp} {D : Addr} {Qd : Hp → Prop} (Pv : Nat → Hp → Prop) (h0 : Pv 0 (upd H1 D (.lst []))) (hG : ∀ i H, i ≤ n → Pv i H → G H)
    (hs : ∀ i x H H', i < n → Pv i H → Y i H x H' → g x (wipe σ vs) H' fun σ2 H2 => wipe σ2 vs = wipe σ vs ∧ tt σ2 H2 fun b H3 => if b = true then R σ2 H3 (Pv (i + 1)) else Pv (i + 1) H3) (hd : ∀ H, Pv n H → Qd H) :
    ∃ W : Nat → Nat → Hp → Prop, (∃ m, W 0 m (upd H1 D (.lst []))) ∧ ∀ i m H, W i m H →
      (J.stop i H ∧ Qd H) ∨ (J.go i H ∧ ∃ Nx : Hp → Prop, (∀ H', Nx H' → ∃ m', m' < m ∧ W (i + 1) m' H') ∧ ∀ x H', J.yld i H x H' → g x (wipe σ vs) H' fun σ2 H2 => wipe σ2 vs = wipe σ vs ∧ tt σ2 H2 fun b H3 => if b = true then R σ2 H3 Nx else Nx H3) := by
  refine ⟨fun i m H => m = n - i ∧ i ≤ n ∧ Pv i H, ⟨n, rfl, Nat.zero_le _, h0⟩, ?_⟩
  rintro i m H ⟨em, hi, hp⟩
  subst em
  have gH := hG i H hi hp
  rcases Nat.lt_or_ge i n with c | c
  · exact .inr ⟨w.goes i H c gH, Pv (i + 1), fun H' p' => ⟨n - (i + 1), Nat.sub_lt_sub_left c (Nat.lt_succ_self i), rfl, c, p'⟩, fun x H' y => hs i x H H' c hp (w.yields i H x H' c gH y)⟩
  · have e : i = n := Nat.le_antisymm hi c
    subst e
    exact .inl ⟨w.stops H gH, hd H hp⟩
/-- the inner one -/
theorem in_it {J : It} {n : Nat} {G : Hp → Prop} {Y : Nat → Hp → V → Hp → Prop} (w : Walk J n G Y) {g : TG} {R : L2.St → Hp → (Hp → Prop) → Prop} {vs : List Nat} {σ : L2.St} {H1 : Hp} {Qd : Hp → Prop} (Pv : Nat → Hp → Prop) (h0 : Pv 0 H1) (hG : ∀ i H, i ≤ n → Pv i H → G H)
    (hs : ∀ i x H H', i < n → Pv i H → Y i H x H' → g x (wipe σ vs) H' fun σ2 H2 => wipe σ2 vs = wipe σ vs ∧ R σ2 H2 (Pv (i + 1))) (hd : ∀ H, Pv n H → Qd H) :
    ∃ W : Nat → Nat → Hp → Prop, (∃ m, W 0 m H1) ∧ ∀ i m H, W i m H →
      (J.stop i H ∧ Qd H) ∨ (J.go i H ∧ ∃ Nx : Hp → Prop, (∀ H', Nx H' → ∃ m', m' < m ∧ W (i + 1) m' H') ∧ ∀ x H', J.yld i H x H' → g x (wipe σ vs) H' fun σ2 H2 => wipe σ2 vs = wipe σ vs ∧ R σ2 H2 Nx) := by
  refine ⟨fun i m H => m = n - i ∧ i ≤ n ∧ Pv i H, ⟨n, rfl, Nat.zero_le _, h0⟩, ?_⟩
  rintro i m H ⟨em, hi, hp⟩
  subst em
  have gH := hG i H hi hp
  rcases Nat.lt_or_ge i n with c | c
  · exact .inr ⟨w.goes i H c gH, Pv (i + 1), fun H' p' => ⟨n - (i + 1), Nat.sub_lt_sub_left c (Nat.lt_succ_self i), rfl, c, p'⟩, fun x H' y => hs i x H H' c hp (w.yields i H x H' c gH y)⟩
  · have e : i = n := Nat.le_antisymm hi c
    subst e
    exact .inl ⟨w.stops H gH, hd H hp⟩
end L2

set_option maxRecDepth 100000
set_option maxHeartbeats 4000000
namespace Kl
open PySem PySem.Spec PyProof.Rows L2 Gx Mx
/-! ### keys_of -/
/-- the sizes of the kinds of a row, in their order, up to a rank -/
def keysL (leaf : Str) (M : Mak) (qs : List (List Str)) (j : Nat) : List Nat := ((List.range j).map fun i => (dg qs i).map (getR (rowsR leaf M i))).flatten
/-- all kinds of a row exist at their ranks -/
def Exist (leaf : Str) (M : Mak) (qs : List (List Str)) : Prop := ∀ i, ∀ z ∈ dg qs i, z ∈ keysR (rowsR leaf M i)
theorem keysL_succ (leaf : Str) (M : Mak) (qs : List (List Str)) (j : Nat) : keysL leaf M qs (j + 1) = keysL leaf M qs j ++ (dg qs j).map (getR (rowsR leaf M j)) := by
  unfold keysL
  rw [List.range_succ, List.map_append, List.flatten_append]
  simp
theorem keysL_len (leaf : Str) (M : Mak) (qs : List (List Str)) (h : ∀ i, (dg qs i).length ≤ 20) : ∀ j, (keysL leaf M qs j).length ≤ 20 * j
  | 0 => Nat.zero_le _
  | j + 1 => by
    rw [keysL_succ, List.length_append, List.length_map]
    have := keysL_len leaf M qs h j
    have := h j
    omega
theorem cast_sumN : ∀ l : List Nat, (l.map fun n => ((n : Nat) : Int)).sum = ((l.sum : Nat) : Int)
  | [] => rfl
  | n :: l => by rw [List.map_cons, List.sum_cons, List.sum_cons, cast_sumN l, Int.natCast_add]
/-- what a walk over the digits, rank by rank and name by name, gathers -/
def accF (f : Nat → Str → V) (qs : List (List Str)) (j : Nat) : List V := ((List.range j).map fun i => (dg qs i).map (f i)).flatten
theorem accF_succ (f : Nat → Str → V) (qs : List (List Str)) (j : Nat) : accF f qs (j + 1) = accF f qs j ++ (dg qs j).map (f j) := by
  unfold accF
  rw [List.range_succ, List.map_append, List.flatten_append]
  simp
theorem accF_len (f : Nat → Str → V) (qs : List (List Str)) (h : ∀ i, (dg qs i).length ≤ 20) : ∀ j, (accF f qs j).length ≤ 20 * j
  | 0 => Nat.zero_le _
  | j + 1 => by
    rw [accF_succ, List.length_append, List.length_map]
    have := accF_len f qs h j
    have := h j
    omega
theorem accF_keys (leaf : Str) (M : Mak) (qs : List (List Str)) : ∀ j, accF (fun i z => V.int (getR (rowsR leaf M i) z : Nat)) qs j = (keysL leaf M qs j).map fun n => V.int (n : Nat)
  | 0 => rfl
  | j + 1 => by
    rw [accF_succ, keysL_succ, List.map_append, accF_keys leaf M qs j, List.map_map]
    rfl
theorem accF_true (qs : List (List Str)) : ∀ j, ∃ n, accF (fun _ _ => V.bl true) qs j = (List.replicate n true).map V.bl
  | 0 => ⟨0, rfl⟩
  | j + 1 => by
    obtain ⟨n, e⟩ := accF_true qs j
    refine ⟨n + (dg qs j).length, ?_⟩
    rw [accF_succ, e, List.map_replicate, List.map_replicate, List.map_const', List.replicate_append_replicate]
abbrev gDH (K : PySem.W.Frag) : TG := gTup K 2 (gCons (gName 3) (gCons (gName 4) gNil))
/-- a walk within a walk, no tests -/
def Two (J : It) (g : TG) (wi1 : TI) (g1 : TG) (te : TE) (vs vs1 : List Nat) (σ : L2.St) (H1 : Hp) (D : Addr) (Qd : Hp → Prop) : Prop :=
  ∃ W : Nat → Nat → Hp → Prop, (∃ m, W 0 m (upd H1 D (.lst []))) ∧ ∀ i m H, W i m H → (J.stop i H ∧ Qd H) ∨ (J.go i H ∧ ∃ Nx : Hp → Prop, (∀ H', Nx H' → ∃ m', m' < m ∧ W (i + 1) m' H') ∧ ∀ x H', J.yld i H x H' → g x (wipe σ vs) H' fun σ2 H2 => wipe σ2 vs = wipe σ vs ∧ tYes σ2 H2 fun b H3 =>
    if b = true then wi1 σ2 H3 fun J1 H4 => ∃ W1 : Nat → Nat → Hp → Prop, (∃ m, W1 0 m H4) ∧ ∀ j k H, W1 j k H → (J1.stop j H ∧ Nx H) ∨ (J1.go j H ∧ ∃ Nx1 : Hp → Prop, (∀ H', Nx1 H' → ∃ k', k' < k ∧ W1 (j + 1) k' H') ∧ ∀ x H', J1.yld j H x H' → g1 x (wipe σ2 vs1) H' fun σ3 H5 => wipe σ3 vs1 = wipe σ2 vs1 ∧ tYes σ3 H5 fun b H6 =>
      if b = true then te σ3 H6 fun y H7 => ∃ acc, H7 D = some (.lst acc) ∧ acc.length < sizeLine ∧ Nx1 (upd H7 D (.lst (acc ++ [y]))) else Nx1 H6) else Nx H3)
theorem two_for {K : PySem.W.Frag} {x p bl : Addr} {LL : List (Addr × List Str)} {ds : List Addr} {leaf : Str} {M : Mak} {G0 : Hp} {wi1 : TI} {te : TE} (f : Nat → Str → V) (hR : RowAt K G0 p LL) (hB : G0 bl = some (.lst (ds.map V.ref))) (hRows : RowsAt G0 leaf M ds)
    (hl : LL.length ≤ ds.length) (h20 : ∀ q ∈ LL, q.2.length ≤ 20) (h402 : LL.length ≤ 402)
    (hwi1 : ∀ (G : Hp) R (a da : Addr) (xs : List V), SqT K G a xs → R (Itt K a) G → wi1 [some (.ref x), some (.ref p), some (.ref bl), some (.ref a), some (.ref da), none] G R)
    (hte : ∀ i q da z (G : Hp) Q, LL[i]? = some q → z ∈ q.2 → G da = some (.dK (rowK (rowsR leaf M i))) → Q (f i z) G → te [some (.ref x), some (.ref p), some (.ref bl), some (.ref q.1), some (.ref da), some (.str z)] G Q)
    {D : Addr} (hD : G0 D = none) {Qd : Hp → Prop} (hq : ∀ G, G D = some (.lst (accF f (LL.map (·.2)) LL.length)) → Same G0 G → Qd G) :
    Two (ItzM K p bl) (gDH K) wi1 (gName 5) te [3, 4, 5] [5] [some (.ref x), some (.ref p), some (.ref bl), none, none, none] G0 D Qd := by
  have big : 100000 ≤ sizeLine := by decide
  have hd20 : ∀ i, (dg (LL.map (·.2)) i).length ≤ 20 := fun i => by
    unfold dg
    rw [List.getElem?_map]
    cases e : LL[i]? with
    | none => exact Nat.zero_le _
    | some q => exact h20 q (List.mem_of_getElem? e)
  refine lc2_it (g := gDH K) (tt := tYes) (vs := [3, 4, 5]) (walk_zipM (K := K) (a := p) (b := bl) (xs := LL.map fun q => V.ref q.1) (ys := ds.map V.ref) (n := LL.length) (by rw [List.length_map, List.length_map]; omega))
    (fun j G => G D = some (.lst (accF f (LL.map (·.2)) j)) ∧ Same G0 G) ⟨upd_same, same_new (Same.refl G0) hD⟩ (fun j G _ h => ⟨sqT_sm h.2 hR.e, .inl (.inl (h.2 _ _ hB))⟩) (fun j v G G' hj hP hy => ?_) (fun G hP => hq G hP.1 hP.2)
  obtain ⟨eD, sm⟩ := hP
  obtain ⟨t, u, y, rfl, nt, rfl, hu, hy2⟩ := hy
  have hu : (LL.map fun q => V.ref q.1)[j]? = some u := hu
  have hy2 : (ds.map V.ref)[j]? = some y := hy2
  rw [List.getElem?_map] at hu hy2
  obtain ⟨q0, hq0, rfl⟩ := Option.map_eq_some_iff.mp hu
  obtain ⟨da, hda, rfl⟩ := Option.map_eq_some_iff.mp hy2
  have ed : dg (LL.map (·.2)) j = q0.2 := by
    unfold dg
    rw [List.getElem?_map, hq0]
    rfl
  have s2 : Same G0 (upd G t (.tup [V.ref q0.1, V.ref da])) := same_new sm nt
  have eD2 : (upd G t (.tup [V.ref q0.1, V.ref da])) D = some (.lst (accF f (LL.map (·.2)) j)) := by
    rw [upd_ne (ne_of_none eD nt)]
    exact eD
  refine ⟨t, _, rfl, .inl (.inl upd_same), rfl, _, _, rfl, _, _, rfl, rfl, rfl, ?_⟩
  generalize upd G t (.tup [V.ref q0.1, V.ref da]) = G2 at s2 eD2
  have hT0 := hR.t _ (List.mem_of_getElem? hq0)
  have hl20 := h20 _ (List.mem_of_getElem? hq0)
  show wi1 _ G2 _
  refine hwi1 G2 _ q0.1 da _ (sqT_sm s2 hT0) ?_
  refine in_it (g := gName 5) (vs := [5]) (walk_tup (K := K) (a := q0.1) (xs := q0.2.map V.str)) (fun k G => G D = some (.lst (accF f (LL.map (·.2)) j ++ (q0.2.take k).map (f j))) ∧ Same G0 G)
    ⟨by rw [List.take_zero, List.map_nil, List.append_nil]; exact eD2, s2⟩ (fun k G _ h => sqT_sm h.2 hT0) (fun k v G G' hk hP hy => ?_) (fun G hP => ?_)
  · obtain ⟨eD3, s3⟩ := hP
    obtain ⟨rfl, hv⟩ := hy
    obtain ⟨z, hz, rfl⟩ := at_texts hv
    refine ⟨rfl, ?_⟩
    show te _ G' _
    refine hte j q0 da z G' _ hq0 (List.mem_of_getElem? hz) (s3 _ _ (hRows j da hda)) ?_
    refine ⟨_, eD3, ?_, ?_, fun b o e => by rw [upd_ne (ne_of_none e hD)]; exact s3 b o e⟩
    · have h1 := accF_len f (LL.map (·.2)) hd20 j
      rw [List.length_append, List.length_map, List.length_take]
      omega
    · rw [upd_same, take_snoc hz, List.map_append, List.append_assoc]
      rfl
  · obtain ⟨eD3, s3⟩ := hP
    rw [List.length_map, List.take_length] at eD3
    refine ⟨?_, s3⟩
    rw [accF_succ, ed]
    exact eD3
section
variable {P : Program} {w : World} {K : PySem.W.Frag} {mg : Str → Option Value} {base : Heap}
def spKeys (K : PySem.W.Frag) (C : Addr) : Sp := fun vs H Q _ => ∃ (x md p : Addr) (leaf : Str) (M : Mak) (ns : List Str) (LL : List (Addr × List Str)), vs = [V.ref x, V.ref p] ∧ KindsAt C H x md leaf M ns ∧ Vld leaf M ∧ RowAt K H p LL ∧ looseB (LL.map (·.2)) = true ∧ Exist leaf M (LL.map (·.2)) ∧
  ∀ H', Same H H' → Q (.int ((keysL leaf M (LL.map (·.2)) LL.length).sum : Nat)) H'
abbrev NKY : List Str := ["kinds", "row", "sizes", "digit", "here", "name"]
theorem ok_keys {C f : Addr} {fd : FuncData} (F : Fun K "keys_of" "keys_of" s_keys_of f fd) (T : Top K mg) (TC : Cl_Kinds K mg C) : FnOk P w K mg base CX0 8 f fd ["kinds", "row"] (spKeys K C) := by
  have cc : Cal P w K mg base 7 "_check_loose" ["row"] (spChkL K) := T.d_check_loose.cal fun f fd F => ok_chkL F T
  have ck : Cal P w K mg base 7 "_check_kinds" ["kinds"] (spChkK C) := (T.d_check_kinds.cal fun f fd F => ok_chkK F T TC).mono (by decide)
  have cs : Cal P w K mg base 7 "sums_by_rank" ["leaf", "parts_of", "ranks"] (spSumsBy K) := (T.d_sums_by_rank.cal fun f fd F => ok_sumsBy F T).mono (by decide)
  have kMak : CalP P w K mg base C "makings" 6 (spKMak C) := (TC.p_makings.cal fun f fd F => ok_kmak F T TC).mono (by decide)
  have kLeaf : CalP P w K mg base C "leaf" 6 (spKLeaf C) := (TC.p_leaf.cal fun f fd F => ok_kleaf F TC).mono (by decide)
  refine F.ok sc_keys_of (fun vs H Q E h => ?_) (fun cdv A outer s H vs Q E hr h => ?_)
  · obtain ⟨x, md, p, leaf, M, ns, LL, rfl, _⟩ := h
    rfl
  · obtain ⟨x, md, p, leaf, M, ns, LL, rfl, hK, hV, hR, hL, hE, q⟩ := h
    have hu := hu_of hr
    refine ⟨_, pss_cons (ps_expr (pe_cal ck hr (by rfl) (pa_cons (pv 0) pa_nil)))
      (pss_cons (ps_expr (pe_cal cc hr (by rfl) (pa_cons (pv 1) pa_nil)))
      (pss_cut (ps_set (i := 2) sc_keys_of.nd rfl (.inl rfl) (pe_cal cs hr (by rfl) (pa_cons (pe_propC (pv 0) TC.cl kLeaf hr rfl) (pa_cons (pe_propC (pv 0) TC.cl kMak hr rfl) (pa_cons (pe_callB call_len_seq (by rfl) T.b_len PySem.boot_len (pa_cons (pv 1) pa_nil)) pa_nil)))))
      (pss_cut (ps_if (pt_not (pt_val (pe_callB (cr_all rfl) (by rfl) T.b_all (by decide +kernel) (pa_cons (pe_lc2 (own := [("digit", 3), ("here", 4), ("name", 5)]) (vs1 := [5]) (g := gTup K 2 (gCons (gName 3) (gCons (gName 4) gNil))) (g1 := gName 5) (tt := tYes) (tt1 := tYes) rfl sc_keys_of.nd
          (pi_zipM (by rfl) T.b_zip (pa_cons (pv 1) (pa_cons (pv 2) pa_nil)))
          (blkOk_by (N := NKY) (sc := defScope s_keys_of) (by decide +kernel)) (by decide)
          (fun _ _ _ _ _ => pg_tup rfl (pgs_cons (pg_name (i := 3) sc_keys_of.nd rfl (.inl rfl)) (pgs_cons (pg_name (i := 4) sc_keys_of.nd rfl (.inl rfl)) pgs_nil)))
          (fun _ _ _ _ _ => pts_nil) (fun _ _ _ _ _ => pi_tupK (K := K) (by exact rfl) (pv 3)) (fun _ _ _ _ _ => pg_name (i := 5) sc_keys_of.nd rfl (.inl rfl)) (fun _ _ _ _ _ => pts_nil)
          (fun _ _ _ _ _ => pe_cmp (pc_din hu (pv 5) (pv 4)))) pa_nil)))) (pss_one ps_never) pss_nil)
      (pss_one (ps_ret (pe_callB (cr_sum rfl) (by rfl) T.b_sum (by decide +kernel) (pa_cons (pe_lc2 (own := [("digit", 3), ("here", 4), ("name", 5)]) (vs1 := [5]) (g := gTup K 2 (gCons (gName 3) (gCons (gName 4) gNil))) (g1 := gName 5) (tt := tYes) (tt1 := tYes) rfl sc_keys_of.nd
          (pi_zipM (by rfl) T.b_zip (pa_cons (pv 1) (pa_cons (pv 2) pa_nil)))
          (blkOk_by (N := NKY) (sc := defScope s_keys_of) (by decide +kernel)) (by decide)
          (fun _ _ _ _ _ => pg_tup rfl (pgs_cons (pg_name (i := 3) sc_keys_of.nd rfl (.inl rfl)) (pgs_cons (pg_name (i := 4) sc_keys_of.nd rfl (.inl rfl)) pgs_nil)))
          (fun _ _ _ _ _ => pts_nil) (fun _ _ _ _ _ => pi_tupK (K := K) (by exact rfl) (pv 3)) (fun _ _ _ _ _ => pg_name (i := 5) sc_keys_of.nd rfl (.inl rfl)) (fun _ _ _ _ _ => pts_nil)
          (fun _ _ _ _ _ => pe_dget hu (pv 4) (pv 5) (fun _ _ => rfl))) pa_nil))))))), ?_⟩
    obtain ⟨m1, g1, _⟩ := loose_facts hL
    rw [List.length_map] at m1
    have hV3 : ∀ m ∈ M, m.2.length ≤ 3 := fun m hm => (hV.parts m hm).2.2.1
    have g2 : ∀ q ∈ LL, q.2.length ≤ 20 ∧ ∀ z ∈ q.2, z.length ≤ 8 := fun q hq => by
      have h := g1 q.2 (List.mem_map.mpr ⟨q, hq, rfl⟩)
      unfold goodB at h
      rw [Bool.and_eq_true, Bool.and_eq_true] at h
      exact ⟨of_decide_eq_true h.1, fun z hz => name_len (List.all_eq_true.mp h.2.1 z hz)⟩
    have hF : Few (LL.map (·.2)) := by
      refine ⟨by rw [List.length_map]; omega, fun q hq => ?_⟩
      obtain ⟨q0, hq0, rfl⟩ := List.mem_map.mp hq
      obtain ⟨h1, h2⟩ := g2 q0 hq0
      exact ⟨by omega, fun z hz => Nat.le_trans (h2 z hz) (by decide)⟩
    have hin : ∀ {i : Nat} {q0 : Addr × List Str} {z : Str}, LL[i]? = some q0 → z ∈ q0.2 → z ∈ keysR (rowsR leaf M i) := fun {i q0 z} hi hz => by
      refine hE i z ?_
      unfold dg
      rw [List.getElem?_map, hi]
      exact hz
    obtain ⟨dx, nt, kvs0, hx, hmd0, hM0, _⟩ := id hK
    refine ⟨_, rfl, x, md, leaf, M, ns, rfl, hK, ⟨_, rfl, p, LL, rfl, hR, hF, hL, fun H1 s1 => ?_⟩⟩
    have hK1 := hK.same s1
    have hR1 := hR.same s1
    refine ⟨fun σ' G => ∃ (bl : Addr) (ds : List Addr), σ' = [some (.ref x), some (.ref p), some (.ref bl), none, none, none] ∧ G bl = some (.lst (ds.map V.ref)) ∧ LL.length ≤ ds.length ∧ RowsAt G leaf M ds ∧ Same H G, ?_, ?_⟩
    · refine ⟨_, rfl, x, dx, _, rfl, s1 _ _ hx, x, md, leaf, M, ns, rfl, hK1, ?_⟩
      refine ⟨_, rfl, x, dx, _, rfl, s1 _ _ hx, x, md, leaf, M, ns, rfl, hK1, fun pm kvs npm hMp => ?_⟩
      have s2 := same_new (o := .dK kvs) (Same.refl H1) npm
      refine ⟨_, rfl, p, _, rfl, .inr (hR1.same s2).e, ?_⟩
      rw [List.length_map]
      refine ⟨leaf, pm, LL.length, kvs, M, rfl, by omega, upd_same, (hMp.same fun _ _ h => h.mono s2).parts, hV.len, hV.nd, hV3, fun bl ds G s3 nbl ebl ll hRw => ?_⟩
      exact ⟨bl, ds, rfl, ebl, by omega, hRw, fun b o e => s3 _ _ (s2 _ _ (s1 _ _ e))⟩
    rintro σ' G ⟨bl, ds, rfl, ebl, ll, hRw, s2⟩
    have hR2 := hR.same s2
    refine ⟨fun σ' G' => σ' = [some (.ref x), some (.ref p), some (.ref bl), none, none, none] ∧ Same G G', ?_, ?_⟩
    · refine ⟨_, rfl, _, rfl, p, bl, _, _, rfl, hR2.e, .inl (.inl ebl), fun D hD => ?_⟩
      refine two_for (wi1 := iTup K (tVar 3)) (te := tDIn (tVar 5) (tVar 4)) (fun _ _ => V.bl true) hR2 ebl hRw ll (fun q hq => (g2 q hq).1) m1 (fun G' R a da xs ha h => ⟨_, rfl, a, rfl, ⟨_, ha⟩, h⟩) (fun i q da z G' Q hi hz hda h => ?_) hD (fun G' eD s3 => ?_)
      · refine ⟨_, rfl, _, rfl, da, _, rfl, .inl ⟨_, Sum.inr z, .inl hda, rfl, rfl⟩, ?_⟩
        rw [rowK_some, decide_eq_true (hin hi hz)]
        exact h
      · obtain ⟨n, en⟩ := accF_true (LL.map (·.2)) LL.length
        rw [en] at eD
        refine ⟨D, _, rfl, .inl (.inl eD), _, rfl, ?_⟩
        rw [all_true]
        show (if (!true) = true then _ else _)
        rw [if_neg (by decide)]
        exact ⟨rfl, s3⟩
    rintro σ' G' ⟨rfl, s3⟩
    have hR3 := hR2.same s3
    refine ⟨_, rfl, _, rfl, p, bl, _, _, rfl, hR3.e, .inl (.inl (s3 _ _ ebl)), fun D hD => ?_⟩
    refine two_for (wi1 := iTup K (tVar 3)) (te := tDGet (tVar 4) (tVar 5)) (fun i z => V.int (getR (rowsR leaf M i) z : Nat)) hR3 (s3 _ _ ebl) (hRw.same s3) ll (fun q hq => (g2 q hq).1) m1 (fun G' R a da xs ha h => ⟨_, rfl, a, rfl, ⟨_, ha⟩, h⟩) (fun i q da z G' Q hi hz hda h => ?_) hD (fun G' eD s4 => ?_)
    · exact ⟨_, rfl, _, rfl, da, _, rfl, .inl ⟨_, Sum.inr z, .inl hda, rfl, (rowK_get (hin hi hz)).symm⟩, h⟩
    · rw [accF_keys] at eD
      have e5 : G' D = some (.lst (((keysL leaf M (LL.map (·.2)) LL.length).map fun n => ((n : Nat) : Int)).map V.int)) := by
        rw [eD, List.map_map]
        rfl
      refine ⟨D, _, rfl, .inl (.inl e5), ?_⟩
      rw [cast_sumN]
      exact q G' fun b o e => s4 _ _ (s3 _ _ (s2 _ _ e))
end
end Kl

set_option maxRecDepth 100000
set_option maxHeartbeats 4000000
namespace Kl
open PySem PySem.Spec PyProof.Rows L2 Gx Mx
theorem pool_ok {z : Str} (h : z ∈ POOL) : PyData.strOk z = true := names_low (pool_name h)
theorem ix_listK {X : Cx} {K : PySem.W.Frag} (hk : X.K = K) : IxR X (rIxL K) := by
  subst hk
  exact ix_list
section
variable {P : Program} {w : World} {K : PySem.W.Frag} {mg : Str → Option Value} {base : Heap}
/-! ### the law's own sizes -/
def spSizes : Sp := fun vs H Q _ => ∃ (pl mk : Addr) (leaf : Str) (kvs : List (Key × V)) (M M1 : Mak) (b : Nat), vs = [V.ref pl, V.int (b : Nat)] ∧ b ≤ 402 ∧ H pl = some (.dK (bookK leaf mk)) ∧ H mk = some (.dK kvs) ∧ MakAt H kvs M ∧ Vld leaf M ∧ OrdOf M M1 ∧
  ∀ (p : Addr) (ds : List Addr) (H' : Hp), Same H H' → H p = none → H' p = some (.lst (ds.map V.ref)) → ds.length = b + 1 → RowsAt H' leaf M1 ds → Q (.ref p) H'
abbrev NLS : List Str := ["_law_plain", "_law_bound", "_law_found", "_law_rank", "_law_here", "_law_name", "_law_parts", "_law_part"]
theorem ok_sizes {f : Addr} {fd : FuncData} (F : Fun K "_law_sizes" "_law_sizes" s_law_sizes f fd) (T : Top K mg) : FnOk P w K mg base CX0 1 f fd ["_law_plain", "_law_bound"] spSizes := by
  refine F.ok sc_law_sizes (fun vs H Q E h => ?_) (fun cdv A outer s H vs Q E hr h => ?_)
  · obtain ⟨pl, mk, leaf, kvs, M, M1, b, rfl, _⟩ := h
    rfl
  · obtain ⟨pl, mk, leaf, kvs, M, M1, b, rfl, hb, hpl, hmk, hM, hV, hO, q⟩ := h
    have hu := hu_of hr
    refine ⟨_, pss_cut (ps_set (i := 2) sc_law_sizes.nd rfl (.inr rfl) (pe_lst (pa_cons (pe_disp (pps_cons (pe_dget hu (pv 0) pe_str (fun _ _ => rfl)) pe_int pps_nil) rfl rfl (by decide) (by decide)) pa_nil)))
      (pss_cut (ps_for PassesOwn.never rfl (pi_range1 (by rfl) T.b_range (pa_cons (pv 1) pa_nil)) (pg_name (i := 3) sc_law_sizes.nd rfl (.inr rfl))
        (pss_cut (ps_set (i := 4) sc_law_sizes.nd rfl (.inl rfl) pe_dnewK)
        (pss_cut (ps_for PassesOwn.never rfl (pi_list (pe_callB (call_sortedD rfl) (by rfl) T.b_sorted (by decide +kernel) (pa_cons (pe_dget hu (pv 0) pe_str (fun _ _ => rfl)) pa_nil))) (pg_name (i := 5) sc_law_sizes.nd rfl (.inl rfl))
          (pss_cut (ps_set (i := 6) sc_law_sizes.nd rfl (.inl rfl) (pe_dget hu (pe_dget hu (pv 0) pe_str (fun _ _ => rfl)) (pv 5) (fun _ _ => rfl)))
          (pss_one (ps_if (pt_cmpR (op_eqD hr.units) (pe_lc (own := [("_law_part", 7)]) (g := gName 7) rfl sc_law_sizes.nd (pi_tup (pv 6))
                (blkOk_by (N := NLS) (sc := defScope s_law_sizes) (by decide +kernel)) (fun _ _ _ _ _ => pg_name (i := 7) sc_law_sizes.nd rfl (.inl rfl))
                (fun _ _ _ _ _ => pts_one (pt_cmp (pc_dnotin hu (pv 7) (pe_ix (ix_listK (K := K) (by exact rfl)) (pv 2) (pv 3) (fun _ _ => rfl)))))
                (fun _ _ _ _ _ => pv 7)) (pe_lst pa_nil) (by rfl))
            (pss_one (ps_asg (pe_callB (cr_sum rfl) (by rfl) T.b_sum (by decide +kernel) (pa_cons (pe_lc (own := [("_law_part", 7)]) (g := gName 7) (tt := tYes) rfl sc_law_sizes.nd (pi_tup (pv 6))
                (blkOk_by (N := NLS) (sc := defScope s_law_sizes) (by decide +kernel)) (fun _ _ _ _ _ => pg_name (i := 7) sc_law_sizes.nd rfl (.inl rfl)) (fun _ _ _ _ _ => pts_nil)
                (fun _ _ _ _ _ => pe_dget hu (pe_ix (ix_listK (K := K) (by exact rfl)) (pv 2) (pv 3) (fun _ _ => rfl)) (pv 7) (fun _ _ => rfl))) pa_nil)) (pg_sub (pv 4) (pv 5) (set_dict hu)))) pss_nil))))
        (pss_one (ps_expr (pe_bm PySem.F.plainAttrs_list PySem.F.slot_list_append PySem.F.type_list_append mt_append (pv 2) (pa_cons (pv 4) pa_nil)))))))
      (pss_one (ps_ret (pv 2)))), ?_⟩
    have big : 100000 ≤ sizeLine := by decide
    have lM := hV.len
    have v1 : Vld leaf M1 := hO.vld hV
    have lM1 := v1.len
    refine ⟨fun σ' G => ∃ (fl b0 : Addr), σ' = [some (.ref pl), some (.int (b : Nat)), some (.ref fl), none, none, none, none, none] ∧ G fl = some (.lst [.ref b0]) ∧ G b0 = some (.dK (rowK (rowsR leaf M1 0))) ∧ Same H G ∧ H fl = none ∧ H b0 = none, ?_, ?_⟩
    · refine fun b0 nb0 => ?_
      have hpl1 : (upd H b0 (.dK [])) pl = some (.dK (bookK leaf mk)) := by rw [upd_ne (ne_of_none hpl nb0)]; exact hpl
      refine ⟨_, rfl, pl, .str leaf, rfl, .inl ⟨_, Sum.inr "leaf", .inl hpl1, rfl, (book_leaf leaf mk).symm⟩, upd_same, [(Sum.inr leaf, V.int 1)], rfl, by show 1 ≤ 15; omega, by show 1 ≤ sizeLine; omega, fun fl nfl => ?_⟩
      have e1 : mergeK [] [((Sum.inr leaf : Key), V.int 1)] = rowK (rowsR leaf M1 0) := rfl
      rw [e1] at nfl ⊢
      have s1 : Same H (upd (upd H b0 (.dK [])) b0 (.dK (rowK (rowsR leaf M1 0)))) := fun b o e => by
        rw [upd_ne (ne_of_none e nb0), upd_ne (ne_of_none e nb0)]
        exact e
      have s2 := same_new (o := .lst [V.ref b0]) s1 nfl
      refine ⟨fl, b0, rfl, upd_same, ?_, s2, s1.free nfl, nb0⟩
      rw [upd_ne (ne_of_none upd_same nfl)]
      exact upd_same
    rintro σ' G ⟨fl, b0, rfl, efl, eb0, s0, nfl, nb0⟩
    refine ⟨fun σ' G => ∃ (ds : List Addr) (y3 y4 y5 y6 : Option V), σ' = [some (.ref pl), some (.int (b : Nat)), some (.ref fl), y3, y4, y5, y6, none] ∧ G fl = some (.lst (ds.map V.ref)) ∧ ds.length = b + 1 ∧ RowsAt G leaf M1 ds ∧ Same H G, ?_, ?_⟩
    · refine ⟨_, rfl, _, rfl, by omega, by omega, ?_⟩
      rw [Int.toNat_natCast]
      refine for_range (lo := 0) (fun i σ' G => ∃ (ds : List Addr) (y3 y4 y5 y6 : Option V), σ' = [some (.ref pl), some (.int (b : Nat)), some (.ref fl), y3, y4, y5, y6, none] ∧ G fl = some (.lst (ds.map V.ref)) ∧ ds.length = i + 1 ∧ RowsAt G leaf M1 ds ∧ Same H G)
        ⟨[b0], none, none, none, none, rfl, efl, rfl, ?_, s0⟩ (fun i σ' G hi hP => ?_) (fun σ' G hP => hP)
      · intro i a ha
        have hi : i = 0 := by
          have := (List.getElem?_eq_some_iff.mp ha).1
          rw [List.length_singleton] at this
          omega
        subst hi
        cases ha
        exact eb0
      obtain ⟨ds, y3, y4, y5, y6, rfl, eF, hl, hR, sm⟩ := hP
      -- an empty dict
      refine ⟨fun σ' G' => ∃ hh : Addr, σ' = [some (.ref pl), some (.int (b : Nat)), some (.ref fl), some (.int (0 + (i : Nat))), some (.ref hh), y5, y6, none] ∧ G' hh = some (.dK []) ∧ G hh = none ∧ Same G G', ?_, ?_⟩
      · exact fun hh nhh => ⟨hh, rfl, upd_same, nhh, same_new (Same.refl G) nhh⟩
      rintro σ' G2 ⟨hh, rfl, ehh, nhh, s2⟩
      have hrow : ∃ a, ds[i]? = some a ∧ G a = some (.dK (rowK (rowsR leaf M1 i))) := ⟨_, List.getElem?_eq_getElem (by omega), hR i _ (List.getElem?_eq_getElem (by omega))⟩
      obtain ⟨ra, hra, era⟩ := hrow
      generalize hRR : rowsR leaf M1 i = R at era
      have efG := eF
      have fl_free : H fl = none := nfl
      have nhf : hh ≠ fl := fun z => by rw [z, eF] at nhh; cases nhh
      have nhr : hh ≠ ra := fun z => by rw [z, era] at nhh; cases nhh
      -- the names, one by one
      refine ⟨fun σ' G' => ∃ (y5 y6 : Option V), σ' = [some (.ref pl), some (.int (b : Nat)), some (.ref fl), some (.int (0 + (i : Nat))), some (.ref hh), y5, y6, none] ∧ G' hh = some (.dK (rowK (aboveR M1 R))) ∧ SameX hh G2 G', ?_, ?_⟩
      · have hpl2 := s2 _ _ (sm _ _ hpl)
        have hmk2 := s2 _ _ (sm _ _ hmk)
        have hM2 : MakAt G2 kvs M := hM.same fun _ _ h => (h.mono sm).mono s2
        refine ⟨_, rfl, pl, .ref mk, rfl, .inl ⟨_, Sum.inr "makings", .inl hpl2, rfl, (book_mak leaf mk).symm⟩, mk, kvs, keysOf M, rfl, .inl hmk2, hM2.keys, by unfold keysOf; rw [List.length_map]; omega, fun ys sp hperm hsrt nsp => ?_⟩
        have eys : ys = keysOf M1 := sorted_same hsrt hO.srt (hperm.nodup_iff.mpr hV.nd) hO.nd fun z => by rw [hperm.mem_iff, hO.keys]
        subst eys
        have s3 := same_new (o := .lst ((keysOf M1).map V.str)) (Same.refl G2) nsp
        have nsh : sp ≠ hh := fun z => by rw [z, ehh] at nsp; cases nsp
        have esp : (upd G2 sp (.lst ((keysOf M1).map V.str))) sp = some (.lst ((keysOf M1).map V.str)) := upd_same
        generalize upd G2 sp (.lst ((keysOf M1).map V.str)) = G3 at s3 esp
        refine ⟨sp, rfl, ⟨_, .inl (.inl esp)⟩, ?_⟩
        refine for_it (walk_list (K := K) (a := sp) (xs := (keysOf M1).map V.str)) (fun j σ' G' => ∃ (y5 y6 : Option V), σ' = [some (.ref pl), some (.int (b : Nat)), some (.ref fl), some (.int (0 + (i : Nat))), some (.ref hh), y5, y6, none] ∧ G' hh = some (.dK (rowK (aboveR (M1.take j) R))) ∧ SameX hh G3 G')
          ⟨_, _, rfl, s3 _ _ ehh, SameX.refl hh G3⟩ (fun j σ' G' _ h => by obtain ⟨_, _, _, _, sx⟩ := h; exact .inl (.inl (sx _ _ nsh esp))) (fun j v σ' Gx G' hj h hy => ?_) (fun σ' G' h => ?_)
        · obtain ⟨y5, y6, rfl, eH, sx⟩ := h
          obtain ⟨rfl, hv⟩ := hy
          obtain ⟨z, hz, rfl⟩ := at_texts hv
          obtain ⟨m, hmj, rfl⟩ : ∃ m, M1[j]? = some m ∧ m.1 = z := by
            unfold keysOf at hz
            rw [List.getElem?_map] at hz
            exact Option.map_eq_some_iff.mp hz
          have hmM := List.mem_of_getElem? hmj
          obtain ⟨p1, p2, p3, p4⟩ := v1.parts m hmM
          have hlk : lookM M m.1 = some m.2 := by rw [← hO.look, lookM_mem hO.nd hmM]
          have hkM : m.1 ∈ keysOf M := (hO.keys _).mp (List.mem_map.mpr ⟨m, hmM, rfl⟩)
          have sG : ∀ b o, G b = some o → G' b = some o := fun b o e => sx _ _ (ne_of_none e nhh) (s3 _ _ (s2 _ _ e))
          have hpl' := sG _ _ (sm _ _ hpl)
          have hmk' := sG _ _ (sm _ _ hmk)
          have hM' : MakAt G' kvs M := hM.same fun a xs h => h.at fun o e => sG _ _ (sm _ _ e)
          obtain ⟨ps, a, e1, e2, e3⟩ := hM'.key hkM
          rw [hlk] at e1
          cases e1
          have eF' := sG _ _ eF
          have era' := sG _ _ era
          have hat : atI (ds.map V.ref) ((0 : Int) + (i : Nat)) = some (.ref ra) := by
            unfold atI ixN
            rw [if_pos (by omega), List.length_map, if_pos (by omega)]
            show (ds.map V.ref)[((0 : Int) + (i : Nat)).toNat]? = _
            rw [Int.zero_add, Int.toNat_natCast, List.getElem?_map, hra]
            rfl
          refine ⟨fun σ' G4 => σ' = [some (.ref pl), some (.int (b : Nat)), some (.ref fl), some (.int (0 + (i : Nat))), some (.ref hh), some (.str m.1), some (.ref a), none] ∧ G4 = G', ?_, ?_⟩
          · exact ⟨_, rfl, pl, .ref mk, rfl, .inl ⟨_, Sum.inr "makings", .inl hpl', rfl, (book_mak leaf mk).symm⟩, _, rfl, mk, _, rfl, .inl ⟨kvs, Sum.inr m.1, .inl hmk', rfl, e2.symm⟩, rfl, rfl⟩
          rintro σ' G4 ⟨rfl, rfl⟩
          -- the parts that are not there
          refine ⟨_, rfl, a, rfl, ⟨_, e3.sq⟩, fun D hD => ?_⟩
          refine lc_it (g := gName 7) (vs := [7]) (walk_tup (K := K) (a := a) (xs := m.2.map V.str)) (fun k G5 => G5 D = some (.lst (((m.2.take k).filter fun p => !decide (p ∈ keysR R)).map V.str)) ∧ Same G4 G5) ⟨upd_same, same_new (Same.refl G4) hD⟩ (fun k G5 _ h => (e3.mono h.2).sq) (fun k v Gx G5 hk h hy => ?_) (fun G5 h => ?_)
          · obtain ⟨eD, sm5⟩ := h
            obtain ⟨rfl, hv2⟩ := hy
            obtain ⟨z, hz, rfl⟩ := at_texts hv2
            refine ⟨rfl, _, rfl, _, rfl, _, rfl, fl, _, _, _, rfl, rfl, .inl (.inl (sm5 _ _ eF')), hat, ra, _, rfl, .inl ⟨_, Sum.inr z, .inl (sm5 _ _ era'), rfl, rfl⟩, ?_⟩
            rw [rowK_some, take_snoc hz, List.filter_append]
            by_cases c : z ∈ keysR R
            · rw [decide_eq_true c]
              have e0 : [z].filter (fun p => !decide (p ∈ keysR R)) = [] := by simp [c]
              rw [e0, List.append_nil]
              refine ⟨_, rfl, ?_⟩
              show (if (!true) = true then _ else _)
              rw [if_neg (by decide)]
              exact ⟨eD, sm5⟩
            · rw [decide_eq_false c]
              have e0 : [z].filter (fun p => !decide (p ∈ keysR R)) = [z] := by simp [c]
              rw [e0]
              refine ⟨_, rfl, ?_⟩
              show (if (!false) = true then _ else _)
              rw [if_pos (by decide)]
              refine ⟨_, rfl, _, eD, ?_, ?_, fun b u e => by rw [upd_ne (ne_of_none e hD)]; exact sm5 b u e⟩
              · rw [List.length_map]
                have := List.length_filter_le (fun p => !decide (p ∈ keysR R)) (m.2.take k)
                rw [List.length_take] at this
                exact Nat.lt_of_le_of_lt (show _ ≤ 3 by omega) (by decide)
              · rw [upd_same, List.map_append]
                rfl
          obtain ⟨eD, sm5⟩ := h
          rw [List.length_map, List.take_length] at eD
          refine ⟨by show 0 ≤ sizeLine; omega, fun l0 nl0 => ?_⟩
          have s6 := same_new (o := .lst []) sm5 nl0
          have eD6 : (upd G5 l0 (.lst [])) D = some (.lst ((m.2.filter fun p => !decide (p ∈ keysR R)).map V.str)) := by
            rw [upd_ne (ne_of_none eD nl0)]
            exact eD
          have okP : SeqAt.shaped (.list (tD (m.2.filter fun p => !decide (p ∈ keysR R)))) = true := shaped_texts fun z hz => pool_ok (v1.part hmM (List.mem_filter.mp hz).1)
          refine ⟨.list (tD (m.2.filter fun p => !decide (p ∈ keysR R))), .list (tD []), .lst (.inl (.inl eD6)) (dp_texts _), .lst (.inl (.inl upd_same)) (dp_texts []), okP, shaped_texts (fun z hz => nomatch hz), ?_⟩
          rw [PyData.eqv, eqv_texts]
          have ef : decide ((m.2.filter fun p => !decide (p ∈ keysR R)) = []) = fitsR (keysR R) m.2 := by
            rw [Bool.eq_iff_iff, decide_eq_true_iff, List.filter_eq_nil_iff]
            unfold fitsR
            rw [List.all_eq_true]
            constructor
            · intro h z hz
              have := h z hz
              simpa using this
            · intro h z hz
              have := h z hz
              simpa using this
          rw [ef]
          have et : aboveR (M1.take (j + 1)) R = aboveR (M1.take j) R ++ (if fitsR (keysR R) m.2 = true then [(m.1, (m.2.map (getR R)).sum)] else []) := by
            unfold aboveR
            rw [take_snoc hmj, List.filter_append, List.map_append]
            by_cases c : fitsR (keysR R) m.2 = true
            · simp [c]
            · simp [c]
          have eH6 := s6 _ _ eH
          generalize upd G5 l0 (.lst []) = G6 at s6 eH6
          refine ⟨_, rfl, ?_⟩
          refine ite2 (fun c => ?_) (fun c => ?_)
          · rw [if_pos c] at et
            have e36 := e3.mono s6
            refine ⟨_, rfl, a, rfl, ⟨_, e36.sq⟩, fun D4 hD4 => ?_⟩
            refine lc_it (g := gName 7) (tt := tYes) (vs := [7]) (walk_tup (K := K) (a := a) (xs := m.2.map V.str)) (fun k G7 => G7 D4 = some (.lst (((m.2.take k).map fun p => ((getR R p : Nat) : Int)).map V.int)) ∧ Same G6 G7) ⟨upd_same, same_new (Same.refl G6) hD4⟩ (fun k G7 _ h => (e36.mono h.2).sq) (fun k v Gx G7 hk h hy => ?_) (fun G7 h => ?_)
            · obtain ⟨eD4, sm7⟩ := h
              obtain ⟨rfl, hv2⟩ := hy
              obtain ⟨z, hz, rfl⟩ := at_texts hv2
              have hzR : z ∈ keysR R := of_decide_eq_true (List.all_eq_true.mp c z (List.mem_of_getElem? hz))
              refine ⟨rfl, _, rfl, _, rfl, fl, _, _, _, rfl, rfl, .inl (.inl (sm7 _ _ (s6 _ _ eF'))), hat, _, rfl, ra, _, rfl, .inl ⟨_, Sum.inr z, .inl (sm7 _ _ (s6 _ _ era')), rfl, (rowK_get hzR).symm⟩, _, eD4, ?_, ?_, fun b u e => by rw [upd_ne (ne_of_none e hD4)]; exact sm7 b u e⟩
              · rw [List.length_map, List.length_map, List.length_take]
                exact Nat.lt_of_le_of_lt (show _ ≤ 3 by omega) (by decide)
              · rw [upd_same, take_snoc hz, List.map_append, List.map_append]
                rfl
            · obtain ⟨eD4, sm7⟩ := h
              rw [List.length_map, List.take_length] at eD4
              refine ⟨D4, _, rfl, .inl (.inl eD4), ?_⟩
              rw [cast_sum]
              have hnew : m.1 ∉ keysR (aboveR (M1.take j) R) := by
                rw [keys_above]
                intro hin
                have h1 := (above_sub (M1.take j) (keysR R)).subset hin
                unfold keysOf at h1
                rw [List.map_take] at h1
                exact take_not hO.nd (show (M1.map (·.1))[j]? = some m.1 by rw [List.getElem?_map, hmj]; rfl) h1
              have hlen : (aboveR (M1.take j) R).length ≤ 6 := by
                unfold aboveR
                rw [List.length_map]
                have := List.length_filter_le (fun m => fitsR (keysR R) m.2) (M1.take j)
                rw [List.length_take] at this
                omega
              refine ⟨_, rfl, _, rfl, hh, _, rfl, .inl ⟨_, Sum.inr m.1, sm7 _ _ eH6, rfl, by rw [rowK_len]; omega, rfl⟩, _, _, rfl, ?_, fun b o n e => by rw [upd_ne n]; exact sm7 _ _ (s6 _ _ (sx b o n e))⟩
              rw [upd_same, putK_new _ (by rw [rowK_look, lookR_no hnew]; rfl), et]
              unfold rowK
              rw [List.map_append]
              rfl
          · rw [if_neg c, List.append_nil] at et
            rw [et]
            exact ⟨_, _, rfl, eH6, fun b o n e => s6 _ _ (sx b o n e)⟩
        · obtain ⟨y5, y6, rfl, eH, sx⟩ := h
          rw [List.length_map, show (keysOf M1).length = M1.length by unfold keysOf; rw [List.length_map], List.take_length] at eH
          exact ⟨_, _, rfl, eH, fun b o n e => sx _ _ n (s3 _ _ e)⟩
      rintro σ' G3 ⟨y5, y6, rfl, eH3, sx3⟩
      have eF3 := sx3 _ _ nhf.symm (s2 _ _ eF)
      refine ⟨_, rfl, ⟨.inl ⟨rfl, _, .inl (.inl eF3)⟩, ?_⟩⟩
      refine ⟨_, rfl, ?_⟩
      have sG3 : ∀ b o, G b = some o → G3 b = some o := fun b o e => sx3 _ _ (ne_of_none e nhh) (s2 _ _ e)
      refine ⟨fl, _, _, rfl, rfl, eF3, by rw [List.length_map]; exact Nat.lt_of_le_of_lt (show _ ≤ 403 by omega) (by decide), ds ++ [hh], _, _, _, _, rfl, ?_, by rw [List.length_append, List.length_singleton, hl], ?_, fun b o e => ?_⟩
      · rw [upd_same, List.map_append]
        rfl
      · refine RowsAt.snoc (H := G3) (fun k a e => sG3 _ _ (hR k a e)) (fun a kv e => ?_) ?_
        · rw [upd_ne (fun z => by rw [z, eF3] at e; cases e)]
          exact e
        · rw [upd_ne nhf, hl, eH3, ← hRR]
          rfl
      · rw [upd_ne (ne_of_none e nfl)]
        exact sG3 _ _ (sm _ _ e)
    rintro σ' G2 ⟨ds, y3, y4, y5, y6, rfl, eF, hl, hR, sm⟩
    exact ⟨_, rfl, q fl ds G2 sm nfl eF hl hR⟩
end
end Kl

set_option maxRecDepth 100000
set_option maxHeartbeats 4000000
namespace Kl
open PySem PySem.Spec PyProof.Rows L2 Gx Mx
/-! ### one more making -/
theorem merge_new : ∀ (more kvs : List (Key × V)), (more.map (·.1)).Nodup → (∀ k ∈ more.map (·.1), valV kvs k = none) → mergeK kvs more = kvs ++ more
  | [], kvs, _, _ => by unfold mergeK; rw [List.foldl_nil, List.append_nil]
  | p :: r, kvs, nd, hn => by
    rw [List.map_cons, List.nodup_cons] at nd
    have e : mergeK kvs (p :: r) = mergeK (putK kvs p.1 p.2) r := rfl
    have e0 : valV kvs p.1 = none := hn _ (by rw [List.map_cons]; exact List.mem_cons_self)
    rw [e, putK_new _ e0, merge_new r _ nd.2 fun k hk => ?_, List.append_assoc]
    · rfl
    · have hk0 := hn k (by rw [List.map_cons]; exact List.mem_cons_of_mem _ hk)
      rw [valV_snoc _ _ _ _ e0, if_neg (fun (q : k = p.1) => nd.1 (by rw [← q]; exact hk)), hk0]
theorem merge_nil {more : List (Key × V)} (nd : (more.map (·.1)).Nodup) : mergeK [] more = more := merge_new more [] nd fun _ _ => rfl
/-- M with ps for z -/
def putM (M : Mak) (z : Str) (ps : List Str) : Mak := if z ∈ keysOf M then M.map fun m => if m.1 = z then (m.1, ps) else m else M ++ [(z, ps)]
theorem putM_keys (M : Mak) (z : Str) (ps : List Str) : keysOf (putM M z ps) = if z ∈ keysOf M then keysOf M else keysOf M ++ [z] := by
  unfold putM
  by_cases c : z ∈ keysOf M
  · rw [if_pos c, if_pos c]
    unfold keysOf
    rw [List.map_map]
    refine List.map_congr_left fun m _ => ?_
    show (if m.1 = z then (m.1, ps) else m).1 = m.1
    split <;> rfl
  · rw [if_neg c, if_neg c]
    unfold keysOf
    rw [List.map_append]
    rfl
theorem look_rep {z : Str} {ps : List Str} : ∀ {M : Mak} {y : Str}, lookM (M.map fun m => if m.1 = z then (m.1, ps) else m) y = if y = z then (lookM M y).map fun _ => ps else lookM M y
  | [], y => by
    show lookM [] y = _
    split <;> rfl
  | m :: M, y => by
    rw [List.map_cons, lookM_cons, lookM_cons, look_rep (M := M)]
    by_cases c : m.1 = z
    · rw [if_pos c]
      by_cases d : m.1 = y
      · rw [if_pos d, if_pos d, if_pos (d.symm.trans c)]
        rfl
      · rw [if_neg d, if_neg d]
    · rw [if_neg c]
      by_cases d : m.1 = y
      · rw [if_pos d, if_pos d, if_neg (fun q => c (d.trans q))]
      · rw [if_neg d, if_neg d]
theorem look_app : ∀ {M : Mak} {z y : Str} {ps : List Str}, z ∉ keysOf M → lookM (M ++ [(z, ps)]) y = if y = z then some ps else lookM M y
  | [], z, y, ps, _ => by
    rw [List.nil_append, lookM_cons]
    by_cases c : z = y
    · rw [if_pos c, if_pos c.symm]
    · rw [if_neg c, if_neg (fun q => c q.symm)]
  | m :: M, z, y, ps, h => by
    have h' : ¬ z = m.1 ∧ z ∉ keysOf M := by
      constructor
      · intro q
        exact h (by rw [q]; exact List.mem_cons_self)
      · intro q
        exact h (List.mem_cons_of_mem _ q)
    rw [List.cons_append, lookM_cons, lookM_cons, look_app h'.2]
    by_cases d : m.1 = y
    · rw [if_pos d, if_pos d, if_neg (fun q => h'.1 (q.symm.trans d.symm))]
    · rw [if_neg d, if_neg d]
theorem putM_look (M : Mak) (z : Str) (ps : List Str) (y : Str) : lookM (putM M z ps) y = if y = z then some ps else lookM M y := by
  unfold putM
  by_cases c : z ∈ keysOf M
  · rw [if_pos c, look_rep]
    by_cases d : y = z
    · rw [if_pos d, if_pos d, d]
      obtain ⟨qs, e⟩ := lookM_in c
      rw [e]
      rfl
    · rw [if_neg d, if_neg d]
  · rw [if_neg c, look_app c]
theorem putM_nd {M : Mak} {z : Str} {ps : List Str} (nd : (keysOf M).Nodup) : (keysOf (putM M z ps)).Nodup := by
  rw [putM_keys]
  by_cases c : z ∈ keysOf M
  · rw [if_pos c]
    exact nd
  · rw [if_neg c, List.nodup_append]
    refine ⟨nd, List.nodup_cons.mpr ⟨List.not_mem_nil, List.nodup_nil⟩, fun a ha b hb => ?_⟩
    rw [List.mem_singleton] at hb
    subst hb
    exact fun q => c (by rw [← q]; exact ha)
theorem putM_mem {M : Mak} {z : Str} {ps : List Str} (y : Str) : y ∈ keysOf (putM M z ps) ↔ y = z ∨ y ∈ keysOf M := by
  rw [putM_keys]
  by_cases c : z ∈ keysOf M
  · rw [if_pos c]
    exact ⟨.inr, fun h => h.elim (fun e => by rw [e]; exact c) id⟩
  · rw [if_neg c, List.mem_append, List.mem_singleton]
    exact Or.comm
theorem putM_vld {leaf z : Str} {M : Mak} {ps : List Str} (v : Vld leaf M) (hz : z = leaf ∨ z ∈ keysOf M) (hs : sortedS ps = true) (h2 : 2 ≤ ps.length) (h3 : ps.length ≤ 3) (hp : ∀ p ∈ ps, p = leaf ∨ p ∈ keysOf M) : Vld leaf (putM M z ps) := by
  have up : ∀ {p : Str}, p = leaf ∨ p ∈ keysOf M → p = leaf ∨ p ∈ keysOf (putM M z ps) := fun h => h.imp id fun q => (putM_mem _).mpr (.inr q)
  refine ⟨v.lf, fun y hy => ?_, putM_nd v.nd, fun m hm => ?_, fun ns hn h => v.few ns hn fun y hy => ?_⟩
  · rcases (putM_mem y).mp hy with rfl | h
    · rcases hz with rfl | h
      · exact v.lf
      · exact v.keys _ h
    · exact v.keys _ h
  · have e := lookM_mem (putM_nd v.nd) hm
    rw [putM_look] at e
    by_cases c : m.1 = z
    · rw [if_pos c] at e
      cases e
      exact ⟨hs, h2, h3, fun p q => up (hp p q)⟩
    · rw [if_neg c] at e
      obtain ⟨p1, p2, p3, p4⟩ := v.parts _ (lookM_some e)
      exact ⟨p1, p2, p3, fun p q => up (p4 p q)⟩
  · rcases h y hy with h | h
    · exact .inl h
    · rcases (putM_mem y).mp h with rfl | h
      · exact hz
      · exact .inr h
theorem MakAt.putM {H : Hp} {kvs : List (Key × V)} {M : Mak} {z : Str} {ps : List Str} {t : Addr} (h : MakAt H kvs M) (ht : TupZ H t (ps.map V.str)) : MakAt H (putK kvs (Sum.inr z) (.ref t)) (Kl.putM M z ps) := by
  by_cases c : z ∈ keysOf M
  · have e : (kvs.any fun kv => decide (kv.1 = Sum.inr z)) = true := by
      have hk : Sum.inr z ∈ kvs.map (·.1) := by
        rw [h.keys]
        exact List.mem_map.mpr ⟨z, c, rfl⟩
      obtain ⟨kv, hkv, e⟩ := List.mem_map.mp hk
      exact List.any_eq_true.mpr ⟨kv, hkv, decide_eq_true e⟩
    unfold putK Kl.putM
    rw [if_pos e, if_pos c]
    clear e c
    unfold MakAt at h ⊢
    induction h with
    | nil => exact .nil
    | @cons kv m kvs M h _ ih =>
      obtain ⟨h1, a, h2, h3⟩ := h
      refine .cons ?_ ih
      show (if kv.1 = Sum.inr z then (kv.1, V.ref t) else kv).1 = Sum.inr (if m.1 = z then (m.1, ps) else m).1 ∧ ∃ a, (if kv.1 = Sum.inr z then (kv.1, V.ref t) else kv).2 = V.ref a ∧ TupZ H a ((if m.1 = z then (m.1, ps) else m).2.map V.str)
      by_cases d : m.1 = z
      · have d1 : kv.1 = Sum.inr z := by rw [h1, d]
        rw [if_pos d1, if_pos d]
        exact ⟨h1, t, rfl, ht⟩
      · have d1 : ¬ kv.1 = Sum.inr z := by
          rw [h1]
          exact fun q => d (Sum.inr.inj q)
        rw [if_neg d1, if_neg d]
        exact ⟨h1, a, h2, h3⟩
  · have e := h.put c ht
    unfold Kl.putM
    rw [if_neg c]
    exact e
end Kl

set_option maxRecDepth 100000
/-! ### own rule: a, b, .. = l, l a list of that length -/
namespace L2
open PySem PySem.Spec PyProof.Rows
set_option maxHeartbeats 4000000
section
variable {prog : Program} {w : World} {A : Around} {E : Value → Shared → Prop} {s : Shared}
theorem draw_lst {it l : Addr} {items : Array Value} (hne : l ≠ it) : ∀ (n i : Nat) (s : Shared) (Q : List Value → Shared → Prop), s.heap.IsListIter it l i → s.heap.IsList l items → i + n ≤ items.size →
    (∀ h', h'.IsListIter it l (i + n) → Heap.SameBut it s.heap h' → Q ((items.toList.drop i).take n) { s with heap := h' }) → wpAny (model prog w) A (draw (.ref it) n) Q E s
  | 0, i, s, Q, hit, _, _, hQ => by
    refine wpAny_pure ?_
    have h0 := hQ s.heap hit (Heap.SameBut.refl ..)
    rw [List.take_zero] at h0
    exact h0
  | n + 1, i, s, Q, hit, hl, hle, hQ => by
    have hlt : i < items.size := by omega
    refine wpAny_bind (wpAny_pyNext_list_item hit hl (x := items[i]) (by simp [hlt]) fun g1 hit1 hs1 => ?_)
    refine wpAny_bind (wpAny_holding (draw_lst hne n (i + 1) _ _ hit1 (hl.extBut hs1.extBut hne) (by omega) fun g2 hit2 hs2 => wpAny_pure ?_))
    have ed : items.toList.drop i = items[i] :: items.toList.drop (i + 1) := by
      have hl2 : i < items.toList.length := by simpa using hlt
      rw [List.drop_eq_getElem_cons hl2]
      simp
    have h1 := hQ g2 (by rw [show i + (n + 1) = i + 1 + n by omega]; exact hit2) (hs1.trans hs2)
    rw [ed, List.take_succ_cons] at h1
    exact h1
theorem unpackItems_lst {l : Addr} {items : Array Value} {Q : List Value → Shared → Prop} (hh : A.handled = none) (hl : s.heap.IsList l items)
    (hQ : ∀ h', Heap.ExtBut s.heap.objs.size s.heap h' → Q items.toList { s with heap := h' }) : wpAny (model prog w) A (unpackItems (.ref l) items.size none) Q E s := by
  have hlt : l ≠ s.heap.objs.size := by
    obtain ⟨o, ho, _⟩ := id hl
    exact Nat.ne_of_lt (Heap.lt_size ho)
  unfold unpackItems
  refine wpAny_bind ?_
  unfold notIterableAtAll
  refine wpAny_bind (wpAny_specialOf hl.typeIs F.slot_list_iter.lookup ?_)
  refine wpAny_pure ?_
  simp only [Bool.false_eq_true, if_false]
  refine wpAny_bind (wpAny_holding (wpAny_pyIter_list hl ?_))
  have hl0 : (s.heap.push { cls := .type "list_iterator", data := .fields #[.ref l, .int 0 0] }).IsList l items := hl.at fun o e => Heap.get?_push_of_some _ e
  refine wpAny_bind (wpAny_holding (draw_lst hlt items.size 0 _ _ ⟨_, Heap.get?_push_size _ rfl, rfl, rfl⟩ hl0 (by omega) fun g1 hit1 hs1 => ?_))
  have hall : (items.toList.drop 0).take items.size = items.toList := by
    rw [List.drop_zero]
    exact List.take_of_length_le (by simp)
  rw [hall, if_neg (by simp)]
  have hl1 : g1.IsList l items := hl0.extBut hs1.extBut hlt
  refine wpAny_bind (wpAny_holding (wpAny_pyNext_list_end hh hit1 hl1 (by simp) fun g2 he2 => ?_))
  simp only [Option.isSome_none, Bool.false_eq_true, if_false]
  exact wpAny_pure (hQ g2 fun b o hb e => he2 b o hb (hs1.extBut b o hb (Heap.get?_push_of_some _ e)))
theorem assign_Tuple_lst {env : Env} {elts : List Expr} {x1} {pos : Pos} {l : Addr} {items : Array Value} {Q : Unit → Shared → Prop} (hh : A.handled = none) (hl : s.heap.IsList l items)
    (hn : (assignEach elts env).length = items.size) (hstar : (assignEach elts env).findIdx? (·.1) = none)
    (h : ∀ h', Heap.ExtBut s.heap.objs.size s.heap h' → wpAny (model prog w) A (assignInOrder ((assignEach elts env).map (·.2)) items.toList) Q E { s with heap := h' }) :
    wpAny (model prog w) A (assign (.Tuple elts x1 pos) env (.ref l)) Q E s := by
  rw [assign_Tuple]
  refine wpAny_bind (wpAny_standAt ?_)
  unfold unpack
  rw [hn, hstar]
  exact wpAny_bind (wpAny_holding (unpackItems_lst hh hl h))
end
/-- (a, b, ..) = a list of that length -/
def gLstU (K : PySem.W.Frag) (n : Nat) (t : TGs) : TG := fun v σ H Q => ∃ a xs, v = .ref a ∧ SqL K H a xs ∧ xs.length = n ∧ t xs σ H Q
theorem pg_lstU {X : Cx} {pos : Pos} {es : List Expr} {k : Nat} {t : TGs} {n : Nat} (hc : X.calm = true) (h : PGs X es t)
    (hn : (assignEach es X.env).length = n := by rfl) (hst : (assignEach es X.env).findIdx? (·.1) = none := by rfl) : PG X (.Tuple es k pos) (gLstU X.K n t) := by
  refine ⟨fun pins s σ H v u Q I r hw => ?_⟩
  obtain ⟨a, xs, e1, hq, el, hw⟩ := hw
  subst e1
  cases r
  obtain ⟨its, rv, hl, hz⟩ := I.list hq
  refine assign_Tuple_lst (I.ok.hd hc) hl.isList (by simp [hn, ← el, rv.length]) hst fun h' hx => ?_
  have I1 : Inv X pins σ H { s with heap := h' } := I.kept (t' := s.toks) fun b o e => hx b o (Nat.ne_of_lt (Heap.lt_size e)) e
  exact h.run pins _ σ H xs _ Q I1 (by simpa using rv) hw
end L2

set_option maxRecDepth 100000
set_option maxHeartbeats 4000000
namespace Kl
open PySem PySem.Spec PyProof.Rows L2 Gx Mx
section
variable {X : Cx}
/-! ### a tuple as it is written, whose object is known -/
def tTupZ (t : TA) : TE := fun σ H Q => t σ H fun xs H1 => xs.length ≤ sizeLine ∧ ∀ p H', TupZ H' p xs → H1 p = none → (∀ b, b ≠ p → H' b = H1 b) → Q (.ref p) H'
theorem pe_tupZ {es : List Expr} {t : TA} {x1 : Nat} {pos : Pos} (h : PA X es t) : PE X (.Tuple es x1 pos) (tTupZ t) := by
  refine ⟨fun pins s σ H Q I hq => ?_⟩
  refine wpAny_Tuple_spliced (thn (h.run pos pins s σ H _ I hq) fun us s1 ⟨xs, H1, I1, r, z, q⟩ => ⟨by rw [← r.length]; exact z, ?_⟩)
  have hf : H1 s1.heap.objs.size = none := I1.hok.fresh (Nat.le_refl _)
  refine ⟨.ref s1.heap.objs.size, upd H1 s1.heap.objs.size (.frz { cls := .type "tuple", data := .seq us.toArray } (.tup xs)), I1.laid (t' := s1.toks) (fun b u e => Heap.get?_push_of_some _ e) (Nat.le_refl _) ?_, rfl, q _ _ ⟨_, rfl, upd_same⟩ hf (fun b n => upd_ne n)⟩
  exact ⟨Heap.get?_push_size _ rfl, z, us, r, IsTup.new _ _⟩
end
/-- a dict of makings stands at m -/
def Mkd (H : Hp) (m : Addr) (M : Mak) : Prop := ∃ kvs, H m = some (.dK kvs) ∧ MakAt H kvs M
theorem Mkd.same {H H' : Hp} {m : Addr} {M : Mak} (h : Mkd H m M) (s : Same H H') : Mkd H' m M := by
  obtain ⟨kvs, e, hM⟩ := h
  exact ⟨kvs, s _ _ e, hM.same fun _ _ q => q.mono s⟩
/-- a dict that is being written is done -/
theorem disp_end {G Hk : Hp} {p : Addr} {kvs : List (Key × V)} {M : Mak} (np : G p = none) (s : Same (upd G p (.dK [])) Hk) (hM : MakAt Hk kvs M) : Same G (upd Hk p (.dK kvs)) ∧ Mkd (upd Hk p (.dK kvs)) p M := by
  have e := s _ _ (upd_same : (upd G p (.dK [])) p = _)
  refine ⟨fun b o h => ?_, kvs, upd_same, hM.same fun a xs q => q.at fun o h => ?_⟩
  · have nb := ne_of_none h np
    rw [upd_ne nb]
    exact s _ _ (by rw [upd_ne nb]; exact h)
  · rw [upd_ne (q.ne e fun ob z => by cases z)]
    exact h
theorem vld_in {leaf : Str} {M : Mak} (ks : List Str) (hks : ∀ z ∈ ks, z ∈ POOL) (h6 : ks.length ≤ 6) (hl : leaf ∈ ks) (hk : ∀ z ∈ keysOf M, z ∈ ks) (nd : (keysOf M).Nodup) (hp : ∀ m ∈ M, sortedS m.2 = true ∧ 2 ≤ m.2.length ∧ m.2.length ≤ 3 ∧ ∀ p ∈ m.2, p = leaf ∨ p ∈ keysOf M) : Vld leaf M := by
  refine ⟨hks _ hl, fun z hz => hks _ (hk z hz), nd, hp, fun ns nd' hs => Nat.le_trans (nodup_len nd' (ys := ks) fun z hz => ?_) h6⟩
  rcases hs z hz with rfl | h
  · exact hl
  · exact hk z h
theorem or_mid {t u : TT} {σ : L2.St} {H : Hp} {Q : Bool → Hp → Prop} (B : Bool → Hp → Prop) (h : ∀ Q' : Bool → Hp → Prop, (∀ c H1, B c H1 → Q' c H1) → tOr t u σ H Q') (k : ∀ c H1, B c H1 → Q c H1) : tOr t u σ H Q := h Q k
/-- parts of a making that is right -/
def GoodP (ks ps : List Str) : Prop := sortedS ps = true ∧ 2 ≤ ps.length ∧ ps.length ≤ 3 ∧ ∀ p ∈ ps, p ∈ ks
/-- the makings while they are drawn: j of the kinds are done -/
structure DrM (ks : List Str) (a : Str) (j : Nat) (M : Mak) : Prop where
  nd : (keysOf M).Nodup
  sub : ∀ z ∈ keysOf M, z ∈ ks
  all : ∀ z ∈ ks, z = a ∨ z ∈ keysOf M
  ok : ∀ z ps, lookM M z = some ps → z ∈ ks.take j → GoodP ks ps
  no : j = 0 → a ∉ keysOf M
theorem DrM.put {ks : List Str} {a z : Str} {j : Nat} {M : Mak} {ps : List Str} (h : DrM ks a j M) (hz : ks[j]? = some z) (g : GoodP ks ps) : DrM ks a (j + 1) (putM M z ps) := by
  refine ⟨putM_nd h.nd, fun y hy => ?_, fun y hy => ?_, fun y qs e hy => ?_, fun e => absurd e (Nat.succ_ne_zero _)⟩
  · rcases (putM_mem y).mp hy with rfl | q
    · exact List.mem_of_getElem? hz
    · exact h.sub y q
  · exact (h.all y hy).imp id fun q => (putM_mem y).mpr (.inr q)
  · rw [putM_look] at e
    by_cases c : y = z
    · rw [if_pos c] at e
      cases e
      exact g
    · rw [if_neg c] at e
      rw [take_snoc hz, List.mem_append, List.mem_singleton] at hy
      rcases hy with hy | hy
      · exact h.ok y qs e hy
      · exact absurd hy c
theorem DrM.skip {ks : List Str} {a : Str} {j : Nat} {M : Mak} (h : DrM ks a j M) (hz : ks[j]? = some a) (h0 : ks[0]? = some a) : DrM ks a (j + 1) M := by
  refine ⟨h.nd, h.sub, h.all, fun y qs e hy => ?_, fun e => absurd e (Nat.succ_ne_zero _)⟩
  rw [take_snoc hz, List.mem_append, List.mem_singleton] at hy
  rcases hy with hy | rfl
  · exact h.ok y qs e hy
  · by_cases c : j = 0
    · have := h.no c
      rw [lookM_none.mpr this] at e
      cases e
    · refine h.ok y qs e (List.mem_of_getElem? (i := 0) ?_)
      rw [List.getElem?_take, if_pos (by omega)]
      exact h0
theorem DrM.vld {ks : List Str} {a : Str} {M : Mak} (h : DrM ks a ks.length M) (hks : ∀ z ∈ ks, z ∈ POOL) (h6 : ks.length ≤ 6) (ha : a ∈ ks) : Vld a M := by
  refine vld_in ks hks h6 ha h.sub h.nd fun m hm => ?_
  obtain ⟨g1, g2, g3, g4⟩ := h.ok m.1 m.2 (lookM_mem h.nd hm) (by rw [List.take_length]; exact h.sub _ (List.mem_map.mpr ⟨m, hm, rfl⟩))
  exact ⟨g1, g2, g3, fun p hp => h.all p (g4 p hp)⟩
theorem srt2 (a : Str) : sortedS [a, a] = true := (sortedS_iff _).mpr (by simp [leS_refl])
theorem srt3 (a : Str) : sortedS [a, a, a] = true := (sortedS_iff _).mpr (by simp [leS_refl])
theorem eight_in {z : Str} (h : z ∈ EIGHT) : z ∈ POOL := by
  have e : EIGHT.all (fun z => decide (z ∈ POOL)) = true := by decide +kernel
  exact of_decide_eq_true (List.all_eq_true.mp e z h)
theorem same_k {H H' : Hp} {p : Addr} (n : H p = none) (k : ∀ b, b ≠ p → H' b = H b) : Same H H' := fun b o e => by rw [k b (ne_of_none e n)]; exact e
section
variable {P : Program} {w : World} {K : PySem.W.Frag} {mg : Str → Option Value} {base : Heap}
/-! ### _law_drawn_makings -/
def spDM : Sp := fun vs H Q _ => ∃ d : Addr, vs = [.ref d] ∧ DiceAt H d ∧
  ∀ (pl mk : Addr) (leaf : Str) (kvs : List (Key × V)) (M : Mak) (H' : Hp), H' pl = some (.dK (bookK leaf mk)) → H' mk = some (.dK kvs) → MakAt H' kvs M → Vld leaf M → SameX d H H' → DiceAt H' d → Q (.ref pl) H'
abbrev NDM : List Str := ["_law_dice_here", "_law_way", "_law_names", "_law_a", "_law_b", "_law_c", "_law_some", "_law_found", "_law_name", "_law_kinds", "_law_turn"]
theorem ok_dm {f : Addr} {fd : FuncData} (F : Fun K "_law_drawn_makings" "_law_drawn_makings" s_law_drawn_makings f fd) (T : Top K mg) : FnOk P w K mg base CX0 4 f fd ["_law_dice_here"] spDM := by
  have cr : Cal P w K mg base 3 "_law_roll" ["_law_dice_here", "_law_total"] spRoll := (T.d_law_roll.cal fun f fd F => ok_roll F T).mono (by decide)
  have cp : Cal P w K mg base 3 "_law_pick" ["_law_dice_here", "_law_items"] (spPick K) := (T.d_law_pick.cal fun f fd F => ok_pick F T).mono (by decide)
  have cn : Cal P w K mg base 3 "_law_pool_names" ["_law_dice_here", "_law_many"] spPN := T.d_law_pool_names.cal fun f fd F => ok_pn F T
  refine F.ok sc_law_drawn_makings (fun vs H Q E h => ?_) (fun cdv A outer s H vs Q E hr h => ?_)
  · obtain ⟨d, rfl, _⟩ := h
    rfl
  · obtain ⟨d, rfl, hd, q⟩ := h
    have hu := hu_of hr
    refine ⟨_, pss_cut (ps_par (i := 1) (j := 2) rfl sc_law_drawn_makings.nd rfl rfl (by decide) rfl rfl (pa_cons (pe_cal cr hr (by rfl) (pa_cons (pv 0) (pa_cons pe_int pa_nil))) (pa_cons (pe_cal cn hr (by rfl) (pa_cons (pv 0) (pa_cons pe_int pa_nil))) pa_nil)) (by kernel_rfl))
      (pss_cut (ps_asg (pv 2) (pg_lstU (n := 3) rfl (pgs_cons (pg_name (i := 3) sc_law_drawn_makings.nd rfl (.inl rfl)) (pgs_cons (pg_name (i := 4) sc_law_drawn_makings.nd rfl (.inl rfl)) (pgs_cons (pg_name (i := 5) sc_law_drawn_makings.nd rfl (.inl rfl)) pgs_nil)))))
      (pss_cut (ps_if (pt_cmpR op_lt (pv 1) pe_int (nomark _))
        (pss_cut (ps_set (i := 6) sc_law_drawn_makings.nd rfl (.inl rfl) (pe_lst (pa_cons (pe_disp (pps_cons (pv 3) (pe_tupZ (pa_cons (pv 3) (pa_cons (pv 3) pa_nil))) pps_nil) rfl rfl (by decide) (by decide))
            (pa_cons (pe_disp (pps_cons (pv 3) (pe_tupZ (pa_cons (pv 3) (pa_cons (pv 3) (pa_cons (pv 3) pa_nil)))) pps_nil) rfl rfl (by decide) (by decide))
            (pa_cons (pe_disp (pps_cons (pv 3) (pe_tupZ (pa_cons (pv 3) (pa_cons (pv 3) pa_nil))) (pps_cons (pv 4) (pe_tupZ (pa_cons (pv 3) (pa_cons (pv 3) (pa_cons (pv 3) pa_nil)))) pps_nil)) rfl rfl (by decide) (by decide))
            (pa_cons (pe_disp (pps_cons (pv 3) (pe_tupZ (pa_cons (pv 4) (pa_cons (pv 4) (pa_cons (pv 4) pa_nil)))) (pps_cons (pv 4) (pe_tupZ (pa_cons (pv 3) (pa_cons (pv 3) pa_nil))) pps_nil)) rfl rfl (by decide) (by decide)) pa_nil))))))
        (pss_cut (ps_expr (pe_bm PySem.F.plainAttrs_list PySem.F.slot_list_append PySem.F.type_list_append mt_append (pv 6) (pa_cons (pe_disp (pps_cons (pv 3) (pe_callTy call_tupleZ (by rfl) T.b_tuple (by decide +kernel) (pa_cons (pe_callB cr_sortedS (by rfl) T.b_sorted (by decide +kernel) (pa_cons (pe_lst (pa_cons (pv 4) (pa_cons (pv 5) pa_nil))) pa_nil)) pa_nil))
            (pps_cons (pv 4) (pe_tupZ (pa_cons (pv 3) (pa_cons (pv 3) pa_nil))) (pps_cons (pv 5) (pe_tupZ (pa_cons (pv 3) (pa_cons (pv 3) (pa_cons (pv 3) pa_nil)))) pps_nil))) rfl rfl (by decide) (by decide)) pa_nil)))
        (pss_one (ps_ret (pe_disp (pps_cons pe_str (pv 3) (pps_cons pe_str (pe_ix ix_list (pv 6) (pv 1) (fun _ _ => rfl)) pps_nil)) rfl rfl (by decide) (by decide)))))) pss_nil)
      (pss_cut (ps_set (i := 7) sc_law_drawn_makings.nd rfl (.inl rfl) pe_dnewK)
      (pss_cut (ps_for PassesOwn.never rfl (pi_list (pe_slice sl_list (pv 2) (po_some pe_int) (po_some (pe_op op_add pe_int (pe_cal cr hr (by rfl) (pa_cons (pv 0) (pa_cons pe_int pa_nil))))))) (pg_name (i := 8) sc_law_drawn_makings.nd rfl (.inl rfl))
        (pss_one (ps_asg (pe_tupZ pa_nil) (pg_sub (pv 7) (pv 8) (set_dict hu)))))
      (pss_cut (ps_set (i := 9) sc_law_drawn_makings.nd rfl (.inr rfl) (pe_op op_cat (pe_lst (pa_cons (pv 3) pa_nil)) (pe_callTy (call_listD rfl) (by rfl) T.b_list (by decide +kernel) (pa_cons (pv 7) pa_nil))))
      (pss_cut (ps_for PassesOwn.never rfl (pi_list (pv 9)) (pg_name (i := 8) sc_law_drawn_makings.nd rfl (.inl rfl))
        (pss_one (ps_if (PW.pt (pw_or (pt_cmpR op_ne (pv 8) (pv 3) (nomark _)) (pw_or1 (pt_cmpR op_gt (pe_cal cr hr (by rfl) (pa_cons (pv 0) (pa_cons pe_int pa_nil))) pe_int (nomark _)))))
          (pss_one (ps_asg (pe_callTy call_tupleZ (by rfl) T.b_tuple (by decide +kernel) (pa_cons (pe_callB cr_sortedS (by rfl) T.b_sorted (by decide +kernel) (pa_cons
            (pe_lc (own := [("_law_turn", 10)]) (g := gName 10) (tt := tYes) rfl sc_law_drawn_makings.nd (pi_range1 (by rfl) T.b_range (pa_cons (pe_op op_add pe_int (pe_cal cr hr (by rfl) (pa_cons (pv 0) (pa_cons pe_int pa_nil)))) pa_nil))
              (blkOk_by (N := NDM) (sc := defScope s_law_drawn_makings) (by decide +kernel)) (fun _ _ _ _ _ => pg_name (i := 10) sc_law_drawn_makings.nd rfl (.inl rfl)) (fun _ _ _ _ _ => pts_nil)
              (fun _ _ _ _ _ => pe_cal cp hr (by rfl) (pa_cons (pv 0) (pa_cons (pv 9) pa_nil)))) pa_nil)) pa_nil)) (pg_sub (pv 7) (pv 8) (set_dict hu)))) pss_nil)))
      (pss_one (ps_ret (pe_disp (pps_cons pe_str (pv 3) (pps_cons pe_str (pv 7) pps_nil)) rfl rfl (by decide) (by decide)))))))))), ?_⟩
    have big : 100000 ≤ sizeLine := by decide
    -- the way and the names
    refine ⟨fun σ' G => ∃ (wy : Nat) (l : Addr) (a b c : Str), σ' = [some (.ref d), some (.int (wy : Nat)), some (.ref l), none, none, none, none, none, none, none, none] ∧ G l = some (.lst [.str a, .str b, .str c]) ∧ a ≠ b ∧ a ≠ c ∧ b ≠ c ∧ a ∈ POOL ∧ b ∈ POOL ∧ c ∈ POOL ∧ SameX d H G ∧ DiceAt G d ∧ H l = none, ?_, ?_⟩
    · refine ⟨_, rfl, d, _, rfl, hd, by decide, by decide, fun r x b c h0 h1 => ?_⟩
      obtain ⟨wy, rfl⟩ := Int.eq_ofNat_of_zero_le h0
      refine ⟨_, rfl, d, 3, rfl, by omega, dice_new x b c, fun l zs G sx hdG npl el nd hin len => ?_⟩
      have sx0 : SameX d H (upd H d (.lst [.int x, .int b, .int c])) := (SameX.refl d H).atd
      have hld : l ≠ d := dice_ne (dice_new x b c) npl
      obtain ⟨n1, n2, n3, rfl⟩ : ∃ n1 n2 n3, zs = [n1, n2, n3] := by
        match zs, len with
        | [n1, n2, n3], _ => exact ⟨n1, n2, n3, rfl⟩
      have q1 : n1 ≠ n2 ∧ n1 ≠ n3 ∧ n2 ≠ n3 := by
        simp only [List.nodup_cons, List.mem_cons, List.not_mem_nil, or_false, not_or] at nd
        exact ⟨nd.1.1, nd.1.2, nd.2.1⟩
      exact ⟨_, _, rfl, wy, l, n1, n2, n3, rfl, el, q1.1, q1.2.1, q1.2.2, eight_in (hin _ (by simp)), eight_in (hin _ (by simp)), eight_in (hin _ (by simp)), sx0.trans sx, hdG, sx0.free hld npl⟩
    rintro σ' G ⟨wy, l, a, b, c, rfl, el, nab, nac, nbc, pa, pb, pc, sx, hdG, nlH⟩
    refine ⟨fun σ' G' => σ' = [some (.ref d), some (.int (wy : Nat)), some (.ref l), some (.str a), some (.str b), some (.str c), none, none, none, none, none] ∧ G' = G, ?_, ?_⟩
    · exact ⟨_, rfl, l, _, rfl, .inl (.inl el), rfl, _, _, rfl, _, _, rfl, _, _, rfl, rfl, rfl, rfl⟩
    rintro σ' G' ⟨rfl, rfl⟩
    have hks : ∀ z ∈ [a, b, c], z ∈ POOL := fun z hz => by
      simp only [List.mem_cons, List.not_mem_nil, or_false] at hz
      rcases hz with rfl | rfl | rfl
      · exact pa
      · exact pb
      · exact pc
    refine ⟨fun σ' G2 => σ' = [some (.ref d), some (.int (wy : Nat)), some (.ref l), some (.str a), some (.str b), some (.str c), none, none, none, none, none] ∧ G2 = G', ?_, ?_⟩
    · refine ⟨_, rfl, _, _, rfl, rfl, _, rfl, ite2 (fun cw => ?_) (fun _ => ⟨rfl, rfl⟩)⟩
      have hw5 : wy < 5 := by
        have := of_decide_eq_true cw
        omega
      have ndab : ([Sum.inr a, Sum.inr b] : List Key).Nodup := by
        simp only [List.nodup_cons, List.mem_cons, List.not_mem_nil, or_false, not_false_eq_true, List.nodup_nil, and_true, true_and]
        exact fun e => nab (Sum.inr.inj e)
      have nd1 : ∀ z : Str, ([Sum.inr z] : List Key).Nodup := fun z => List.nodup_cons.mpr ⟨List.not_mem_nil, List.nodup_nil⟩
      have ndabc : ([Sum.inr a, Sum.inr b, Sum.inr c] : List Key).Nodup := by
        simp only [List.nodup_cons, List.mem_cons, List.not_mem_nil, or_false, not_false_eq_true, List.nodup_nil, and_true, not_or]
        exact ⟨⟨fun e => nab (Sum.inr.inj e), fun e => nac (Sum.inr.inj e)⟩, fun e => nbc (Sum.inr.inj e)⟩
      refine ⟨fun σ' G2 => ∃ (sl m0 m1 m2 m3 : Addr), σ' = [some (.ref d), some (.int (wy : Nat)), some (.ref l), some (.str a), some (.str b), some (.str c), some (.ref sl), none, none, none, none] ∧ G2 sl = some (.lst [.ref m0, .ref m1, .ref m2, .ref m3]) ∧
        Mkd G2 m0 [(a, [a, a])] ∧ Mkd G2 m1 [(a, [a, a, a])] ∧ Mkd G2 m2 [(a, [a, a]), (b, [a, a, a])] ∧ Mkd G2 m3 [(a, [b, b, b]), (b, [a, a])] ∧ G' sl = none ∧ Same G' G2, ?_, ?_⟩
      · refine fun p0 np0 => ⟨_, rfl, _, rfl, _, rfl, by show 2 ≤ sizeLine; omega, fun t0 H0 z0 n0 k0 => ?_⟩
        refine ⟨same_k n0 k0 _ _ upd_same, [(Sum.inr a, .ref t0)], rfl, by show 1 ≤ 15; omega, ?_⟩
        rw [merge_nil (more := [(Sum.inr a, V.ref t0)]) (nd1 a)]
        obtain ⟨sA, mA⟩ := disp_end (kvs := [(Sum.inr a, V.ref t0)]) (M := [(a, [a, a])]) np0 (same_k n0 k0) (.cons ⟨rfl, t0, rfl, z0⟩ .nil)
        generalize upd H0 p0 (.dK [(Sum.inr a, V.ref t0)]) = GA at sA mA ⊢
        refine fun p1 np1 => ⟨_, rfl, _, rfl, _, rfl, _, rfl, by show 3 ≤ sizeLine; omega, fun t1 H1 z1 n1 k1 => ?_⟩
        refine ⟨same_k n1 k1 _ _ upd_same, [(Sum.inr a, .ref t1)], rfl, by show 1 ≤ 15; omega, ?_⟩
        rw [merge_nil (more := [(Sum.inr a, V.ref t1)]) (nd1 a)]
        obtain ⟨sB, mB⟩ := disp_end (kvs := [(Sum.inr a, V.ref t1)]) (M := [(a, [a, a, a])]) np1 (same_k n1 k1) (.cons ⟨rfl, t1, rfl, z1⟩ .nil)
        generalize upd H1 p1 (.dK [(Sum.inr a, V.ref t1)]) = GB at sB mB ⊢
        refine fun p2 np2 => ⟨_, rfl, _, rfl, _, rfl, by show 2 ≤ sizeLine; omega, fun t2 H2 z2 n2 k2 => ⟨_, rfl, _, rfl, _, rfl, _, rfl, by show 3 ≤ sizeLine; omega, fun t3 H3 z3 n3 k3 => ?_⟩⟩
        have s23 : Same (upd GB p2 (.dK [])) H3 := fun b o e => same_k n3 k3 _ _ (same_k n2 k2 _ _ e)
        refine ⟨s23 _ _ upd_same, [(Sum.inr a, .ref t2), (Sum.inr b, .ref t3)], rfl, by show 2 ≤ 15; omega, ?_⟩
        rw [merge_nil (more := [(Sum.inr a, V.ref t2), (Sum.inr b, V.ref t3)]) ndab]
        obtain ⟨sC, mC⟩ := disp_end (kvs := [(Sum.inr a, V.ref t2), (Sum.inr b, V.ref t3)]) (M := [(a, [a, a]), (b, [a, a, a])]) np2 s23 (.cons ⟨rfl, t2, rfl, z2.mono (same_k n3 k3)⟩ (.cons ⟨rfl, t3, rfl, z3⟩ .nil))
        generalize upd H3 p2 (.dK [(Sum.inr a, V.ref t2), (Sum.inr b, V.ref t3)]) = GC at sC mC ⊢
        refine fun p3 np3 => ⟨_, rfl, _, rfl, _, rfl, _, rfl, by show 3 ≤ sizeLine; omega, fun t4 H4 z4 n4 k4 => ⟨_, rfl, _, rfl, _, rfl, by show 2 ≤ sizeLine; omega, fun t5 H5 z5 n5 k5 => ?_⟩⟩
        have s45 : Same (upd GC p3 (.dK [])) H5 := fun b o e => same_k n5 k5 _ _ (same_k n4 k4 _ _ e)
        refine ⟨s45 _ _ upd_same, [(Sum.inr a, .ref t4), (Sum.inr b, .ref t5)], rfl, by show 2 ≤ 15; omega, ?_⟩
        rw [merge_nil (more := [(Sum.inr a, V.ref t4), (Sum.inr b, V.ref t5)]) ndab]
        obtain ⟨sD, mD⟩ := disp_end (kvs := [(Sum.inr a, V.ref t4), (Sum.inr b, V.ref t5)]) (M := [(a, [b, b, b]), (b, [a, a])]) np3 s45 (.cons ⟨rfl, t4, rfl, z4.mono (same_k n5 k5)⟩ (.cons ⟨rfl, t5, rfl, z5⟩ .nil))
        generalize upd H5 p3 (.dK [(Sum.inr a, V.ref t4), (Sum.inr b, V.ref t5)]) = GD at sD mD ⊢
        refine ⟨by show 4 ≤ sizeLine; omega, fun sl nsl => ?_⟩
        have sE := same_new (o := .lst [V.ref p0, V.ref p1, V.ref p2, V.ref p3]) (Same.refl GD) nsl
        have sBE : Same GB _ := fun b o e => sE _ _ (sD _ _ (sC _ _ e))
        have sall : Same G' _ := fun b o e => sBE _ _ (sB _ _ (sA _ _ e))
        exact ⟨sl, p0, p1, p2, p3, rfl, upd_same, mA.same fun b o e => sBE _ _ (sB _ _ e), mB.same sBE, mC.same fun b o e => sE _ _ (sD _ _ e), mD.same sE, Same.free (H := G') (H' := GD) (fun b o e => sD _ _ (sC _ _ (sB _ _ (sA _ _ e)))) nsl, sall⟩
      rintro σ' G2 ⟨sl, m0, m1, m2, m3, rfl, esl, d0, d1, d2, d3, nsl, s2⟩
      refine ⟨fun σ' G3 => ∃ (m4 : Addr) (ps : List Str), σ' = [some (.ref d), some (.int (wy : Nat)), some (.ref l), some (.str a), some (.str b), some (.str c), some (.ref sl), none, none, none, none] ∧ G3 sl = some (.lst [.ref m0, .ref m1, .ref m2, .ref m3, .ref m4]) ∧
        Mkd G3 m0 [(a, [a, a])] ∧ Mkd G3 m1 [(a, [a, a, a])] ∧ Mkd G3 m2 [(a, [a, a]), (b, [a, a, a])] ∧ Mkd G3 m3 [(a, [b, b, b]), (b, [a, a])] ∧ Mkd G3 m4 [(a, ps), (b, [a, a]), (c, [a, a, a])] ∧ sortedS ps = true ∧ ps.Perm [b, c] ∧ Same G' G3, ?_, ?_⟩
      · refine ⟨_, rfl, ⟨.inl ⟨rfl, _, .inl (.inl esl)⟩, ?_⟩⟩
        refine fun p4 np4 => ⟨_, rfl, _, rfl, _, rfl, by show 2 ≤ sizeLine; omega, fun l1 nl1 => ?_⟩
        refine ⟨l1, [b, c], rfl, .inl (.inl upd_same), by show 2 < 64; omega, fun zs sp hperm hsrt nsp => ?_⟩
        have s5 : Same (upd G2 p4 (.dK [])) _ := same_new (o := .lst (zs.map V.str)) (same_new (o := .lst [V.str b, V.str c]) (Same.refl _) nl1) nsp
        refine ⟨sp, _, rfl, .inl (.inl upd_same), fun t6 H6 z6 n6 k6 => ⟨_, rfl, _, rfl, _, rfl, by show 2 ≤ sizeLine; omega, fun t7 H7 z7 n7 k7 => ⟨_, rfl, _, rfl, _, rfl, _, rfl, by show 3 ≤ sizeLine; omega, fun t8 H8 z8 n8 k8 => ?_⟩⟩⟩
        have s8 : Same (upd G2 p4 (.dK [])) H8 := fun b o e => same_k n8 k8 _ _ (same_k n7 k7 _ _ (same_k n6 k6 _ _ (s5 _ _ e)))
        refine ⟨s8 _ _ upd_same, [(Sum.inr a, .ref t6), (Sum.inr b, .ref t7), (Sum.inr c, .ref t8)], rfl, by show 3 ≤ 15; omega, ?_⟩
        rw [merge_nil (more := [(Sum.inr a, V.ref t6), (Sum.inr b, V.ref t7), (Sum.inr c, V.ref t8)]) ndabc]
        obtain ⟨sF, mF⟩ := disp_end (kvs := [(Sum.inr a, V.ref t6), (Sum.inr b, V.ref t7), (Sum.inr c, V.ref t8)]) (M := [(a, zs), (b, [a, a]), (c, [a, a, a])]) np4 s8 (.cons ⟨rfl, t6, rfl, z6.mono fun b o e => same_k n8 k8 _ _ (same_k n7 k7 _ _ e)⟩ (.cons ⟨rfl, t7, rfl, z7.mono (same_k n8 k8)⟩ (.cons ⟨rfl, t8, rfl, z8⟩ .nil)))
        generalize upd H8 p4 (.dK [(Sum.inr a, V.ref t6), (Sum.inr b, V.ref t7), (Sum.inr c, V.ref t8)]) = GF at sF mF ⊢
        have eF := sF _ _ esl
        refine ⟨sl, _, _, rfl, rfl, eF, by show 4 < sizeLine; omega, p4, zs, rfl, upd_same, ?_⟩
        have kp : ∀ {m : Addr} {M : Mak}, Mkd GF m M → Mkd (upd GF sl (.lst ([V.ref m0, V.ref m1, V.ref m2, V.ref m3] ++ [V.ref p4]))) m M := fun {m M} h => by
          obtain ⟨kvs, e, hM⟩ := h
          refine ⟨kvs, by rw [upd_ne (fun z => by rw [z, eF] at e; cases e)]; exact e, hM.same fun a xs q => q.at fun o h => ?_⟩
          rw [upd_ne (q.ne eF fun ob z => by cases z)]
          exact h
        refine ⟨kp (d0.same sF), kp (d1.same sF), kp (d2.same sF), kp (d3.same sF), kp mF, hsrt, hperm, fun b o e => ?_⟩
        rw [upd_ne (ne_of_none e nsl)]
        exact sF _ _ (s2 _ _ e)
      rintro σ' G3 ⟨m4, ps, rfl, esl3, d0, d1, d2, d3, d4, hsrt, hperm, s3⟩
      have hps : ∀ p ∈ ps, p = b ∨ p = c := fun p hp => by
        have := hperm.mem_iff.mp hp
        simpa using this
      have lps : ps.length = 2 := hperm.length_eq
      obtain ⟨mW, MW, hat, hW, hV⟩ : ∃ (mW : Addr) (MW : Mak), atI [V.ref m0, V.ref m1, V.ref m2, V.ref m3, V.ref m4] ((wy : Nat) : Int) = some (.ref mW) ∧ Mkd G3 mW MW ∧ Vld a MW := by
        have hw : wy = 0 ∨ wy = 1 ∨ wy = 2 ∨ wy = 3 ∨ wy = 4 := by omega
        rcases hw with rfl | rfl | rfl | rfl | rfl
        · refine ⟨m0, _, rfl, d0, vld_in [a, b, c] hks (by show 3 ≤ 6; omega) (by simp) (by simp [keysOf]) (by simp [keysOf]) fun m hm => ?_⟩
          simp only [List.mem_cons, List.not_mem_nil, or_false] at hm
          subst hm
          exact ⟨srt2 a, by simp, by simp, by simp⟩
        · refine ⟨m1, _, rfl, d1, vld_in [a, b, c] hks (by show 3 ≤ 6; omega) (by simp) (by simp [keysOf]) (by simp [keysOf]) fun m hm => ?_⟩
          simp only [List.mem_cons, List.not_mem_nil, or_false] at hm
          subst hm
          exact ⟨srt3 a, by simp, by simp, by simp⟩
        · refine ⟨m2, _, rfl, d2, vld_in [a, b, c] hks (by show 3 ≤ 6; omega) (by simp) (by simp [keysOf]) (by simp [keysOf, nab]) fun m hm => ?_⟩
          simp only [List.mem_cons, List.not_mem_nil, or_false] at hm
          rcases hm with rfl | rfl
          · exact ⟨srt2 a, by simp, by simp, by simp⟩
          · exact ⟨srt3 a, by simp, by simp, by simp⟩
        · refine ⟨m3, _, rfl, d3, vld_in [a, b, c] hks (by show 3 ≤ 6; omega) (by simp) (by simp [keysOf]) (by simp [keysOf, nab]) fun m hm => ?_⟩
          simp only [List.mem_cons, List.not_mem_nil, or_false] at hm
          rcases hm with rfl | rfl
          · exact ⟨srt3 b, by simp, by simp, by simp [keysOf]⟩
          · exact ⟨srt2 a, by simp, by simp, by simp⟩
        · refine ⟨m4, _, rfl, d4, vld_in [a, b, c] hks (by show 3 ≤ 6; omega) (by simp) (by simp [keysOf]) (by simp [keysOf, nab, nac, nbc]) fun m hm => ?_⟩
          simp only [List.mem_cons, List.not_mem_nil, or_false] at hm
          rcases hm with rfl | rfl | rfl
          · refine ⟨hsrt, by show 2 ≤ ps.length; omega, by show ps.length ≤ 3; omega, fun p hp => .inr ?_⟩
            rcases hps p hp with rfl | rfl
            · simp [keysOf]
            · simp [keysOf]
          · exact ⟨srt2 a, by simp, by simp, by simp⟩
          · exact ⟨srt3 a, by simp, by simp, by simp⟩
      have hd3 : DiceAt G3 d := by
        obtain ⟨x, y, z, e⟩ := hdG
        exact ⟨x, y, z, s3 _ _ e⟩
      refine fun pl npl => ?_
      have esl4 : (upd G3 pl (.dK [])) sl = some (.lst [V.ref m0, V.ref m1, V.ref m2, V.ref m3, V.ref m4]) := by
        rw [upd_ne (ne_of_none esl3 npl)]
        exact esl3
      refine ⟨_, rfl, _, rfl, _, rfl, sl, _, _, _, rfl, rfl, .inl (.inl esl4), hat, upd_same, bookK a mW, rfl, by show 2 ≤ 15; omega, ?_⟩
      rw [merge_nil (by show (([Sum.inr "leaf", Sum.inr "makings"] : List Key)).Nodup; decide +kernel)]
      obtain ⟨kvs, eW, hMW⟩ := hW
      have s4 : Same G3 (upd (upd G3 pl (.dK [])) pl (.dK (bookK a mW))) := fun b o e => by
        have nb := ne_of_none e npl
        rw [upd_ne nb, upd_ne nb]
        exact e
      refine q pl mW a kvs MW _ upd_same (s4 _ _ eW) (hMW.same fun _ _ q => q.mono s4) hV ((sx.trans (SameX.of s3)).trans (SameX.of s4)) ?_
      obtain ⟨x, y, z, e⟩ := hd3
      exact ⟨x, y, z, s4 _ _ e⟩
    rintro σ' G2 ⟨rfl, rfl⟩
    -- a dict
    refine ⟨fun σ' G => ∃ m : Addr, σ' = [some (.ref d), some (.int (wy : Nat)), some (.ref l), some (.str a), some (.str b), some (.str c), none, some (.ref m), none, none, none] ∧ G m = some (.dK []) ∧ H m = none ∧ G l = some (.lst [.str a, .str b, .str c]) ∧ SameX d H G ∧ DiceAt G d, ?_, ?_⟩
    · intro m nm
      have hmd : m ≠ d := dice_ne hdG nm
      exact ⟨m, rfl, upd_same, sx.free hmd nm, by rw [upd_ne (ne_of_none el nm)]; exact el, sx.new nm, dice_upd hdG hmd⟩
    rintro σ' G ⟨m, rfl, em, nmH, el, sx, hdG⟩
    have hmd : m ≠ d := dice_ne hd nmH
    have hld : l ≠ d := dice_ne hd nlH
    -- some of the names, with no parts
    refine ⟨fun σ' G => ∃ (y8 : Option V) (kvs : List (Key × V)) (M : Mak), σ' = [some (.ref d), some (.int (wy : Nat)), some (.ref l), some (.str a), some (.str b), some (.str c), none, some (.ref m), y8, none, none] ∧ G m = some (.dK kvs) ∧ MakAt G kvs M ∧ (keysOf M).Nodup ∧ (∀ z ∈ keysOf M, z = b ∨ z = c) ∧ (keysOf M).length ≤ 2 ∧ SameX d H G ∧ DiceAt G d, ?_, ?_⟩
    · refine ⟨_, rfl, _, rfl, _, rfl, d, _, rfl, hdG, by decide, by decide, fun r x b0 c0 h0 h1 => ⟨_, _, rfl, rfl, _, rfl, ?_⟩⟩
      obtain ⟨k, rfl⟩ := Int.eq_ofNat_of_zero_le h0
      have sd : SameX d G (upd G d (.lst [.int x, .int b0, .int c0])) := (SameX.refl d G).atd
      have el1 := sd _ _ hld el
      have em1 := sd _ _ hmd em
      have sx1 := sx.trans sd
      have hd1 := dice_new (H := G) (d := d) x b0 c0
      generalize upd G d (.lst [.int x, .int b0, .int c0]) = G1 at el1 em1 sx1 hd1
      refine ⟨l, _, rfl, .inl (.inl el1), fun rl nrl => ?_⟩
      obtain ⟨ns, ens, hns, nns, lns⟩ : ∃ ns : List Str, cutV [V.str a, V.str b, V.str c] (some 1) (some (1 + (k : Int))) = ns.map V.str ∧ (∀ z ∈ ns, z = b ∨ z = c) ∧ ns.Nodup ∧ ns.length ≤ 2 := by
        have hk : k = 0 ∨ k = 1 ∨ k = 2 := by omega
        rcases hk with rfl | rfl | rfl
        · exact ⟨[], rfl, nofun, List.nodup_nil, by show 0 ≤ 2; omega⟩
        · exact ⟨[b], rfl, by simp, by simp, by show 1 ≤ 2; omega⟩
        · exact ⟨[b, c], rfl, by simp, by simp [nbc], by show 2 ≤ 2; omega⟩
      rw [ens]
      have hrd : rl ≠ d := dice_ne hd1 nrl
      have s2 := same_new (o := .lst (ns.map V.str)) (Same.refl G1) nrl
      have erl : (upd G1 rl (.lst (ns.map V.str))) rl = some (.lst (ns.map V.str)) := upd_same
      have em2 := s2 _ _ em1
      have sx2 := sx1.new (o := .lst (ns.map V.str)) nrl
      have hd2 := dice_upd (o := .lst (ns.map V.str)) hd1 hrd
      have nrm : rl ≠ m := fun z => by rw [z, em1] at nrl; cases nrl
      have nrlH : H rl = none := sx1.free hrd nrl
      generalize upd G1 rl (.lst (ns.map V.str)) = G2 at erl em2 sx2 hd2
      refine ⟨rl, rfl, ⟨_, .inl (.inl erl)⟩, ?_⟩
      refine for_it (walk_list (K := K) (a := rl) (xs := ns.map V.str)) (fun j σ' G => ∃ (y8 : Option V) (kvs : List (Key × V)) (M : Mak), σ' = [some (.ref d), some (.int (wy : Nat)), some (.ref l), some (.str a), some (.str b), some (.str c), none, some (.ref m), y8, none, none] ∧ G m = some (.dK kvs) ∧ MakAt G kvs M ∧ keysOf M = ns.take j ∧ G rl = some (.lst (ns.map V.str)) ∧ SameX d H G ∧ DiceAt G d)
        ⟨none, [], [], rfl, em2, .nil, rfl, erl, sx2, hd2⟩ (fun j σ' G _ h => by obtain ⟨_, _, _, _, _, _, _, e, _⟩ := h; exact .inl (.inl e)) (fun j v σ' Gx G hj h hy => ?_) (fun σ' G h => ?_)
      · obtain ⟨y8, kvs, M, rfl, eM, hM, ek, eR, sx3, hd3⟩ := h
        obtain ⟨rfl, hv⟩ := hy
        obtain ⟨z, hz, rfl⟩ := at_texts hv
        have nz : z ∉ keysOf M := by
          rw [ek]
          exact take_not nns hz
        refine ⟨Nat.zero_le _, fun t H3 hz0 nt kt => ?_⟩
        have s3 := same_k nt kt
        have eM3 := s3 _ _ eM
        have lkv : kvs.length < sizeLine := by
          have h1 := hM.len
          have h2 : (keysOf M).length ≤ 2 := by
            rw [ek, List.length_take]
            omega
          unfold keysOf at h2
          rw [List.length_map] at h2
          omega
        refine ⟨_, rfl, _, rfl, m, _, rfl, .inl ⟨kvs, Sum.inr z, eM3, rfl, lkv, rfl⟩, ?_⟩
        have hM3 : MakAt H3 kvs M := hM.same fun _ _ q => q.mono s3
        have hP := hM3.put nz (ps := []) (t := t) hz0
        have hd4 : DiceAt H3 d := by
          obtain ⟨x, y, w, e⟩ := hd3
          exact ⟨x, y, w, s3 _ _ e⟩
        refine ⟨_, putK kvs (Sum.inr z) (.ref t), M ++ [(z, [])], rfl, upd_same, hP.same fun b' xs q => q.at fun o e => ?_, ?_, ?_, (sx3.trans (SameX.of s3)).at nmH, dice_upd hd4 hmd⟩
        · rw [upd_ne (q.ne eM3 fun ob h => by cases h)]
          exact e
        · rw [show keysOf (M ++ [(z, [])]) = keysOf M ++ [z] by unfold keysOf; rw [List.map_append]; rfl, ek, take_snoc hz]
        · rw [upd_ne nrm]
          exact s3 _ _ eR
      · obtain ⟨y8, kvs, M, rfl, eM, hM, ek, eR, sx3, hd3⟩ := h
        rw [List.length_map, List.take_length] at ek
        exact ⟨y8, kvs, M, rfl, eM, hM, by rw [ek]; exact nns, by rw [ek]; exact hns, by rw [ek]; exact lns, sx3, hd3⟩
    rintro σ' G ⟨y8, kvs, M, rfl, eM, hM, ndM, hMn, lM, sx, hdG⟩
    -- all kinds
    have hak : a ∉ keysOf M := fun h => by
      rcases hMn a h with e | e
      · exact nab e
      · exact nac e
    have lkM : kvs.length = (keysOf M).length := by
      rw [hM.len]
      unfold keysOf
      rw [List.length_map]
    refine ⟨fun σ' G' => ∃ kl : Addr, σ' = [some (.ref d), some (.int (wy : Nat)), some (.ref l), some (.str a), some (.str b), some (.str c), none, some (.ref m), y8, some (.ref kl), none] ∧ G' kl = some (.lst ((a :: keysOf M).map V.str)) ∧ G kl = none ∧ Same G G', ?_, ?_⟩
    · refine ⟨_, rfl, by show 1 ≤ sizeLine; omega, fun l1 n1 => ?_⟩
      have s1 := same_new (o := .lst [V.str a]) (Same.refl G) n1
      refine ⟨_, rfl, m, kvs, rfl, .inl (s1 _ _ eM), fun l2 n2 => ?_⟩
      have ek : (kvs.map fun kv => kV kv.1) = (keysOf M).map V.str := by
        have := hM.keys
        rw [show (kvs.map fun kv => kV kv.1) = (kvs.map (·.1)).map kV by rw [List.map_map]; rfl, this, List.map_map]
        rfl
      rw [ek]
      have s2 := same_new (o := .lst ((keysOf M).map V.str)) s1 n2
      have e1 : (upd (upd G l1 (.lst [V.str a])) l2 (.lst ((keysOf M).map V.str))) l1 = some (.lst [V.str a]) := by
        rw [upd_ne (ne_of_none upd_same n2)]
        exact upd_same
      refine ⟨l1, l2, _, _, rfl, rfl, e1, upd_same, ?_, fun l3 n3 => ?_⟩
      · rw [List.length_map]
        show 1 + _ ≤ sizeLine
        omega
      exact ⟨l3, rfl, upd_same, s2.free n3, same_new s2 n3⟩
    rintro σ' G1 ⟨kl, rfl, ekl, nklG, s1⟩
    have hkld : kl ≠ d := dice_ne hdG nklG
    have nklH : H kl = none := sx.free hkld nklG
    have nklm : kl ≠ m := fun z => by rw [z, eM] at nklG; cases nklG
    have hd1 : DiceAt G1 d := by
      obtain ⟨x, y, w, e⟩ := hdG
      exact ⟨x, y, w, s1 _ _ e⟩
    have hk3 : (a :: keysOf M).length ≤ 3 := by
      rw [List.length_cons]
      omega
    have hkp : ∀ z ∈ a :: keysOf M, z ∈ POOL := fun z hz => by
      rcases List.mem_cons.mp hz with rfl | hz
      · exact pa
      · rcases hMn z hz with rfl | rfl
        · exact pb
        · exact pc
    have dr0 : DrM (a :: keysOf M) a 0 M := ⟨ndM, fun z hz => List.mem_cons_of_mem _ hz, fun z hz => List.mem_cons.mp hz, fun z ps _ h => (nomatch h), fun _ => hak⟩
    have eM1 := s1 _ _ eM
    have hM1 : MakAt G1 kvs M := hM.same fun _ _ q => q.mono s1
    have h0 : (a :: keysOf M)[0]? = some a := rfl
    have sx1 := sx.trans (SameX.of s1)
    generalize a :: keysOf M = ks at ekl hk3 hkp dr0 h0
    have hka : a ∈ ks := List.mem_of_getElem? h0
    refine ⟨fun σ' G => ∃ (y8 : Option V) (kvs : List (Key × V)) (M : Mak), σ' = [some (.ref d), some (.int (wy : Nat)), some (.ref l), some (.str a), some (.str b), some (.str c), none, some (.ref m), y8, some (.ref kl), none] ∧ G m = some (.dK kvs) ∧ MakAt G kvs M ∧ Vld a M ∧ SameX d H G ∧ DiceAt G d, ?_, ?_⟩
    · refine ⟨_, rfl, kl, rfl, ⟨_, .inl (.inl ekl)⟩, ?_⟩
      refine for_it (walk_list (K := K) (a := kl) (xs := ks.map V.str)) (fun j σ' G => ∃ (y8 : Option V) (kvs : List (Key × V)) (M : Mak), σ' = [some (.ref d), some (.int (wy : Nat)), some (.ref l), some (.str a), some (.str b), some (.str c), none, some (.ref m), y8, some (.ref kl), none] ∧ G m = some (.dK kvs) ∧ MakAt G kvs M ∧ DrM ks a j M ∧ G kl = some (.lst (ks.map V.str)) ∧ SameX d H G ∧ DiceAt G d)
        ⟨y8, kvs, M, rfl, eM1, hM1, dr0, ekl, sx1, hd1⟩ (fun j σ' G _ h => by obtain ⟨_, _, _, _, _, _, _, e, _⟩ := h; exact .inl (.inl e)) (fun j v σ' Gx G hj h hy => ?_) (fun σ' G h => ?_)
      · obtain ⟨y8, kvs, M, rfl, eM, hM, dr, eK, sx3, hd3⟩ := h
        obtain ⟨rfl, hv⟩ := hy
        obtain ⟨z, hz, rfl⟩ := at_texts hv
        refine or_mid (fun cc G' => SameX d G G' ∧ DiceAt G' d ∧ (cc = false → z = a)) (fun Q' hQ' => ?_) (fun cc G' hc => ?_)
        · refine ⟨_, rfl, _, rfl, rfl, _, rfl, ite2 (fun e => ?_) (fun e => ?_)⟩
          · exact hQ' _ _ ⟨SameX.refl d G, hd3, nofun⟩
          · have ez : z = a := by
              have h1 : decide (V.str z = V.str a) = true := by
                cases hh : decide (V.str z = V.str a) with
                | true => rfl
                | false =>
                  rw [hh] at e
                  exact absurd rfl e
              exact V.str.inj (of_decide_eq_true h1)
            refine ⟨_, rfl, d, _, rfl, hd3, by decide, by decide, fun r x b0 c0 g0 g1 => ⟨_, _, rfl, rfl, _, rfl, hQ' _ _ ⟨(SameX.refl d G).atd, dice_new x b0 c0, fun _ => ez⟩⟩⟩
        obtain ⟨sG, hd4, hc⟩ := hc
        have eM4 := sG _ _ hmd eM
        have eK4 := sG _ _ hkld eK
        have hM4 : MakAt G' kvs M := hM.samex hd3 sG
        have sx4 := sx3.trans sG
        cases cc with
        | false =>
          have ez := hc rfl
          subst ez
          exact ⟨_, kvs, M, rfl, eM4, hM4, dr.skip hz h0, eK4, sx4, hd4⟩
        | true =>
          refine ⟨_, rfl, d, _, rfl, hd4, by decide, by decide, fun r x b' c' h0' h1' => ⟨_, _, rfl, rfl, _, rfl, by omega, by omega, fun D nD => ?_⟩⟩
          obtain ⟨k, rfl⟩ := Int.eq_ofNat_of_zero_le h0'
          have sd : SameX d G' (upd G' d (.lst [.int x, .int b', .int c'])) := (SameX.refl d G').atd
          have hd5 := dice_new (H := G') (d := d) x b' c'
          have eM5 := sd _ _ hmd eM4
          have eK5 := sd _ _ hkld eK4
          have hM5 : MakAt _ kvs M := hM4.samex hd4 sd
          have sx5 := sx4.trans sd
          generalize upd G' d (.lst [.int x, .int b', .int c']) = G5 at hd5 eM5 eK5 hM5 sx5 nD
          have hDd : D ≠ d := dice_ne hd5 nD
          have e2k : ((2 : Int) + (k : Int)).toNat = k + 2 := by omega
          rw [e2k]
          refine lc_range (lo := 0) (fun jj GG => ∃ fs : List Str, GG D = some (.lst (fs.map V.str)) ∧ fs.length = jj ∧ (∀ p ∈ fs, p ∈ ks) ∧ SameX d G5 GG ∧ DiceAt GG d)
            ⟨[], upd_same, rfl, nofun, (SameX.refl d _).new nD, dice_upd hd5 hDd⟩ (fun jj GG hjj hP => ?_) (fun GG hP => ?_)
          · obtain ⟨fs, eD, lf, hf, sxg, hdg⟩ := hP
            refine ⟨rfl, _, rfl, _, rfl, d, .ref kl, _, rfl, hdg, .inl ⟨kl, rfl, hkld, .inl (.inl (.inl (sxg _ _ hkld eK5)))⟩, (fun h => by rw [List.map_eq_nil_iff.mp h] at hka; exact List.not_mem_nil hka), by rw [List.length_map]; omega, fun v x b c hv => ?_⟩
            obtain ⟨pp, hpp, rfl⟩ := List.mem_map.mp hv
            refine ⟨fs.map V.str, by rw [upd_ne hDd]; exact eD, ?_, fs ++ [pp], ?_, by rw [List.length_append, lf]; rfl, fun y hy => ?_, ?_, dice_upd (dice_new _ _ _) hDd⟩
            · rw [List.length_map]
              omega
            · rw [upd_same, List.map_append]
              rfl
            · rw [List.mem_append, List.mem_singleton] at hy
              rcases hy with hy | rfl
              · exact hf y hy
              · exact hpp
            · exact sxg.atd.at nD
          · obtain ⟨fs, eD, lf, hf, sxg, hdg⟩ := hP
            refine ⟨D, fs, rfl, .inl (.inl eD), by omega, fun zs' sp hperm hsrt nsp => ?_⟩
            refine ⟨sp, _, rfl, .inl (.inl upd_same), fun t H3 ht nt heq => ?_⟩
            have sm : Same GG H3 := fun b u e => by
              rw [heq b (ne_of_none (same_new (Same.refl GG) nsp b u e) nt)]
              exact same_new (Same.refl GG) nsp b u e
            have lz := hperm.length_eq
            have pz : ∀ p ∈ zs', p ∈ ks := fun p hp => hf p (hperm.mem_iff.mp hp)
            have eM7 := sm _ _ (sxg _ _ hmd eM5)
            have eK7 := sm _ _ (sxg _ _ hkld eK5)
            have hM7 : MakAt H3 kvs M := (hM5.samex hd5 sxg).same fun _ _ q => q.mono sm
            have hd7 : DiceAt H3 d := by
              obtain ⟨x, y, w, e⟩ := hdg
              exact ⟨x, y, w, sm _ _ e⟩
            have lkv : kvs.length < sizeLine := by
              rw [hM7.len]
              have h1 := nodup_len dr.nd dr.sub
              unfold keysOf at h1
              rw [List.length_map] at h1
              omega
            refine ⟨_, rfl, _, rfl, m, _, rfl, .inl ⟨kvs, Sum.inr z, eM7, rfl, lkv, rfl⟩, ?_⟩
            refine ⟨_, putK kvs (Sum.inr z) (.ref t), putM M z zs', rfl, upd_same, (hM7.putM ht).same fun b' xs q => q.at fun o e => ?_, dr.put hz ⟨hsrt, by omega, by omega, pz⟩, ?_, ((sx5.trans sxg).trans (SameX.of sm)).at nmH, dice_upd hd7 hmd⟩
            · rw [upd_ne (q.ne eM7 fun ob h => by cases h)]
              exact e
            · rw [upd_ne nklm]
              exact eK7
      · obtain ⟨y8, kvs, M, rfl, eM, hM, dr, eK, sx3, hd3⟩ := h
        rw [List.length_map] at dr
        exact ⟨y8, kvs, M, rfl, eM, hM, dr.vld hkp (by omega) hka, sx3, hd3⟩
    rintro σ' G2 ⟨y8, kvs, M, rfl, eM, hM, hV, sx2, hd2⟩
    refine fun pl npl => ?_
    refine ⟨_, rfl, _, rfl, upd_same, bookK a m, rfl, by show 2 ≤ 15; omega, ?_⟩
    rw [merge_nil (by show (([Sum.inr "leaf", Sum.inr "makings"] : List Key)).Nodup; decide +kernel)]
    have s4 : Same G2 (upd (upd G2 pl (.dK [])) pl (.dK (bookK a m))) := fun b o e => by
      have nb := ne_of_none e npl
      rw [upd_ne nb, upd_ne nb]
      exact e
    refine q pl m a kvs M _ upd_same (s4 _ _ eM) (hM.same fun _ _ q => q.mono s4) hV (sx2.trans (SameX.of s4)) ?_
    obtain ⟨x, y, z, e⟩ := hd2
    exact ⟨x, y, z, s4 _ _ e⟩
end
end Kl

set_option maxRecDepth 100000
set_option maxHeartbeats 4000000
namespace Kl
open PySem PySem.Spec PyProof.Rows L2 Gx Mx
theorem loose_few {qs : List (List Str)} (h : looseB qs = true) : Few qs ∧ ∀ q ∈ qs, q.length ≤ 20 := by
  obtain ⟨m1, g1, _⟩ := loose_facts h
  have g2 : ∀ q ∈ qs, q.length ≤ 20 ∧ ∀ z ∈ q, z.length ≤ 8 := fun q hq => by
    have h := g1 q hq
    unfold goodB at h
    rw [Bool.and_eq_true, Bool.and_eq_true] at h
    exact ⟨of_decide_eq_true h.1, fun z hz => name_len (List.all_eq_true.mp h.2.1 z hz)⟩
  refine ⟨⟨by omega, fun q hq => ?_⟩, fun q hq => (g2 q hq).1⟩
  obtain ⟨h1, h2⟩ := g2 q hq
  exact ⟨by omega, fun z hz => Nat.le_trans (h2 z hz) (by decide)⟩
section
variable {P : Program} {w : World} {K : PySem.W.Frag} {mg : Str → Option Value} {base : Heap}
/-! ### _law_is_sum -/
end
end Kl

set_option maxRecDepth 100000
set_option maxHeartbeats 4000000
namespace Kl
open PySem PySem.Spec PyProof.Rows L2 Gx Mx
/-! ### data that are small -/
theorem ok_app (a b : Str) : PyData.strOk (a ++ b) = (PyData.strOk a && PyData.strOk b) := by
  show (a.cps ++ b.cps).all _ = (a.cps.all _ && b.cps.all _)
  rw [Array.all_append]
structure Sm (B k : Nat) (d : PyData) : Prop where
  lay : d.canLay0 = true
  dp : d.depth ≤ k
  wt : d.weight ≤ B
  sh : d.showable = true
  is : d.intsShort 13 = true
theorem Sm.str {B k : Nat} {s : Str} (h : PyData.strOk s = true) (hl : s.length ≤ B) : Sm B k (.str s) := ⟨h, Nat.zero_le _, hl, rfl, rfl⟩
theorem Sm.up {B B' k k' : Nat} {d : PyData} (h : Sm B k d) (hB : B ≤ B') (hk : k ≤ k') : Sm B' k' d := ⟨h.lay, Nat.le_trans h.dp hk, Nat.le_trans h.wt hB, h.sh, h.is⟩
theorem Sm.all {B k : Nat} : ∀ {ds : List PyData}, (∀ d ∈ ds, Sm B k d) → PyData.canLayAll0 ds = true ∧ PyData.depthAll ds ≤ k ∧ PyData.weightAll ds ≤ ds.length * (B + 1) ∧ PyData.showableAll ds = true ∧ PyData.intsShortAll 13 ds = true
  | [], _ => ⟨rfl, Nat.zero_le _, Nat.zero_le _, rfl, rfl⟩
  | d :: ds, h => by
    obtain ⟨h1, h2, h3, h4, h5⟩ := h d List.mem_cons_self
    obtain ⟨i1, i2, i3, i4, i5⟩ := Sm.all (ds := ds) fun x hx => h x (List.mem_cons_of_mem _ hx)
    refine ⟨?_, ?_, ?_, ?_, ?_⟩
    · rw [PyData.canLayAll0, h1, i1]; rfl
    · rw [PyData.depthAll]; exact Nat.max_le.mpr ⟨h2, i2⟩
    · rw [PyData.weightAll, List.length_cons, Nat.succ_mul]
      omega
    · rw [PyData.showableAll, h4, i4]; rfl
    · rw [PyData.intsShortAll, h5, i5]; rfl
theorem Sm.tup {B k n B' k' : Nat} {ds : List PyData} (h : ∀ d ∈ ds, Sm B k d) (hn : ds.length ≤ n) (hB : n * (B + 1) ≤ B') (hk : k + 1 ≤ k') : Sm B' k' (.tuple ds) := by
  obtain ⟨i1, i2, i3, i4, i5⟩ := Sm.all h
  have hm : ds.length * (B + 1) ≤ n * (B + 1) := Nat.mul_le_mul_right _ hn
  exact ⟨i1, by rw [PyData.depth]; omega, by rw [PyData.weight]; omega, i4, i5⟩
theorem Sm.lst {B k n B' k' : Nat} {ds : List PyData} (h : ∀ d ∈ ds, Sm B k d) (hn : ds.length ≤ n) (hB : n * (B + 1) ≤ B') (hk : k + 1 ≤ k') : Sm B' k' (.list ds) := by
  obtain ⟨i1, i2, i3, i4, i5⟩ := Sm.all h
  have hm : ds.length * (B + 1) ≤ n * (B + 1) := Nat.mul_le_mul_right _ hn
  exact ⟨i1, by rw [PyData.depth]; omega, by rw [PyData.weight]; omega, i4, i5⟩
theorem Sm.int {B k n : Nat} (h : n ≤ 6) (hB : 3 ≤ B) : Sm B k (.int (n : Int)) := by
  have e : (List.range 7).all (fun n => decide (PyData.weight (.int (n : Int)) ≤ 3) && PyData.showable (.int (n : Int)) && PyData.intsShort 13 (.int (n : Int))) = true := by decide +kernel
  have e2 := List.all_eq_true.mp e n (List.mem_range.mpr (by omega))
  rw [Bool.and_eq_true, Bool.and_eq_true] at e2
  exact ⟨rfl, Nat.zero_le _, Nat.le_trans (of_decide_eq_true e2.1.1) hB, e2.1.2, e2.2⟩
/-- what repr asks of data -/
theorem Sm.repr {B k : Nat} {d : PyData} (h : Sm B k d) (hB : B ≤ 1000000) (hk : k ≤ 60) : d.showable = true ∧ d.hasDict = false ∧ d.depth ≤ 60 ∧ d.shown.length ≤ sizeLine := by
  have hl : PyData.layable0 d = true := by
    show (PyData.canLay0 d && decide (PyData.depth d ≤ 64) && decide (PyData.weight d ≤ 2 ^ 20)) = true
    rw [h.lay, decide_eq_true (show d.depth ≤ 64 from Nat.le_trans h.dp (by omega)), decide_eq_true (show d.weight ≤ 2 ^ 20 from Nat.le_trans h.wt (Nat.le_trans hB (by decide)))]
    rfl
  refine ⟨h.sh, PyData.hasDict_of_layable hl, Nat.le_trans h.dp hk, Nat.le_trans (shown_le13 hl h.is) (by decide)⟩
/-- texts -/
theorem sm_texts {B n : Nat} {zs : List Str} (h : ∀ z ∈ zs, PyData.strOk z = true ∧ z.length ≤ B) (hn : zs.length ≤ n) : Sm (n * (B + 1)) 1 (.tuple (tD zs)) := by
  refine Sm.tup (k := 0) (n := n) (fun d hd => ?_) (by unfold tD; rw [List.length_map]; exact hn) (Nat.le_refl _) (Nat.le_refl _)
  obtain ⟨z, hz, rfl⟩ := List.mem_map.mp hd
  exact Sm.str (h z hz).1 (h z hz).2
theorem sm_row {qs : List (List Str)} (h : looseB qs = true) : Sm 72762 2 (rD qs) := by
  obtain ⟨m1, g1, _⟩ := loose_facts h
  refine Sm.tup (B := 180) (k := 1) (n := 402) (fun d hd => ?_) (by rw [List.length_map]; exact m1) (by decide) (by decide)
  obtain ⟨q, hq, rfl⟩ := List.mem_map.mp hd
  have hg := g1 q hq
  have ho := good_ok hg
  unfold goodB at hg
  rw [Bool.and_eq_true, Bool.and_eq_true] at hg
  exact sm_texts (B := 8) (n := 20) (fun z hz => ⟨ho z hz, name_len (List.all_eq_true.mp hg.2.1 z hz)⟩) (of_decide_eq_true hg.1)
/-! ### sums of rows: the mathematics -/
theorem dg_none {qs : List (List Str)} {i : Nat} (h : qs.length ≤ i) : dg qs i = [] := by
  unfold dg
  rw [List.getElem?_eq_none h]
  rfl
theorem loose_srt {qs : List (List Str)} (h : looseB qs = true) (i : Nat) : sortedS (dg qs i) = true := by
  obtain ⟨_, g1, _⟩ := loose_facts h
  unfold dg
  cases e : qs[i]? with
  | none => rfl
  | some q =>
    have hg := g1 q (List.mem_of_getElem? e)
    unfold goodB at hg
    rw [Bool.and_eq_true, Bool.and_eq_true] at hg
    exact hg.2.2
end Kl

set_option maxRecDepth 100000
set_option maxHeartbeats 4000000
namespace Kl
open PySem PySem.Spec PyProof.Rows L2 Gx Mx
theorem RowAt.sx {K : PySem.W.Frag} {G G' : Hp} {d p : Addr} {LL : List (Addr × List Str)} (h : RowAt K G p LL) (hd : DiceAt G d) (s : SameX d G G') : RowAt K G' p LL := ⟨sqT_sx hd s h.e, fun q hq => sqT_sx hd s (h.t q hq)⟩
theorem RowAt.lst {K : PySem.W.Frag} {G : Hp} {D p : Addr} {LL : List (Addr × List Str)} {xs : List V} {o : HO} (h : RowAt K G p LL) (e : G D = some (.lst xs)) : RowAt K (upd G D o) p LL := ⟨sqT_lst e h.e, fun q hq => sqT_lst e (h.t q hq)⟩
theorem dice_sm {H H' : Hp} {d : Addr} (s : Same H H') (q : DiceAt H d) : DiceAt H' d := by
  obtain ⟨x, b, c, h⟩ := q
  exact ⟨x, b, c, s _ _ h⟩
theorem loose_shaped {qs : List (List Str)} (h : looseB qs = true) : SeqAt.shaped (rD qs) = true := row_shaped fun q hq => good_ok ((loose_facts h).2.1 q hq)
theorem loose_nil : looseB [] = true := by decide +kernel
section
variable {P : Program} {w : World} {K : PySem.W.Frag} {mg : Str → Option Value} {base : Heap}
/-! ### _law_names_right -/
end
end Kl

set_option maxRecDepth 100000
set_option maxHeartbeats 4000000
namespace Kl
open PySem PySem.Spec PyProof.Rows L2 Gx Mx
theorem KindsAt.dice {G G' : Hp} {C x md d : Addr} {leaf : Str} {M : Mak} {ns : List Str} (k : KindsAt C G x md leaf M ns) (hd : DiceAt G d) (s : SameX d G G') : KindsAt C G' x md leaf M ns := by
  obtain ⟨a, b, c', e⟩ := id hd
  have nt : ∀ xs, G d ≠ some (.tup xs) := fun xs z => by
    rw [e] at z
    cases z
  have nz : ∀ xs, ¬ TupZ G d xs := fun xs z => by
    obtain ⟨ob, _, q⟩ := z
    rw [e] at q
    cases q
  obtain ⟨_, _, _, h1, h2, _⟩ := id k
  exact k.keep s (fun z => by rw [z, e] at h1; cases h1) (fun z => by rw [z, e] at h2; cases h2) nt nz
section
variable {P : Program} {w : World} {K : PySem.W.Frag} {mg : Str → Option Value} {base : Heap}
/-! ### _law_keys_right -/
end
end Kl

set_option maxRecDepth 100000
set_option maxHeartbeats 4000000
namespace Gx
open PySem PySem.Spec PyProof.Rows L2
/-- two promises of one def -/
theorem FnOk.or {P : Program} {w : World} {K : PySem.W.Frag} {mg : Str → Option Value} {base : Heap} {CX : CXT} {k : Nat} {f : Addr} {fd : FuncData} {ps : List Str} {sp sp' : Sp} (F : FnOk P w K mg base CX k f fd ps sp) (F' : FnOk P w K mg base CX k f fd ps sp') :
    FnOk P w K mg base CX k f fd ps (fun vs H Q E => sp vs H Q E ∨ sp' vs H Q E) := by
  refine ⟨fun vs H Q E h => ?_, fun A outer s H args us vs Q E hr he hb hv hs => ?_⟩
  · rcases h with h | h
    · exact F.len _ _ _ _ h
    · exact F'.len _ _ _ _ h
  · rcases hs with h | h
    · exact F.run A outer s H args us vs Q E hr he hb hv h
    · exact F'.run A outer s H args us vs Q E hr he hb hv h
end Gx
namespace Kl
open PySem PySem.Spec PyProof.Rows L2 Gx Mx
/-! ### judges of any value -/
def textOf : V → Str
  | .str z => z
  | _ => ""
/-- what is_sorted says of the values of a tuple -/
def sortB (xs : List V) : Bool := xs.all nameV && sortedS (xs.map textOf)
/-- a value, and what is_sorted answers with the limit M -/
def SortArg (K : PySem.W.Frag) (H : Hp) (v : V) (M : Int) (b : Bool) : Prop :=
  (Not K H v "tuple" ∧ b = false) ∨ ∃ (p : Addr) (xs : List V), v = .ref p ∧ SqT K H p xs ∧ xs.length ≤ 1000 ∧ (∀ x ∈ xs, NameArg K H x) ∧ b = (decide ((xs.length : Int) ≤ M) && sortB xs)
theorem SortArg.same {K : PySem.W.Frag} {H H' : Hp} {v : V} {M : Int} {b : Bool} (s : Same H H') (h : SortArg K H v M b) : SortArg K H' v M b := by
  rcases h with ⟨h, e⟩ | ⟨p, xs, e, hp, hl, hx, eb⟩
  · exact .inl ⟨h.same s, e⟩
  · exact .inr ⟨p, xs, e, sqT_sm s hp, hl, fun x hx' => (hx x hx').same s, eb⟩
theorem names_texts : ∀ xs : List V, xs.all nameV = true → xs = (xs.map textOf).map V.str
  | [], _ => rfl
  | x :: xs, h => by
    rw [List.all_cons, Bool.and_eq_true] at h
    rw [List.map_cons, List.map_cons, ← names_texts xs h.2]
    cases x with
    | str z => rfl
    | _ => cases h.1
theorem names_ok : ∀ xs : List V, xs.all nameV = true → ∀ z ∈ xs.map textOf, PyData.strOk z = true
  | [], _, z, hz => by cases hz
  | x :: xs, h, z, hz => by
    rw [List.all_cons, Bool.and_eq_true] at h
    rcases List.mem_cons.mp (show z ∈ textOf x :: xs.map textOf from hz) with rfl | hz
    · cases x with
      | str y => exact names_low h.1
      | _ => cases h.1
    · exact names_ok xs h.2 z hz
section
variable {P : Program} {w : World} {K : PySem.W.Frag} {mg : Str → Option Value} {base : Heap}
def spSortA (K : PySem.W.Frag) : Sp := fun vs H Q _ => ∃ (v : V) (M : Int) (b : Bool), vs = [v, .int M] ∧ 0 ≤ M ∧ M ≤ 100 ∧ SortArg K H v M b ∧ ∀ H', Same H H' → Q (.bl b) H'
theorem ok_sortA {f : Addr} {fd : FuncData} (F : Fun K "is_sorted" "is_sorted" s_is_sorted f fd) (T : Top K mg) : FnOk P w K mg base CX0 3 f fd ["value", "most"] (spSortA K) := by
  have cc : Cal P w K mg base 2 "is_count" ["value"] (spCnt K) := T.d_is_count.cal fun f fd F => ok_cnt F T
  have cn : Cal P w K mg base 2 "is_name" ["value"] (spName K) := (T.d_is_name.cal fun f fd F => ok_name F T).mono (by decide)
  refine F.ok sc_is_sorted (fun vs H Q E h => ?_) (fun cdv A outer s H vs Q E hr h => ?_)
  · obtain ⟨v, M, b, rfl, _⟩ := h
    rfl
  · obtain ⟨v, M, b, rfl, hM, hM2, hs, hq⟩ := h
    refine ⟨_, pss_cons (ps_if (pt_not (pt_val (pe_cal cc hr (by rfl) (pa_cons (pv 1) pa_nil)))) (pss_one ps_never) pss_nil)
      (pss_cons (ps_if (PW.pt (pw_or (pt_not (pt_val (pe_callB call_isi (by rfl) T.b_isinstance (by decide +kernel) (pa_cons (pv 0) (pa_cons (pe_bltn (v := .ty "tuple") (by rfl) T.b_tuple (by decide +kernel) rfl) pa_nil)))))
          (pw_or1 (pt_cmpR op_gt (pe_callB call_len_seq (by rfl) T.b_len PySem.boot_len (pa_cons (pv 0) pa_nil)) (pv 1) (nomark _))))) (pss_one (ps_ret pe_bl)) pss_nil)
      (pss_cons (ps_if (pt_not (pt_val (pe_callB (cr_all rfl) (by rfl) T.b_all (by decide +kernel) (pa_cons (pe_lc (own := [("name", 2)]) (g := gName 2) (tt := tYes) rfl sc_is_sorted.nd (pi_tup (pv 0))
            (blkOk_by (N := ["value", "most", "name"]) (sc := defScope s_is_sorted) (by decide +kernel))
            (fun _ _ _ _ _ => pg_name (i := 2) sc_is_sorted.nd rfl (.inl rfl)) (fun _ _ _ _ _ => pts_nil) (fun _ _ _ _ _ => pe_cal cn hr (by rfl) (pa_cons (pv 2) pa_nil))) pa_nil)))) (pss_one (ps_ret pe_bl)) pss_nil)
      (pss_one (ps_ret (pe_cmpR (op_eqD hr.units) (pe_callTy call_list_of (by rfl) T.b_list (by decide +kernel) (pa_cons (pv 0) pa_nil)) (pe_callB cr_sortedTS (by rfl) T.b_sorted (by decide +kernel) (pa_cons (pv 0) pa_nil)) (nomark _)))))), ?_⟩
    have hc : cntV (.int M) = true := by
      show ((decide (-TEN60 < M) && decide (M < TEN60)) && decide (0 ≤ M)) = true
      rw [decide_eq_true (show -TEN60 < M by unfold TEN60; omega), decide_eq_true (show M < TEN60 by unfold TEN60; omega), decide_eq_true hM]
      rfl
    refine ⟨_, rfl, .int M, rfl, .inl ⟨M, rfl⟩, _, rfl, ?_⟩
    rw [hc]
    rcases hs with ⟨⟨t, ht, hk⟩, rfl⟩ | ⟨p, xs, rfl, hp, hlen, hx, rfl⟩
    · refine ⟨_, rfl, _, .ty "tuple", t, .type "tuple", false, rfl, .ty _, ht, hk, false, rfl, ?_⟩
      exact hq H (Same.refl H)
    refine ⟨_, rfl, _, .ty "tuple", .type "tuple", .type "tuple", true, rfl, .ty _, tyx_sqT hp, kit_ty (by decide +kernel), true, rfl, ?_⟩
    refine ⟨_, rfl, p, xs, rfl, .inr hp, _, rfl, _, _, rfl, rfl, _, rfl, ite2 (fun e => ?_) (fun e => ?_)⟩
    · have e1 : decide ((xs.length : Int) ≤ M) = false := decide_eq_false (by
        have := of_decide_eq_true e
        omega)
      rw [e1, Bool.false_and] at hq
      exact hq H (Same.refl H)
    have e1 : decide ((xs.length : Int) ≤ M) = true := decide_eq_true (by
      have : ¬ (M < (xs.length : Int)) := fun z => e (decide_eq_true z)
      omega)
    rw [e1, Bool.true_and] at hq
    have big : 100000 ≤ sizeLine := by decide
    refine ⟨_, rfl, p, rfl, ⟨_, hp⟩, fun D hD => ?_⟩
    refine lc_it (g := gName 2) (tt := tYes) (vs := [2]) (walk_tup (K := K) (a := p) (xs := xs)) (fun j G => G D = some (.lst ((xs.take j).map fun x => V.bl (nameV x))) ∧ Same H G)
      ⟨upd_same, same_new (Same.refl H) hD⟩ (fun j G _ h => sqT_sm h.2 hp) (fun j u Gx G hj h hy => ?_) (fun G h => ?_)
    · obtain ⟨eD, sm⟩ := h
      obtain ⟨rfl, hu⟩ := hy
      refine ⟨rfl, _, rfl, u, rfl, (hx u (List.mem_of_getElem? hu)).same sm, _, eD, ?_, ?_, fun b o e => by rw [upd_ne (ne_of_none e hD)]; exact sm b o e⟩
      · rw [List.length_map, List.length_take]
        omega
      · rw [upd_same, take_snoc hu, List.map_append]
        rfl
    · obtain ⟨eD, sm⟩ := h
      rw [List.take_length] at eD
      refine ⟨D, xs.map nameV, rfl, .inl (.inl (by rw [eD, List.map_map]; rfl)), _, rfl, ?_⟩
      have ea : (xs.map nameV).all id = xs.all nameV := by rw [List.all_map]; rfl
      rw [ea]
      cases hall : xs.all nameV with
      | false =>
        unfold sortB at hq
        rw [hall, Bool.false_and] at hq
        exact hq _ sm
      | true =>
        unfold sortB at hq
        rw [hall, Bool.true_and] at hq
        have hxt := names_texts xs hall
        have hok := names_ok xs hall
        generalize xs.map textOf = zs at hq hxt hok
        subst hxt
        refine ⟨_, rfl, p, _, rfl, .inr (sqT_sm sm hp), fun l nl => ?_⟩
        have sm2 := same_new (o := .lst (zs.map V.str)) sm nl
        refine ⟨_, rfl, p, zs, rfl, sqT_sm sm2 hp, by rw [List.length_map] at hlen; omega, fun ys l2 hperm hsrt nl2 => ?_⟩
        refine ⟨.list (tD zs), .list (tD ys), ?_, ?_, shaped_texts hok, shaped_texts (fun z hz => hok z (hperm.mem_iff.mp hz)), ?_⟩
        · exact .lst (.inl (.inl (by rw [upd_ne (ne_of_none upd_same nl2), upd_same]))) (dp_texts zs)
        · exact .lst (.inl (.inl upd_same)) (dp_texts ys)
        · rw [PyData.eqv, eqv_texts, eq_sorted_iff hperm hsrt]
          exact hq _ (same_new sm2 nl2)
/-- a digit of texts -/
theorem sortArg_texts {H : Hp} {a : Addr} {zs : List Str} {n : Nat} (h : SqT K H a (zs.map V.str)) (hl : zs.length ≤ 1000) (hz : ∀ z ∈ zs, z.length ≤ 1000) : SortArg K H (.ref a) (n : Int) (decide (zs.length ≤ n) && (zs.all nameB && sortedS zs)) := by
  refine .inr ⟨a, _, rfl, h, by rw [List.length_map]; exact hl, fun x hx => ?_, ?_⟩
  · obtain ⟨z, hz', rfl⟩ := List.mem_map.mp hx
    exact .inl ⟨z, rfl, Nat.le_trans (hz z hz') (by decide)⟩
  · unfold sortB
    rw [List.length_map, List.all_map, List.map_map]
    have e1 : (nameV ∘ V.str) = nameB := rfl
    have e2 : zs.map (textOf ∘ V.str) = zs := List.map_id' zs
    rw [e1, e2, show decide (((zs.length : Nat) : Int) ≤ (n : Int)) = decide (zs.length ≤ n) by rw [decide_eq_decide]; omega]
/-! ### values that are no rows -/
/-- a tuple, and what is_sorted says of each of its items -/
structure Digs (K : PySem.W.Frag) (H : Hp) (p : Addr) (xs : List V) (bs : List Bool) : Prop where
  e : SqT K H p xs
  few : xs.length ≤ 1000
  len : bs.length = xs.length
  at_ : ∀ (i : Nat) (x : V) (c : Bool), xs[i]? = some x → bs[i]? = some c → SortArg K H x 20 c
theorem Digs.same {H H' : Hp} {p : Addr} {xs : List V} {bs : List Bool} (h : Digs K H p xs bs) (s : Same H H') : Digs K H' p xs bs := ⟨sqT_sm s h.e, h.few, h.len, fun i x c e1 e2 => (h.at_ i x c e1 e2).same s⟩
def BadV (K : PySem.W.Frag) (H : Hp) (v : V) : Prop := Not K H v "tuple" ∨ ∃ (p : Addr) (xs : List V) (bs : List Bool), v = .ref p ∧ Digs K H p xs bs ∧ bs.all id = false
theorem BadV.same {H H' : Hp} {v : V} (h : BadV K H v) (s : Same H H') : BadV K H' v := by
  rcases h with h | ⟨p, xs, bs, e, hd, hb⟩
  · exact .inl (h.same s)
  · exact .inr ⟨p, xs, bs, e, hd.same s, hb⟩
def spBad (K : PySem.W.Frag) : Sp := fun vs H Q _ => ∃ v : V, vs = [v] ∧ BadV K H v ∧ ∀ H', Same H H' → Q (.bl false) H'
theorem ok_digB {f : Addr} {fd : FuncData} (F : Fun K "are_digits" "are_digits" s_are_digits f fd) (T : Top K mg) : FnOk P w K mg base CX0 4 f fd ["value"] (spBad K) := by
  obtain ⟨tm, gm⟩ := T.g_LOOSE_DIGIT
  have cs : CalO P w K mg base 3 "is_sorted" ["value", "most"] 1 ["most"] (fun vs zs => vs ++ zs) (spSortA K) := T.d_is_sorted.calO fun f fd F => ok_sortA F T
  refine F.ok sc_are_digits (fun vs H Q E h => ?_) (fun cdv A outer s H vs Q E hr h => ?_)
  · obtain ⟨v, rfl, _⟩ := h
    rfl
  · obtain ⟨v, rfl, hv, q⟩ := h
    refine ⟨_, pss_one (ps_ret (pe_and (pe_callB call_isi (by rfl) T.b_isinstance (by decide +kernel) (pa_cons (pv 0) (pa_cons (pe_bltn (v := .ty "tuple") (by rfl) T.b_tuple (by decide +kernel) rfl) pa_nil)))
      (pe_one (pe_callB (cr_all rfl) (by rfl) T.b_all (by decide +kernel) (pa_cons (pe_lc (own := [("digit", 1)]) (g := gName 1) (tt := tYes) rfl sc_are_digits.nd (pi_tup (pv 0))
        (blkOk_by (N := NDG) (sc := defScope s_are_digits) (by decide +kernel)) (fun _ _ _ _ _ => pg_name (i := 1) sc_are_digits.nd rfl (.inl rfl)) (fun _ _ _ _ _ => pts_nil)
        (fun _ _ _ _ _ => pe_calO cs hr (by rfl) (pa_cons (pv 1) pa_nil) (pk_cons (pe_glob (v := .int 20) (by rfl) gm ⟨_, rfl⟩) pk_nil))) pa_nil))))), ?_⟩
    have big : 100000 ≤ sizeLine := by decide
    rcases hv with ⟨t, ht, hk⟩ | ⟨p, xs, bs, rfl, hd, hb⟩
    · refine ⟨_, rfl, _, .ty "tuple", t, .type "tuple", false, rfl, .ty _, ht, hk, false, rfl, ?_⟩
      exact q H (Same.refl H)
    refine ⟨_, rfl, _, .ty "tuple", .type "tuple", .type "tuple", true, rfl, .ty _, tyx_sqT hd.e, kit_ty (by decide +kernel), true, rfl, ?_⟩
    rw [if_pos rfl]
    refine ⟨_, rfl, p, rfl, ⟨_, hd.e⟩, fun D hD => ?_⟩
    have few := hd.few
    have len := hd.len
    refine lc_it (g := gName 1) (tt := tYes) (vs := [1]) (walk_tup (K := K) (a := p) (xs := xs)) (fun j G' => G' D = some (.lst ((bs.take j).map V.bl)) ∧ Same H G')
      ⟨upd_same, same_new (Same.refl H) hD⟩ (fun j G' _ h => sqT_sm h.2 hd.e) (fun j u Gx G' hj h hy => ?_) (fun G' h => ?_)
    · obtain ⟨eD, sm⟩ := h
      obtain ⟨rfl, hu⟩ := hy
      have hc : bs[j]? = some bs[j] := List.getElem?_eq_getElem (by omega)
      generalize bs[j] = c at hc
      refine ⟨rfl, _, rfl, rfl, rfl, u, 20, c, rfl, by decide, by decide, (hd.at_ j u c hu hc).same sm, fun G3 s3 => ?_⟩
      refine ⟨_, s3 _ _ eD, ?_, ?_, fun b o e => by rw [upd_ne (ne_of_none e hD)]; exact s3 _ _ (sm b o e)⟩
      · rw [List.length_map, List.length_take]
        omega
      · rw [upd_same, take_snoc hc, List.map_append]
        rfl
    · obtain ⟨eD, sm⟩ := h
      rw [← len, List.take_length] at eD
      refine ⟨D, _, rfl, .inl (.inl eD), ?_⟩
      rw [hb]
      exact q G' sm
theorem ok_ldigB {f : Addr} {fd : FuncData} (F : Fun K "are_loose_digits" "are_loose_digits" s_are_loose_digits f fd) (T : Top K mg) : FnOk P w K mg base CX0 5 f fd ["value"] (spBad K) := by
  obtain ⟨tm, gm⟩ := T.g__LOOSE_RANKS
  have cd : Cal P w K mg base 4 "are_digits" ["value"] (spBad K) := T.d_are_digits.cal fun f fd F => ok_digB F T
  refine F.ok sc_are_loose_digits (fun vs H Q E h => ?_) (fun cdv A outer s H vs Q E hr h => ?_)
  · obtain ⟨v, rfl, _⟩ := h
    rfl
  · obtain ⟨v, rfl, hv, q⟩ := h
    refine ⟨_, pss_one (ps_ret (pe_and (pe_callB call_isi (by rfl) T.b_isinstance (by decide +kernel) (pa_cons (pv 0) (pa_cons (pe_bltn (v := .ty "tuple") (by rfl) T.b_tuple (by decide +kernel) rfl) pa_nil)))
      (pe_and (pe_cmpR op_le (pe_callB call_len_seq (by rfl) T.b_len PySem.boot_len (pa_cons (pv 0) pa_nil)) (pe_glob (v := .int 402) (by rfl) gm ⟨_, rfl⟩) (nomark _))
        (pe_one (pe_cal cd hr (by rfl) (pa_cons (pv 0) pa_nil)))))), ?_⟩
    rcases hv with ⟨t, ht, hk⟩ | ⟨p, xs, bs, rfl, hd, hb⟩
    · refine ⟨_, rfl, _, .ty "tuple", t, .type "tuple", false, rfl, .ty _, ht, hk, false, rfl, ?_⟩
      exact q H (Same.refl H)
    refine ⟨_, rfl, _, .ty "tuple", .type "tuple", .type "tuple", true, rfl, .ty _, tyx_sqT hd.e, kit_ty (by decide +kernel), true, rfl, ?_⟩
    rw [if_pos rfl]
    refine ⟨_, rfl, p, _, rfl, .inr hd.e, _, _, rfl, rfl, _, rfl, ?_⟩
    split
    · exact ⟨_, rfl, .ref p, rfl, .inr ⟨p, xs, bs, rfl, hd, hb⟩, q⟩
    · exact q H (Same.refl H)
theorem ok_looseB {f : Addr} {fd : FuncData} (F : Fun K "is_loose" "is_loose" s_is_loose f fd) (T : Top K mg) : FnOk P w K mg base CX0 6 f fd ["value"] (spBad K) := by
  have cd : Cal P w K mg base 5 "are_loose_digits" ["value"] (spBad K) := T.d_are_loose_digits.cal fun f fd F => ok_ldigB F T
  refine F.ok sc_is_loose (fun vs H Q E h => ?_) (fun cdv A outer s H vs Q E hr h => ?_)
  · obtain ⟨v, rfl, _⟩ := h
    rfl
  · obtain ⟨v, rfl, hv, q⟩ := h
    refine ⟨_, pss_one (ps_ret (pe_and (pe_cal cd hr (by rfl) (pa_cons (pv 0) pa_nil)) (pe_one (pe_cmpR (op_neD hr.units) (pe_slice sl_tupS (pv 0) (po_some (pe_un un_neg pe_int)) po_none) (pe_tup (pa_cons (pe_tup pa_nil) pa_nil)) (by rfl))))), ?_⟩
    exact ⟨_, rfl, v, rfl, hv, fun H1 s1 => ⟨_, rfl, q H1 s1⟩⟩
/-- is_loose of a value that is none, or of digits -/
def spLooseA (K : PySem.W.Frag) : Sp := fun vs H Q E => spBad K vs H Q E ∨ spLoose K vs H Q E
theorem ok_looseA {f : Addr} {fd : FuncData} (F : Fun K "is_loose" "is_loose" s_is_loose f fd) (T : Top K mg) : FnOk P w K mg base CX0 6 f fd ["value"] (spLooseA K) := FnOk.or (ok_looseB F T) (ok_loose F T)
/-! ### is_digit -/
def spDigitA (K : PySem.W.Frag) : Sp := fun vs H Q _ => ∃ (v : V) (b : Bool), vs = [v] ∧ SortArg K H v 3 b ∧ ∀ H', Same H H' → Q (.bl b) H'
theorem ok_digitA {f : Addr} {fd : FuncData} (F : Fun K "is_digit" "is_digit" s_is_digit f fd) (T : Top K mg) : FnOk P w K mg base CX0 4 f fd ["value"] (spDigitA K) := by
  obtain ⟨tm, gm⟩ := T.g_MAX_DIGIT
  have cs : CalO P w K mg base 3 "is_sorted" ["value", "most"] 1 ["most"] (fun vs zs => vs ++ zs) (spSortA K) := T.d_is_sorted.calO fun f fd F => ok_sortA F T
  refine F.ok sc_is_digit (fun vs H Q E h => ?_) (fun cdv A outer s H vs Q E hr h => ?_)
  · obtain ⟨v, b, rfl, _⟩ := h
    rfl
  · obtain ⟨v, b, rfl, hv, q⟩ := h
    refine ⟨_, pss_one (ps_ret (pe_calO cs hr (by rfl) (pa_cons (pv 0) pa_nil) (pk_cons (pe_glob (v := .int 3) (by rfl) gm ⟨_, rfl⟩) pk_nil))), ?_⟩
    exact ⟨_, rfl, rfl, rfl, v, 3, b, rfl, by decide, by decide, hv, q⟩
end
end Kl

set_option maxRecDepth 100000
set_option maxHeartbeats 4000000
namespace Kl
open PySem PySem.Spec PyProof.Rows L2 Gx Mx
/-! ### is_row -/
def RowOk (leaf : Str) (M : Mak) (qs : List (List Str)) : Prop := looseB qs = true ∧ qs.length ≤ 400 ∧ (∀ q ∈ qs, q.length ≤ 3) ∧ Exist leaf M qs
def accG (g : Nat → Str → Bool) (qs : List (List Str)) (j : Nat) : List Bool := ((List.range j).map fun i => (dg qs i).map (g i)).flatten
theorem accF_bl (g : Nat → Str → Bool) (qs : List (List Str)) : ∀ j, accF (fun i z => V.bl (g i z)) qs j = (accG g qs j).map V.bl
  | 0 => rfl
  | j + 1 => by
    have e : accG g qs (j + 1) = accG g qs j ++ (dg qs j).map (g j) := by
      unfold accG
      rw [List.range_succ, List.map_append, List.flatten_append]
      simp
    rw [accF_succ, accF_bl g qs j, e, List.map_append, List.map_map]
    rfl
theorem accG_all {g : Nat → Str → Bool} {qs : List (List Str)} : (accG g qs qs.length).all id = true ↔ ∀ i, ∀ z ∈ dg qs i, g i z = true := by
  rw [List.all_eq_true]
  constructor
  · intro h i z hz
    by_cases c : i < qs.length
    · refine h _ (List.mem_flatten.mpr ⟨_, List.mem_map.mpr ⟨i, List.mem_range.mpr c, rfl⟩, List.mem_map.mpr ⟨z, hz, rfl⟩⟩)
    · rw [dg_none (by omega)] at hz
      cases hz
  · intro h b hb
    obtain ⟨l, hl, hb⟩ := List.mem_flatten.mp hb
    obtain ⟨i, _, rfl⟩ := List.mem_map.mp hl
    obtain ⟨z, hz, rfl⟩ := List.mem_map.mp hb
    exact h i z hz
section
variable {P : Program} {w : World} {K : PySem.W.Frag} {mg : Str → Option Value} {base : Heap}
abbrev NKY' : List Str := ["kinds", "value", "sizes", "digit", "here", "name"]
def spRow (K : PySem.W.Frag) (C : Addr) : Sp := fun vs H Q _ => ∃ (x md : Addr) (v : V) (leaf : Str) (M : Mak) (ns : List Str), vs = [V.ref x, v] ∧ KindsAt C H x md leaf M ns ∧ Vld leaf M ∧
  ((BadV K H v ∧ ∀ H', Same H H' → Q (.bl false) H') ∨ ∃ (p : Addr) (LL : List (Addr × List Str)), v = .ref p ∧ RowAt K H p LL ∧ Few (LL.map (·.2)) ∧ ∀ b H', (b = true ↔ RowOk leaf M (LL.map (·.2))) → Same H H' → Q (.bl b) H')
theorem ok_row {C f : Addr} {fd : FuncData} (F : Fun K "is_row" "is_row" s_is_row f fd) (T : Top K mg) (TC : Cl_Kinds K mg C) : FnOk P w K mg base CX0 8 f fd ["kinds", "value"] (spRow K C) := by
  obtain ⟨tm, gm⟩ := T.g_MAX_RANKS
  have cl : Cal P w K mg base 7 "is_loose" ["value"] (spLooseA K) := (T.d_is_loose.cal fun f fd F => ok_looseA F T).mono (by decide)
  have cg : Cal P w K mg base 7 "is_digit" ["value"] (spDigitA K) := (T.d_is_digit.cal fun f fd F => ok_digitA F T).mono (by decide)
  have ck : Cal P w K mg base 7 "_check_kinds" ["kinds"] (spChkK C) := (T.d_check_kinds.cal fun f fd F => ok_chkK F T TC).mono (by decide)
  have cs : Cal P w K mg base 7 "sums_by_rank" ["leaf", "parts_of", "ranks"] (spSumsBy K) := (T.d_sums_by_rank.cal fun f fd F => ok_sumsBy F T).mono (by decide)
  have kMak : CalP P w K mg base C "makings" 6 (spKMak C) := (TC.p_makings.cal fun f fd F => ok_kmak F T TC).mono (by decide)
  have kLeaf : CalP P w K mg base C "leaf" 6 (spKLeaf C) := (TC.p_leaf.cal fun f fd F => ok_kleaf F TC).mono (by decide)
  refine F.ok sc_is_row (fun vs H Q E h => ?_) (fun cdv A outer s H vs Q E hr h => ?_)
  · obtain ⟨x, md, v, leaf, M, ns, rfl, _⟩ := h
    rfl
  · obtain ⟨x, md, v, leaf, M, ns, rfl, hK, hV, hv⟩ := h
    have hu := hu_of hr
    refine ⟨_, pss_cons (ps_expr (pe_cal ck hr (by rfl) (pa_cons (pv 0) pa_nil)))
      (pss_cut (ps_if (PW.pt (pw_or (pt_not (pt_val (pe_cal cl hr (by rfl) (pa_cons (pv 1) pa_nil)))) (pw_or1 (pt_cmpR op_gt (pe_callB call_len_seq (by rfl) T.b_len PySem.boot_len (pa_cons (pv 1) pa_nil)) (pe_glob (v := .int 400) (by rfl) gm ⟨_, rfl⟩) (nomark _))))) (pss_one (ps_ret pe_bl)) pss_nil)
      (pss_cut (ps_if (pt_not (pt_val (pe_callB (cr_all rfl) (by rfl) T.b_all (by decide +kernel) (pa_cons (pe_lc (own := [("digit", 3)]) (g := gName 3) (tt := tYes) rfl sc_is_row.nd (pi_tup (pv 1))
          (blkOk_by (N := NKY') (sc := defScope s_is_row) (by decide +kernel)) (fun _ _ _ _ _ => pg_name (i := 3) sc_is_row.nd rfl (.inl rfl)) (fun _ _ _ _ _ => pts_nil)
          (fun _ _ _ _ _ => pe_cal cg hr (by rfl) (pa_cons (pv 3) pa_nil))) pa_nil)))) (pss_one (ps_ret pe_bl)) pss_nil)
      (pss_cut (ps_set (i := 2) sc_is_row.nd rfl (.inl rfl) (pe_cal cs hr (by rfl) (pa_cons (pe_propC (pv 0) TC.cl kLeaf hr rfl) (pa_cons (pe_propC (pv 0) TC.cl kMak hr rfl) (pa_cons (pe_callB call_len_seq (by rfl) T.b_len PySem.boot_len (pa_cons (pv 1) pa_nil)) pa_nil)))))
      (pss_one (ps_ret (pe_callB (cr_all rfl) (by rfl) T.b_all (by decide +kernel) (pa_cons (pe_lc2 (own := [("digit", 3), ("here", 4), ("name", 5)]) (vs1 := [5]) (g := gTup K 2 (gCons (gName 3) (gCons (gName 4) gNil))) (g1 := gName 5) (tt := tYes) (tt1 := tYes) rfl sc_is_row.nd
          (pi_zipM (by rfl) T.b_zip (pa_cons (pv 1) (pa_cons (pv 2) pa_nil)))
          (blkOk_by (N := NKY') (sc := defScope s_is_row) (by decide +kernel)) (by decide)
          (fun _ _ _ _ _ => pg_tup rfl (pgs_cons (pg_name (i := 3) sc_is_row.nd rfl (.inl rfl)) (pgs_cons (pg_name (i := 4) sc_is_row.nd rfl (.inl rfl)) pgs_nil)))
          (fun _ _ _ _ _ => pts_nil) (fun _ _ _ _ _ => pi_tupK (K := K) (by exact rfl) (pv 3)) (fun _ _ _ _ _ => pg_name (i := 5) sc_is_row.nd rfl (.inl rfl)) (fun _ _ _ _ _ => pts_nil)
          (fun _ _ _ _ _ => pe_cmp (pc_din hu (pv 5) (pv 4)))) pa_nil))))))), ?_⟩
    have big : 100000 ≤ sizeLine := by decide
    refine ⟨_, rfl, x, md, leaf, M, ns, rfl, hK, ?_⟩
    rcases hv with ⟨hbad, q⟩ | ⟨p, LL, rfl, hR, hF, q⟩
    · refine ⟨fun _ _ => False, ?_, fun _ _ h => h.elim⟩
      refine ⟨_, rfl, .inl ⟨v, rfl, hbad, fun H1 s1 => ⟨_, rfl, ?_⟩⟩⟩
      show (if (!false) = true then _ else _)
      rw [if_pos (by decide)]
      show (if true = true then _ else _)
      rw [if_pos rfl]
      exact q H1 s1
    have l1000 : LL.length ≤ 1000 := by
      have := hF.1
      rw [List.length_map] at this
      exact this
    refine ⟨fun σ' G => σ' = [some (.ref x), some (.ref p), none, none, none, none] ∧ Same H G ∧ looseB (LL.map (·.2)) = true ∧ LL.length ≤ 400, ?_, ?_⟩
    · refine ⟨_, rfl, .inr ⟨p, LL, rfl, hR, hF, fun H1 s1 => ⟨_, rfl, ?_⟩⟩⟩
      cases c : looseB (LL.map (·.2)) with
      | false =>
        show (if (!false) = true then _ else _)
        rw [if_pos (by decide)]
        show (if true = true then _ else _)
        rw [if_pos rfl]
        exact q false H1 ⟨nofun, fun h => by have h1 := h.1; rw [c] at h1; exact h1⟩ s1
      | true =>
        show (if (!true) = true then _ else _)
        rw [if_neg (by decide)]
        refine ⟨_, rfl, p, _, rfl, .inr (hR.same s1).e, _, _, rfl, rfl, _, rfl, ite2 (fun e => ?_) (fun e => ?_)⟩
        · refine q false H1 ⟨nofun, fun h => ?_⟩ s1
          have h1 := h.2.1
          have h2 := of_decide_eq_true e
          rw [List.length_map] at h1 h2
          omega
        · refine ⟨rfl, s1, rfl, ?_⟩
          have h2 : ¬ (((LL.map fun q => V.ref q.1).length : Nat) : Int) > 400 := fun h => e (decide_eq_true h)
          rw [List.length_map] at h2
          omega
    rintro σ' G1 ⟨rfl, s1, hL, l400⟩
    have hR1 := hR.same s1
    obtain ⟨m1, g1, _⟩ := loose_facts hL
    have g2 : ∀ q ∈ LL, q.2.length ≤ 20 ∧ (q.2.all nameB && sortedS q.2) = true := fun q hq => by
      have h := g1 q.2 (List.mem_map.mpr ⟨q, hq, rfl⟩)
      unfold goodB at h
      rw [Bool.and_eq_true] at h
      exact ⟨of_decide_eq_true h.1, h.2⟩
    refine ⟨fun σ' G => σ' = [some (.ref x), some (.ref p), none, none, none, none] ∧ Same H G ∧ ∀ q ∈ LL, q.2.length ≤ 3, ?_, ?_⟩
    · refine ⟨_, rfl, p, rfl, ⟨_, hR1.e⟩, fun D hD => ?_⟩
      refine lc_it (g := gName 3) (tt := tYes) (vs := [3]) (walk_tup (K := K) (a := p) (xs := LL.map fun q => V.ref q.1)) (fun j G => G D = some (.lst (((LL.take j).map fun q => decide (q.2.length ≤ 3) && (q.2.all nameB && sortedS q.2)).map V.bl)) ∧ Same G1 G)
        ⟨upd_same, same_new (Same.refl G1) hD⟩ (fun j G _ h => sqT_sm h.2 hR1.e) (fun j u Gx G hj h hy => ?_) (fun G h => ?_)
      · obtain ⟨eD, sm⟩ := h
        obtain ⟨rfl, hu⟩ := hy
        have hu : (LL.map fun q => V.ref q.1)[j]? = some u := hu
        rw [List.getElem?_map] at hu
        obtain ⟨q0, hq0, rfl⟩ := Option.map_eq_some_iff.mp hu
        have hm0 := List.mem_of_getElem? hq0
        obtain ⟨f1, f2⟩ := hF.2 q0.2 (List.mem_map.mpr ⟨q0, hm0, rfl⟩)
        refine ⟨rfl, _, rfl, .ref q0.1, _, rfl, sortArg_texts (n := 3) (sqT_sm sm (hR1.t q0 hm0)) f1 f2, fun G3 s3 => ?_⟩
        refine ⟨_, s3 _ _ eD, ?_, ?_, fun b o e => by rw [upd_ne (ne_of_none e hD)]; exact s3 _ _ (sm b o e)⟩
        · rw [List.length_map, List.length_map, List.length_take]
          omega
        · rw [upd_same, take_snoc hq0, List.map_append, List.map_append]
          rfl
      · obtain ⟨eD, sm⟩ := h
        rw [List.length_map, List.take_length] at eD
        refine ⟨D, _, rfl, .inl (.inl eD), _, rfl, ?_⟩
        have sH : Same H G := fun b o e => sm _ _ (s1 _ _ e)
        rw [List.all_map]
        cases c : LL.all (id ∘ fun q => decide (q.2.length ≤ 3) && (q.2.all nameB && sortedS q.2)) with
        | false =>
          show (if (!false) = true then _ else _)
          rw [if_pos (by decide)]
          refine q false G ⟨nofun, fun h => ?_⟩ sH
          have h3 : LL.all (id ∘ fun q => decide (q.2.length ≤ 3) && (q.2.all nameB && sortedS q.2)) = true := List.all_eq_true.mpr fun q hq => by
            show (decide (q.2.length ≤ 3) && (q.2.all nameB && sortedS q.2)) = true
            rw [(g2 q hq).2, decide_eq_true (h.2.2.1 q.2 (List.mem_map.mpr ⟨q, hq, rfl⟩))]
            rfl
          rw [c] at h3
          exact h3
        | true =>
          show (if (!true) = true then _ else _)
          rw [if_neg (by decide)]
          refine ⟨rfl, sH, fun q hq => ?_⟩
          have h3 := List.all_eq_true.mp c q hq
          have h3 : (decide (q.2.length ≤ 3) && (q.2.all nameB && sortedS q.2)) = true := h3
          rw [Bool.and_eq_true] at h3
          exact of_decide_eq_true h3.1
    rintro σ' G2 ⟨rfl, s2, l3⟩
    have hV3 : ∀ m ∈ M, m.2.length ≤ 3 := fun m hm => (hV.parts m hm).2.2.1
    obtain ⟨dx, nt, kvs0, hx, hmd0, hM0, _⟩ := id hK
    have hK2 := hK.same s2
    have hR2 := hR.same s2
    refine ⟨fun σ' G => ∃ (bl : Addr) (ds : List Addr), σ' = [some (.ref x), some (.ref p), some (.ref bl), none, none, none] ∧ G bl = some (.lst (ds.map V.ref)) ∧ LL.length ≤ ds.length ∧ RowsAt G leaf M ds ∧ Same H G, ?_, ?_⟩
    · refine ⟨_, rfl, x, dx, _, rfl, s2 _ _ hx, x, md, leaf, M, ns, rfl, hK2, ?_⟩
      refine ⟨_, rfl, x, dx, _, rfl, s2 _ _ hx, x, md, leaf, M, ns, rfl, hK2, fun pm kvs npm hMp => ?_⟩
      have s3 := same_new (o := .dK kvs) (Same.refl G2) npm
      refine ⟨_, rfl, p, _, rfl, .inr (hR2.same s3).e, ?_⟩
      rw [List.length_map]
      refine ⟨leaf, pm, LL.length, kvs, M, rfl, by omega, upd_same, (hMp.same fun _ _ h => h.mono s3).parts, hV.len, hV.nd, hV3, fun bl ds G s4 nbl ebl ll hRw => ?_⟩
      exact ⟨bl, ds, rfl, ebl, by omega, hRw, fun b o e => s4 _ _ (s3 _ _ (s2 _ _ e))⟩
    rintro σ' G ⟨bl, ds, rfl, ebl, ll, hRw, s3⟩
    have hR3 := hR.same s3
    refine ⟨_, rfl, _, rfl, p, bl, _, _, rfl, hR3.e, .inl (.inl ebl), fun D hD => ?_⟩
    refine two_for (wi1 := iTup K (tVar 3)) (te := tDIn (tVar 5) (tVar 4)) (fun i z => V.bl (decide (z ∈ keysR (rowsR leaf M i)))) hR3 ebl hRw ll (fun q hq => (g2 q hq).1) (by omega) (fun G' R a da xs ha h => ⟨_, rfl, a, rfl, ⟨_, ha⟩, h⟩) (fun i q da z G' Q hi hz hda h => ?_) hD (fun G' eD s4 => ?_)
    · refine ⟨_, rfl, _, rfl, da, _, rfl, .inl ⟨_, Sum.inr z, .inl hda, rfl, rfl⟩, ?_⟩
      rw [rowK_some]
      exact h
    · rw [accF_bl (fun i z => decide (z ∈ keysR (rowsR leaf M i)))] at eD
      refine ⟨D, _, rfl, .inl (.inl eD), ?_⟩
      refine q _ G' ?_ fun b o e => s4 _ _ (s3 _ _ e)
      have e := accG_all (g := fun i z => decide (z ∈ keysR (rowsR leaf M i))) (qs := LL.map (·.2))
      rw [List.length_map] at e
      rw [e]
      constructor
      · intro h
        refine ⟨hL, by rw [List.length_map]; exact l400, fun q hq => ?_, fun i z hz => of_decide_eq_true (h i z hz)⟩
        obtain ⟨y, hy, rfl⟩ := List.mem_map.mp hq
        exact l3 y hy
      · intro h i z hz
        exact decide_eq_true (h.2.2.2 i z hz)
end
end Kl

set_option maxRecDepth 100000
set_option maxHeartbeats 4000000
namespace Kl
open PySem PySem.Spec PyProof.Rows L2 Gx Mx
section
variable {P : Program} {w : World} {K : PySem.W.Frag} {mg : Str → Option Value} {base : Heap}
/-! ### _check_loose, keys_of: what they refuse -/
def spChkX (K : PySem.W.Frag) (Co : Addr) : Sp := fun vs H Q E => ∃ v : V, vs = [v] ∧ ((BadV K H v ∧ ∀ H', Same H H' → E (.ref Co) none H') ∨
  ∃ (p : Addr) (LL : List (Addr × List Str)), v = .ref p ∧ RowAt K H p LL ∧ Few (LL.map (·.2)) ∧ (looseB (LL.map (·.2)) = false → ∀ H', Same H H' → E (.ref Co) none H') ∧ (looseB (LL.map (·.2)) = true → ∀ H', Same H H' → Q .non H'))
theorem ok_chkX {Co f : Addr} {fd : FuncData} (F : Fun K "_check_loose" "_check_loose" s_check_loose f fd) (T : Top K mg) (XO : XPln K mg "InvalidRow" "ValueError.__new__" "ValueError.__init__" [.type "ValueError", .type "Exception", .type "BaseException", .type "object"] Co) (XC : XCls K Co) :
    FnG P w K mg base (L2.CX P w) 7 f fd ["row"] (spChkX K Co) := by
  have cl : Cal P w K mg base 6 "is_loose" ["value"] (spLooseA K) := T.d_is_loose.cal fun f fd F => ok_looseA F T
  refine okGX F sc_check_loose (fun vs H Q E h => ?_) (fun cdv A outer s H vs Q E hg hr h => ?_)
  · obtain ⟨v, rfl, _⟩ := h
    rfl
  · obtain ⟨v, rfl, hv⟩ := h
    refine ⟨_, pss_one (ps_if (pt_not (pt_val (pe_cal cl hr (by rfl) (pa_cons (pv 0) pa_nil)))) (pss_one (ps_raise rfl (takes_of rfl rfl rfl rfl) (pmk_P PySem.F.excBase_ValueError XO XC (pa_cons pe_str pa_nil) (by rfl)))) pss_nil), ?_⟩
    rcases hv with ⟨hbad, qe⟩ | ⟨p, LL, rfl, hR, hF, qe, q⟩
    · refine ⟨_, rfl, .inl ⟨v, rfl, hbad, fun H1 s1 => ⟨_, rfl, ?_⟩⟩⟩
      show (if (!false) = true then _ else _)
      rw [if_pos (by decide)]
      exact ⟨by show 1 ≤ 1000; omega, qe H1 s1⟩
    · refine ⟨_, rfl, .inr ⟨p, LL, rfl, hR, hF, fun H1 s1 => ⟨_, rfl, ?_⟩⟩⟩
      cases c : looseB (LL.map (·.2)) with
      | false =>
        show (if (!false) = true then _ else _)
        rw [if_pos (by decide)]
        exact ⟨by show 1 ≤ 1000; omega, qe c H1 s1⟩
      | true =>
        show (if (!true) = true then _ else _)
        rw [if_neg (by decide)]
        exact q c H1 s1
def spKeysX (K : PySem.W.Frag) (C Co : Addr) : Sp := fun vs H Q E => ∃ (x md : Addr) (v : V) (leaf : Str) (M : Mak) (ns : List Str), vs = [V.ref x, v] ∧ KindsAt C H x md leaf M ns ∧ Vld leaf M ∧ ((BadV K H v ∧ ∀ H', Same H H' → E (.ref Co) none H') ∨
  ∃ (p : Addr) (LL : List (Addr × List Str)), v = .ref p ∧ RowAt K H p LL ∧ Few (LL.map (·.2)) ∧ (¬ (looseB (LL.map (·.2)) = true ∧ Exist leaf M (LL.map (·.2))) → ∀ H', Same H H' → E (.ref Co) none H') ∧
    (looseB (LL.map (·.2)) = true → Exist leaf M (LL.map (·.2)) → ∀ H', Same H H' → Q (.int ((keysL leaf M (LL.map (·.2)) LL.length).sum : Nat)) H'))
theorem ok_keysX {C Co f : Addr} {fd : FuncData} (F : Fun K "keys_of" "keys_of" s_keys_of f fd) (T : Top K mg) (TC : Cl_Kinds K mg C) (XO : XPln K mg "InvalidRow" "ValueError.__new__" "ValueError.__init__" [.type "ValueError", .type "Exception", .type "BaseException", .type "object"] Co) (XC : XCls K Co) :
    FnG P w K mg base (L2.CX P w) 8 f fd ["kinds", "row"] (spKeysX K C Co) := by
  have cc : CalX P w K mg base 7 "_check_loose" ["row"] (spChkX K Co) := T.d_check_loose.calX fun f fd F => ok_chkX F T XO XC
  have ck : Cal P w K mg base 7 "_check_kinds" ["kinds"] (spChkK C) := (T.d_check_kinds.cal fun f fd F => ok_chkK F T TC).mono (by decide)
  have cs : Cal P w K mg base 7 "sums_by_rank" ["leaf", "parts_of", "ranks"] (spSumsBy K) := (T.d_sums_by_rank.cal fun f fd F => ok_sumsBy F T).mono (by decide)
  have kMak : CalP P w K mg base C "makings" 6 (spKMak C) := (TC.p_makings.cal fun f fd F => ok_kmak F T TC).mono (by decide)
  have kLeaf : CalP P w K mg base C "leaf" 6 (spKLeaf C) := (TC.p_leaf.cal fun f fd F => ok_kleaf F TC).mono (by decide)
  refine okGX F sc_keys_of (fun vs H Q E h => ?_) (fun cdv A outer s H vs Q E hg hr h => ?_)
  · obtain ⟨x, md, v, leaf, M, ns, rfl, _⟩ := h
    rfl
  · obtain ⟨x, md, v, leaf, M, ns, rfl, hK, hV, hv⟩ := h
    have hu := hu_of hr
    refine ⟨_, pss_cons (ps_expr (pe_cal ck hr (by rfl) (pa_cons (pv 0) pa_nil)))
      (pss_cut (ps_expr (pe_calX cc hg hr (by rfl) (fun σ => passAt (takes_of rfl rfl rfl rfl) σ) (pa_cons (pv 1) pa_nil)))
      (pss_cut (ps_set (i := 2) sc_keys_of.nd rfl (.inl rfl) (pe_cal cs hr (by rfl) (pa_cons (pe_propC (pv 0) TC.cl kLeaf hr rfl) (pa_cons (pe_propC (pv 0) TC.cl kMak hr rfl) (pa_cons (pe_callB call_len_seq (by rfl) T.b_len PySem.boot_len (pa_cons (pv 1) pa_nil)) pa_nil)))))
      (pss_cut (ps_if (pt_not (pt_val (pe_callB (cr_all rfl) (by rfl) T.b_all (by decide +kernel) (pa_cons (pe_lc2 (own := [("digit", 3), ("here", 4), ("name", 5)]) (vs1 := [5]) (g := gTup K 2 (gCons (gName 3) (gCons (gName 4) gNil))) (g1 := gName 5) (tt := tYes) (tt1 := tYes) rfl sc_keys_of.nd
          (pi_zipM (by rfl) T.b_zip (pa_cons (pv 1) (pa_cons (pv 2) pa_nil)))
          (blkOk_by (N := NKY) (sc := defScope s_keys_of) (by decide +kernel)) (by decide)
          (fun _ _ _ _ _ => pg_tup rfl (pgs_cons (pg_name (i := 3) sc_keys_of.nd rfl (.inl rfl)) (pgs_cons (pg_name (i := 4) sc_keys_of.nd rfl (.inl rfl)) pgs_nil)))
          (fun _ _ _ _ _ => pts_nil) (fun _ _ _ _ _ => pi_tupK (K := K) (by exact rfl) (pv 3)) (fun _ _ _ _ _ => pg_name (i := 5) sc_keys_of.nd rfl (.inl rfl)) (fun _ _ _ _ _ => pts_nil)
          (fun _ _ _ _ _ => pe_cmp (pc_din hu (pv 5) (pv 4)))) pa_nil)))) (pss_one (ps_raise rfl (takes_of rfl rfl rfl rfl) (pmk_P PySem.F.excBase_ValueError XO XC (pa_cons pe_str pa_nil) (by rfl)))) pss_nil)
      (pss_one (ps_ret (pe_callB (cr_sum rfl) (by rfl) T.b_sum (by decide +kernel) (pa_cons (pe_lc2 (own := [("digit", 3), ("here", 4), ("name", 5)]) (vs1 := [5]) (g := gTup K 2 (gCons (gName 3) (gCons (gName 4) gNil))) (g1 := gName 5) (tt := tYes) (tt1 := tYes) rfl sc_keys_of.nd
          (pi_zipM (by rfl) T.b_zip (pa_cons (pv 1) (pa_cons (pv 2) pa_nil)))
          (blkOk_by (N := NKY) (sc := defScope s_keys_of) (by decide +kernel)) (by decide)
          (fun _ _ _ _ _ => pg_tup rfl (pgs_cons (pg_name (i := 3) sc_keys_of.nd rfl (.inl rfl)) (pgs_cons (pg_name (i := 4) sc_keys_of.nd rfl (.inl rfl)) pgs_nil)))
          (fun _ _ _ _ _ => pts_nil) (fun _ _ _ _ _ => pi_tupK (K := K) (by exact rfl) (pv 3)) (fun _ _ _ _ _ => pg_name (i := 5) sc_keys_of.nd rfl (.inl rfl)) (fun _ _ _ _ _ => pts_nil)
          (fun _ _ _ _ _ => pe_dget hu (pv 4) (pv 5) (fun _ _ => rfl))) pa_nil))))))), ?_⟩
    have big : 100000 ≤ sizeLine := by decide
    refine ⟨_, rfl, x, md, leaf, M, ns, rfl, hK, ?_⟩
    rcases hv with ⟨hbad, qe⟩ | ⟨p, LL, rfl, hR, hF, qe, q⟩
    · refine ⟨fun _ _ => False, ?_, fun _ _ h => h.elim⟩
      exact ⟨_, rfl, v, rfl, .inl ⟨hbad, qe⟩⟩
    refine ⟨fun σ' G => σ' = [some (.ref x), some (.ref p), none, none, none, none] ∧ Same H G ∧ looseB (LL.map (·.2)) = true, ?_, ?_⟩
    · refine ⟨_, rfl, .ref p, rfl, .inr ⟨p, LL, rfl, hR, hF, fun c => qe fun h => ?_, fun c H1 s1 => ⟨rfl, s1, c⟩⟩⟩
      have h1 := h.1
      rw [c] at h1
      cases h1
    rintro σ' G1 ⟨rfl, s1, hL⟩
    obtain ⟨m1, g1, _⟩ := loose_facts hL
    rw [List.length_map] at m1
    have hV3 : ∀ m ∈ M, m.2.length ≤ 3 := fun m hm => (hV.parts m hm).2.2.1
    have g2 : ∀ q ∈ LL, q.2.length ≤ 20 := fun q hq => (loose_few hL).2 _ (List.mem_map.mpr ⟨q, hq, rfl⟩)
    obtain ⟨dx, nt, kvs0, hx, hmd0, hM0, _⟩ := id hK
    have hK1 := hK.same s1
    have hR1 := hR.same s1
    refine ⟨fun σ' G => ∃ (bl : Addr) (ds : List Addr), σ' = [some (.ref x), some (.ref p), some (.ref bl), none, none, none] ∧ G bl = some (.lst (ds.map V.ref)) ∧ LL.length ≤ ds.length ∧ RowsAt G leaf M ds ∧ Same H G, ?_, ?_⟩
    · refine ⟨_, rfl, x, dx, _, rfl, s1 _ _ hx, x, md, leaf, M, ns, rfl, hK1, ?_⟩
      refine ⟨_, rfl, x, dx, _, rfl, s1 _ _ hx, x, md, leaf, M, ns, rfl, hK1, fun pm kvs npm hMp => ?_⟩
      have s2 := same_new (o := .dK kvs) (Same.refl G1) npm
      refine ⟨_, rfl, p, _, rfl, .inr (hR1.same s2).e, ?_⟩
      rw [List.length_map]
      refine ⟨leaf, pm, LL.length, kvs, M, rfl, by omega, upd_same, (hMp.same fun _ _ h => h.mono s2).parts, hV.len, hV.nd, hV3, fun bl ds G s3 nbl ebl ll hRw => ?_⟩
      exact ⟨bl, ds, rfl, ebl, by omega, hRw, fun b o e => s3 _ _ (s2 _ _ (s1 _ _ e))⟩
    rintro σ' G ⟨bl, ds, rfl, ebl, ll, hRw, s2⟩
    have hR2 := hR.same s2
    refine ⟨fun σ' G' => σ' = [some (.ref x), some (.ref p), some (.ref bl), none, none, none] ∧ Same G G' ∧ Exist leaf M (LL.map (·.2)), ?_, ?_⟩
    · refine ⟨_, rfl, _, rfl, p, bl, _, _, rfl, hR2.e, .inl (.inl ebl), fun D hD => ?_⟩
      refine two_for (wi1 := iTup K (tVar 3)) (te := tDIn (tVar 5) (tVar 4)) (fun i z => V.bl (decide (z ∈ keysR (rowsR leaf M i)))) hR2 ebl hRw ll g2 m1 (fun G' R a da xs ha h => ⟨_, rfl, a, rfl, ⟨_, ha⟩, h⟩) (fun i q da z G' Q hi hz hda h => ?_) hD (fun G' eD s3 => ?_)
      · refine ⟨_, rfl, _, rfl, da, _, rfl, .inl ⟨_, Sum.inr z, .inl hda, rfl, rfl⟩, ?_⟩
        rw [rowK_some]
        exact h
      · rw [accF_bl (fun i z => decide (z ∈ keysR (rowsR leaf M i)))] at eD
        have e := accG_all (g := fun i z => decide (z ∈ keysR (rowsR leaf M i))) (qs := LL.map (·.2))
        rw [List.length_map] at e
        refine ⟨D, _, rfl, .inl (.inl eD), _, rfl, ?_⟩
        have sG : Same H G' := fun b o e => s3 _ _ (s2 _ _ e)
        cases c : (accG (fun i z => decide (z ∈ keysR (rowsR leaf M i))) (LL.map (·.2)) LL.length).all id with
        | false =>
          show (if (!false) = true then _ else _)
          rw [if_pos (by decide)]
          refine ⟨by show 1 ≤ 1000; omega, qe (fun h => ?_) G' sG⟩
          rw [e.mpr fun i z hz => decide_eq_true (h.2 i z hz)] at c
          cases c
        | true =>
          show (if (!true) = true then _ else _)
          rw [if_neg (by decide)]
          exact ⟨rfl, s3, fun i z hz => of_decide_eq_true (e.mp c i z hz)⟩
    rintro σ' G' ⟨rfl, s3, hE⟩
    have hR3 := hR2.same s3
    have hin : ∀ {i : Nat} {q0 : Addr × List Str} {z : Str}, LL[i]? = some q0 → z ∈ q0.2 → z ∈ keysR (rowsR leaf M i) := fun {i q0 z} hi hz => by
      refine hE i z ?_
      unfold dg
      rw [List.getElem?_map, hi]
      exact hz
    refine ⟨_, rfl, _, rfl, p, bl, _, _, rfl, hR3.e, .inl (.inl (s3 _ _ ebl)), fun D hD => ?_⟩
    refine two_for (wi1 := iTup K (tVar 3)) (te := tDGet (tVar 4) (tVar 5)) (fun i z => V.int (getR (rowsR leaf M i) z : Nat)) hR3 (s3 _ _ ebl) (hRw.same s3) ll g2 m1 (fun G' R a da xs ha h => ⟨_, rfl, a, rfl, ⟨_, ha⟩, h⟩) (fun i q da z G' Q hi hz hda h => ?_) hD (fun G' eD s4 => ?_)
    · exact ⟨_, rfl, _, rfl, da, _, rfl, .inl ⟨_, Sum.inr z, .inl hda, rfl, (rowK_get (hin hi hz)).symm⟩, h⟩
    · rw [accF_keys] at eD
      have e5 : G' D = some (.lst (((keysL leaf M (LL.map (·.2)) LL.length).map fun n => ((n : Nat) : Int)).map V.int)) := by
        rw [eD, List.map_map]
        rfl
      refine ⟨D, _, rfl, .inl (.inl e5), ?_⟩
      rw [cast_sumN]
      exact q hL hE G' fun b o e => s4 _ _ (s3 _ _ (s2 _ _ e))
/-! ### _law_told -/
/-- what the law tells of a value: its keys, or -1 -/
def spTold (K : PySem.W.Frag) (C : Addr) : Sp := fun vs H Q _ => ∃ (x md : Addr) (v : V) (leaf : Str) (M : Mak) (ns : List Str), vs = [V.ref x, v] ∧ KindsAt C H x md leaf M ns ∧ Vld leaf M ∧ ((BadV K H v ∧ ∀ H', Same H H' → Q (.int (-1)) H') ∨
  ∃ (p : Addr) (LL : List (Addr × List Str)), v = .ref p ∧ RowAt K H p LL ∧ Few (LL.map (·.2)) ∧ (¬ (looseB (LL.map (·.2)) = true ∧ Exist leaf M (LL.map (·.2))) → ∀ H', Same H H' → Q (.int (-1)) H') ∧
    (looseB (LL.map (·.2)) = true → Exist leaf M (LL.map (·.2)) → ∀ H', Same H H' → Q (.int ((keysL leaf M (LL.map (·.2)) LL.length).sum : Nat)) H'))
theorem ok_told {C Co f : Addr} {fd : FuncData} (F : Fun K "_law_told" "_law_told" s_law_told f fd) (T : Top K mg) (TC : Cl_Kinds K mg C) (XO : XPln K mg "InvalidRow" "ValueError.__new__" "ValueError.__init__" [.type "ValueError", .type "Exception", .type "BaseException", .type "object"] Co) (XC : XCls K Co)
    (te : PySem.W.exmOne K (.ref Co) (.ref Co) = some true) : FnG P w K mg base CX0 9 f fd ["_law_kinds", "_law_row"] (spTold K C) := by
  have cy : CalX P w K mg base 8 "keys_of" ["kinds", "row"] (spKeysX K C Co) := T.d_keys_of.calX fun f fd F => ok_keysX F T TC XO XC
  refine okG F sc_law_told (fun vs H Q E h => ?_) (fun cdv A outer s H vs Q E hg hr h => ?_)
  · obtain ⟨x, md, v, leaf, M, ns, rfl, _⟩ := h
    rfl
  · obtain ⟨x, md, v, leaf, M, ns, rfl, hK, hV, hv⟩ := h
    refine ⟨_, pss_one (ps_try_only (c := .ref Co) rfl rfl ⟨by rfl, by decide, .inl XO.gC⟩ takes_none5
        (fun W pn xe tk hp => pss_one (ps_ret (pe_calX cy hg hr (by rfl) (fun σ => passAt tk σ) (pa_cons (pv 0) (pa_cons (pv 1) pa_nil)))))
        (fun a oe cls d pn hz hf => pss_one (ps_ret (pe_op op_sub pe_int pe_int)))), ?_⟩
    have ec : ∀ {H1 : Hp}, Q (.int (-1)) H1 → Q (V.int (0 - 1)) H1 := fun h => h
    rcases hv with ⟨hbad, q⟩ | ⟨p, LL, rfl, hR, hF, qn, q⟩
    · refine ⟨_, rfl, _, rfl, x, md, v, leaf, M, ns, rfl, hK, hV, .inl ⟨hbad, fun H' s => ?_⟩⟩
      exact ⟨true, te, fun _ a na => ⟨_, _, rfl, rfl, ec (q H' s)⟩, fun h => by cases h⟩
    · refine ⟨_, rfl, _, rfl, x, md, .ref p, leaf, M, ns, rfl, hK, hV, .inr ⟨p, LL, rfl, hR, hF, fun h H' s => ?_, q⟩⟩
      exact ⟨true, te, fun _ a na => ⟨_, _, rfl, rfl, ec (qn h H' s)⟩, fun h => by cases h⟩
end
end Kl

set_option maxRecDepth 100000
set_option maxHeartbeats 4000000
namespace Kl
open PySem PySem.Spec PyProof.Rows L2 Gx Mx
/-! ### kinds opened again and again: the mathematics -/
/-- no making is empty -/
structure Nem (M : Mak) : Prop where
  nd : (keysOf M).Nodup
  ne : ∀ m ∈ M, m.2 ≠ []
theorem Vld.nem {leaf : Str} {M : Mak} (v : Vld leaf M) : Nem M := ⟨v.nd, fun m hm e => by
  have h := (v.parts m hm).2.1
  rw [e] at h
  exact absurd h (by show ¬ 2 ≤ 0; omega)⟩
/-- one more of c times p -/
def addR : Row → Str → Nat → Row
  | [], p, c => [(p, c)]
  | q :: S, p, c => if q.1 = p then (q.1, q.2 + c) :: S else q :: addR S p c
/-- its parts, c times each -/
def addP (c : Nat) (S : Row) (ps : List Str) : Row := ps.foldl (fun S p => addR S p c) S
def prt (M : Mak) (z : Str) : List Str := (lookM M z).getD []
/-- all of them opened once -/
def openF (M : Mak) (S R : Row) : Row := R.foldl (fun S q => addP q.2 S (prt M q.1)) S
def openR (M : Mak) (R : Row) : Row := openF M [] R
def canR (M : Mak) (R : Row) : Prop := ∀ q ∈ R, q.1 ∈ keysOf M
def opR (M : Mak) (z : Str) : Nat → Row
  | 0 => [(z, 1)]
  | n + 1 => openR M (opR M z n)
def tot (R : Row) (g : Str → Nat) : Nat := (R.map fun q => q.2 * g q.1).sum
theorem addR_keys {z : Str} : ∀ {S : Row} {p : Str} {c : Nat}, z ∈ keysR (addR S p c) ↔ z ∈ keysR S ∨ z = p
  | [], p, c => by
    show z ∈ [p] ↔ z ∈ [] ∨ z = p
    rw [List.mem_singleton]
    exact ⟨.inr, fun h => h.resolve_left List.not_mem_nil⟩
  | q :: S, p, c => by
    unfold addR
    by_cases e : q.1 = p
    · rw [if_pos e]
      show z ∈ q.1 :: keysR S ↔ z ∈ q.1 :: keysR S ∨ z = p
      refine ⟨.inl, fun h => h.elim id fun h => ?_⟩
      rw [h, ← e]
      exact List.mem_cons_self
    · rw [if_neg e]
      show z ∈ q.1 :: keysR (addR S p c) ↔ z ∈ q.1 :: keysR S ∨ z = p
      rw [List.mem_cons, List.mem_cons, addR_keys, or_assoc]
theorem addR_nd : ∀ {S : Row} {p : Str} {c : Nat}, (keysR S).Nodup → (keysR (addR S p c)).Nodup
  | [], p, c, _ => List.nodup_cons.mpr ⟨List.not_mem_nil, List.nodup_nil⟩
  | q :: S, p, c, h => by
    have h' : (q.1 :: keysR S).Nodup := h
    rw [List.nodup_cons] at h'
    unfold addR
    by_cases e : q.1 = p
    · rw [if_pos e]
      exact h
    · rw [if_neg e]
      show (q.1 :: keysR (addR S p c)).Nodup
      refine List.nodup_cons.mpr ⟨fun hq => ?_, addR_nd h'.2⟩
      rcases addR_keys.mp hq with hq | hq
      · exact h'.1 hq
      · exact e hq
theorem addR_tot (g : Str → Nat) : ∀ (S : Row) (p : Str) (c : Nat), tot (addR S p c) g = tot S g + c * g p
  | [], p, c => by
    show (c * g p + 0) = 0 + c * g p
    omega
  | q :: S, p, c => by
    unfold addR
    by_cases e : q.1 = p
    · rw [if_pos e]
      show (q.2 + c) * g q.1 + tot S g = q.2 * g q.1 + tot S g + c * g p
      rw [Nat.add_mul, e]
      omega
    · rw [if_neg e]
      show q.2 * g q.1 + tot (addR S p c) g = q.2 * g q.1 + tot S g + c * g p
      rw [addR_tot g S p c]
      omega
theorem addP_keys {z : Str} {c : Nat} : ∀ {ps : List Str} {S : Row}, z ∈ keysR (addP c S ps) ↔ z ∈ keysR S ∨ z ∈ ps
  | [], S => ⟨.inl, fun h => h.resolve_right List.not_mem_nil⟩
  | p :: ps, S => by
    show z ∈ keysR (addP c (addR S p c) ps) ↔ _
    rw [addP_keys, addR_keys, List.mem_cons, or_assoc]
theorem addP_nd {c : Nat} : ∀ {ps : List Str} {S : Row}, (keysR S).Nodup → (keysR (addP c S ps)).Nodup
  | [], _, h => h
  | p :: ps, S, h => addP_nd (ps := ps) (S := addR S p c) (addR_nd h)
theorem addP_tot (g : Str → Nat) {c : Nat} : ∀ (ps : List Str) (S : Row), tot (addP c S ps) g = tot S g + c * (ps.map g).sum
  | [], S => by
    show tot S g = tot S g + c * 0
    omega
  | p :: ps, S => by
    show tot (addP c (addR S p c) ps) g = _
    rw [addP_tot g ps, addR_tot, List.map_cons, List.sum_cons, Nat.mul_add]
    omega
theorem openF_keys {M : Mak} {z : Str} : ∀ {R S : Row}, z ∈ keysR (openF M S R) ↔ z ∈ keysR S ∨ ∃ q ∈ R, z ∈ prt M q.1
  | [], S => ⟨.inl, fun h => h.resolve_right fun ⟨_, h, _⟩ => nomatch h⟩
  | q :: R, S => by
    show z ∈ keysR (openF M (addP q.2 S (prt M q.1)) R) ↔ _
    rw [openF_keys, addP_keys, or_assoc]
    refine or_congr_right ⟨fun h => h.elim (fun h => ⟨q, List.mem_cons_self, h⟩) fun ⟨x, h1, h2⟩ => ⟨x, List.mem_cons_of_mem _ h1, h2⟩, fun ⟨x, h1, h2⟩ => ?_⟩
    rcases List.mem_cons.mp h1 with rfl | h1
    · exact .inl h2
    · exact .inr ⟨x, h1, h2⟩
theorem openF_nd {M : Mak} : ∀ {R S : Row}, (keysR S).Nodup → (keysR (openF M S R)).Nodup
  | [], _, h => h
  | q :: R, S, h => openF_nd (R := R) (S := addP q.2 S (prt M q.1)) (addP_nd h)
theorem openF_tot {M : Mak} (g : Str → Nat) : ∀ (R S : Row), tot (openF M S R) g = tot S g + tot R fun k => ((prt M k).map g).sum
  | [], S => rfl
  | q :: R, S => by
    show tot (openF M (addP q.2 S (prt M q.1)) R) g = _
    rw [openF_tot g R, addP_tot]
    show _ = tot S g + (q.2 * ((prt M q.1).map g).sum + tot R fun k => ((prt M k).map g).sum)
    omega
theorem opR_nd {M : Mak} {z : Str} : ∀ n, (keysR (opR M z n)).Nodup
  | 0 => List.nodup_cons.mpr ⟨List.not_mem_nil, List.nodup_nil⟩
  | n + 1 => openF_nd List.nodup_nil
theorem key_in {R : Row} {z : Str} (h : z ∈ keysR R) : ∃ q ∈ R, q.1 = z := by
  obtain ⟨q, h1, h2⟩ := List.mem_map.mp h
  exact ⟨q, h1, h2⟩
theorem in_key {R : Row} {q : Str × Nat} (h : q ∈ R) : q.1 ∈ keysR R := List.mem_map.mpr ⟨q, h, rfl⟩
theorem prt_of {M : Mak} {z : Str} {ps : List Str} (h : lookM M z = some ps) : prt M z = ps := by
  unfold prt
  rw [h]
  rfl
theorem opR_ne {M : Mak} (v : Nem M) {z : Str} : ∀ {n : Nat}, (∀ i, i < n → canR M (opR M z i)) → keysR (opR M z n) ≠ []
  | 0, _ => nofun
  | n + 1, h => by
    have ih := opR_ne v (n := n) fun i hi => h i (by omega)
    intro e
    cases c : opR M z n with
    | nil => exact ih (by rw [c]; rfl)
    | cons q R =>
      have hq : q ∈ opR M z n := by rw [c]; exact List.mem_cons_self
      obtain ⟨ps, hps⟩ := lookM_in (h n (by omega) q hq)
      have two : ps ≠ [] := v.ne _ (lookM_some hps)
      cases ps with
      | nil => exact absurd rfl two
      | cons p ps =>
        have : p ∈ keysR (opR M z (n + 1)) := openF_keys.mpr (.inr ⟨q, hq, by rw [prt_of hps]; exact List.mem_cons_self⟩)
        rw [e] at this
        cases this
/-- the size of a kind at a rank -/
def siz (leaf : Str) (M : Mak) (r : Nat) (z : Str) : Nat := getR (rowsR leaf M r) z
theorem mem_succ {leaf : Str} {M : Mak} (nd : (keysOf M).Nodup) {r : Nat} {z : Str} : z ∈ setR leaf M (r + 1) ↔ ∃ ps, lookM M z = some ps ∧ ∀ p ∈ ps, p ∈ setR leaf M r := by
  rw [set_succ]
  unfold aboveE
  rw [List.mem_map]
  constructor
  · rintro ⟨m, hm, rfl⟩
    obtain ⟨h1, h2⟩ := List.mem_filter.mp hm
    exact ⟨m.2, lookM_mem nd h1, fun p hp => of_decide_eq_true (List.all_eq_true.mp h2 p hp)⟩
  · rintro ⟨ps, h1, h2⟩
    refine ⟨(z, ps), List.mem_filter.mpr ⟨lookM_some h1, ?_⟩, rfl⟩
    exact List.all_eq_true.mpr fun p hp => decide_eq_true (h2 p hp)
theorem lookR_above {M : Mak} {R : Row} : ∀ {N : Mak}, (keysOf N).Nodup → ∀ {z : Str} {ps : List Str}, (z, ps) ∈ N → fitsR (keysR R) ps = true → lookR ((N.filter fun m => fitsR (keysR R) m.2).map fun m => (m.1, (m.2.map (getR R)).sum)) z = some (ps.map (getR R)).sum
  | [], _, _, _, h, _ => nomatch h
  | m :: N, nd, z, ps, h, hf => by
    have nd' : (m.1 :: keysOf N).Nodup := nd
    rw [List.nodup_cons] at nd'
    rw [List.filter_cons]
    rcases List.mem_cons.mp h with e | h
    · subst e
      rw [if_pos hf, List.map_cons, lookR_cons, if_pos rfl]
    · have ne : m.1 ≠ z := fun e => nd'.1 (by rw [e]; exact List.mem_map.mpr ⟨(z, ps), h, rfl⟩)
      have ih := lookR_above (M := M) (R := R) nd'.2 h hf
      by_cases c : fitsR (keysR R) m.2 = true
      · rw [if_pos c, List.map_cons, lookR_cons, if_neg ne]
        exact ih
      · rw [if_neg c]
        exact ih
theorem siz_succ {leaf : Str} {M : Mak} (nd : (keysOf M).Nodup) {r : Nat} {z : Str} {ps : List Str} (h1 : lookM M z = some ps) (h2 : ∀ p ∈ ps, p ∈ setR leaf M r) : siz leaf M (r + 1) z = (ps.map (siz leaf M r)).sum := by
  unfold siz
  have h := lookR_above (M := M) (R := rowsR leaf M r) nd (lookM_some h1) (List.all_eq_true.mpr fun p hp => decide_eq_true (h2 p hp))
  show getR (aboveR M (rowsR leaf M r)) z = _
  unfold getR aboveR
  rw [h]
  rfl
theorem siz_zero (leaf : Str) (M : Mak) : siz leaf M 0 leaf = 1 := by
  unfold siz getR
  show (lookR [(leaf, 1)] leaf).getD 0 = 1
  rw [lookR_cons, if_pos rfl]
  rfl
theorem mem_zero {leaf : Str} {M : Mak} {z : Str} : z ∈ setR leaf M 0 ↔ z = leaf := List.mem_singleton
theorem tot_congr {R : Row} {g h : Str → Nat} (e : ∀ q ∈ R, g q.1 = h q.1) : tot R g = tot R h := by
  unfold tot
  rw [List.map_congr_left fun q hq => by rw [e q hq]]
/-- opened once -/
theorem stp_mem {leaf : Str} {M : Mak} (nd : (keysOf M).Nodup) {m : Nat} {R : Row} (h : ∀ z ∈ keysR R, z ∈ setR leaf M (m + 1)) : canR M R ∧ (∀ y ∈ keysR (openR M R), y ∈ setR leaf M m) ∧ tot R (siz leaf M (m + 1)) = tot (openR M R) (siz leaf M m) := by
  refine ⟨fun q hq => ?_, fun y hy => ?_, ?_⟩
  · obtain ⟨ps, h1, _⟩ := (mem_succ nd).mp (h _ (in_key hq))
    exact List.mem_map.mpr ⟨_, lookM_some h1, rfl⟩
  · rcases openF_keys.mp hy with hy | ⟨q, hq, hy⟩
    · cases hy
    · obtain ⟨ps, h1, h2⟩ := (mem_succ nd).mp (h _ (in_key hq))
      rw [prt_of h1] at hy
      exact h2 y hy
  · unfold openR
    rw [openF_tot]
    show _ = 0 + _
    rw [Nat.zero_add]
    refine tot_congr fun q hq => ?_
    obtain ⟨ps, h1, h2⟩ := (mem_succ nd).mp (h _ (in_key hq))
    rw [siz_succ nd h1 h2, prt_of h1]
theorem stp_back {leaf : Str} {M : Mak} (nd : (keysOf M).Nodup) {m : Nat} {R : Row} (c : canR M R) (h : ∀ y ∈ keysR (openR M R), y ∈ setR leaf M m) : ∀ z ∈ keysR R, z ∈ setR leaf M (m + 1) := by
  intro z hz
  obtain ⟨q, hq, rfl⟩ := key_in hz
  obtain ⟨ps, hps⟩ := lookM_in (c q hq)
  exact (mem_succ nd).mpr ⟨ps, hps, fun p hp => h p (openF_keys.mpr (.inr ⟨q, hq, by rw [prt_of hps]; exact hp⟩))⟩
/-- opened n times -/
theorem opn_mem {leaf : Str} {M : Mak} (nd : (keysOf M).Nodup) {z : Str} : ∀ {n m : Nat}, z ∈ setR leaf M (n + m) → (∀ i, i < n → canR M (opR M z i)) ∧ (∀ y ∈ keysR (opR M z n), y ∈ setR leaf M m) ∧ siz leaf M (n + m) z = tot (opR M z n) (siz leaf M m)
  | 0, m, h => by
    rw [Nat.zero_add] at h ⊢
    refine ⟨fun i hi => absurd hi (Nat.not_lt_zero _), fun y hy => by rw [List.mem_singleton.mp hy]; exact h, ?_⟩
    show _ = 1 * siz leaf M m z + 0
    omega
  | n + 1, m, h => by
    have h' : z ∈ setR leaf M (n + (m + 1)) := by rw [show n + (m + 1) = n + 1 + m by omega]; exact h
    obtain ⟨h1, h2, h3⟩ := opn_mem nd h'
    obtain ⟨h4, h5, h6⟩ := stp_mem nd h2
    refine ⟨fun i hi => ?_, h5, ?_⟩
    · by_cases c : i = n
      · rw [c]
        exact h4
      · exact h1 i (by omega)
    · rw [show n + 1 + m = n + (m + 1) by omega, h3, h6]
      rfl
theorem opn_back {leaf : Str} {M : Mak} (nd : (keysOf M).Nodup) {z : Str} : ∀ {n m : Nat}, (∀ i, i < n → canR M (opR M z i)) → (∀ y ∈ keysR (opR M z n), y ∈ setR leaf M m) → z ∈ setR leaf M (n + m)
  | 0, m, _, hl => by
    rw [Nat.zero_add]
    exact hl z (List.mem_singleton.mpr rfl)
  | n + 1, m, h, hr => by
    have := opn_back nd (n := n) (m := m + 1) (fun i hi => h i (by omega)) (stp_back nd (h n (by omega)) hr)
    rw [show n + 1 + m = n + (m + 1) by omega]
    exact this
/-- leaves alone: the kind exists there -/
theorem leaves {leaf : Str} {M : Mak} (v : Nem M) {z : Str} {d : Nat} (h : ∀ i, i < d → canR M (opR M z i)) : keysR (opR M z d) = [leaf] ↔ z ∈ setR leaf M d := by
  constructor
  · intro e
    have := opn_back v.nd (m := 0) h fun y hy => by
      rw [e] at hy
      exact mem_zero.mpr (List.mem_singleton.mp hy)
    exact this
  · intro hz
    obtain ⟨_, h2, _⟩ := opn_mem v.nd (n := d) (m := 0) hz
    have nd := opR_nd (M := M) (z := z) d
    have ne := opR_ne v h
    revert nd ne h2
    cases keysR (opR M z d) with
    | nil => exact fun _ _ ne => absurd rfl ne
    | cons a l =>
      intro h2 nd _
      have ha : a = leaf := mem_zero.mp (h2 a List.mem_cons_self)
      subst ha
      cases l with
      | nil => rfl
      | cons b l =>
        have hb : b = a := mem_zero.mp (h2 b (List.mem_cons_of_mem _ List.mem_cons_self))
        subst hb
        exact absurd List.mem_cons_self (List.nodup_cons.mp nd).1
theorem leaves_n {leaf : Str} {M : Mak} (v : Nem M) {z : Str} {d : Nat} (h : z ∈ setR leaf M d) : opR M z d = [(leaf, siz leaf M d z)] := by
  obtain ⟨h1, h2, h3⟩ := opn_mem v.nd (n := d) (m := 0) h
  have e := (leaves v h1).mpr h
  revert h3 e
  cases opR M z d with
  | nil => exact fun _ e => nomatch e
  | cons q R =>
    intro h3 e
    have e' : q.1 :: keysR R = [leaf] := e
    obtain ⟨e1, e2⟩ := List.cons.inj e'
    have e3 : R = [] := List.map_eq_nil_iff.mp e2
    subst e3
    obtain ⟨k, n⟩ := q
    cases e1
    rw [show tot [(k, n)] (siz k M 0) = n * siz k M 0 k + 0 from rfl, siz_zero, Nat.mul_one, Nat.add_zero] at h3
    show [(k, n)] = [(k, siz k M d z)]
    have h4 : siz k M d z = n := h3
    rw [h4]
/-! ### makings whose parts are told once each -/
def DedOf (M N : Mak) : Prop := Paired (fun (m n : Str × List Str) => n.1 = m.1 ∧ sortedS n.2 = true ∧ n.2.Nodup ∧ ∀ z, z ∈ n.2 ↔ z ∈ m.2) M N
theorem DedOf.keys {M N : Mak} (h : DedOf M N) : keysOf N = keysOf M := by
  unfold DedOf at h
  induction h with
  | nil => rfl
  | @cons m n M N h _ ih =>
    show n.1 :: keysOf N = m.1 :: keysOf M
    rw [ih, h.1]
theorem DedOf.mem {M N : Mak} (h : DedOf M N) {n : Str × List Str} (hn : n ∈ N) : ∃ m ∈ M, n.1 = m.1 ∧ sortedS n.2 = true ∧ n.2.Nodup ∧ ∀ z, z ∈ n.2 ↔ z ∈ m.2 := by
  unfold DedOf at h
  induction h with
  | nil => cases hn
  | @cons m n' M N h _ ih =>
    rcases List.mem_cons.mp hn with rfl | hn
    · exact ⟨m, List.mem_cons_self, h⟩
    · obtain ⟨m', h1, h2⟩ := ih hn
      exact ⟨m', List.mem_cons_of_mem _ h1, h2⟩
theorem DedOf.look {M N : Mak} (h : DedOf M N) {z : Str} {ps : List Str} (e : lookM M z = some ps) : ∃ qs, lookM N z = some qs ∧ sortedS qs = true ∧ qs.Nodup ∧ ∀ y, y ∈ qs ↔ y ∈ ps := by
  unfold DedOf at h
  induction h with
  | nil => cases e
  | @cons m n M N h _ ih =>
    obtain ⟨h1, h2, h3, h4⟩ := h
    rw [lookM_cons] at e ⊢
    by_cases c : m.1 = z
    · rw [if_pos c] at e
      cases e
      rw [if_pos (h1.trans c)]
      exact ⟨_, rfl, h2, h3, h4⟩
    · rw [if_neg c] at e
      rw [if_neg (by rw [h1]; exact c)]
      exact ih e
theorem DedOf.fits {E : List Str} {m n : Str × List Str} (h : ∀ z, z ∈ n.2 ↔ z ∈ m.2) : fitsR E n.2 = fitsR E m.2 := by
  unfold fitsR
  rw [Bool.eq_iff_iff, List.all_eq_true, List.all_eq_true]
  exact ⟨fun q z hz => q z ((h z).mpr hz), fun q z hz => q z ((h z).mp hz)⟩
theorem DedOf.above {M N : Mak} (h : DedOf M N) (E : List Str) : aboveE N E = aboveE M E := by
  unfold DedOf at h
  unfold aboveE
  induction h with
  | nil => rfl
  | @cons m n M N h _ ih =>
    obtain ⟨h1, _, _, h4⟩ := h
    rw [List.filter_cons, List.filter_cons, DedOf.fits h4]
    by_cases c : fitsR E m.2 = true
    · rw [if_pos c, if_pos c, List.map_cons, List.map_cons, ih, h1]
    · rw [if_neg c, if_neg c, ih]
theorem DedOf.sets {leaf : Str} {M N : Mak} (h : DedOf M N) : ∀ r, setR leaf N r = setR leaf M r
  | 0 => rfl
  | r + 1 => by rw [set_succ, set_succ, h.sets r, h.above]
theorem DedOf.nem {leaf : Str} {M N : Mak} (h : DedOf M N) (v : Vld leaf M) : Nem N := ⟨by rw [h.keys]; exact v.nd, fun n hn e => by
  obtain ⟨m, h1, _, _, _, h2⟩ := h.mem hn
  have h3 := (v.parts m h1).2.1
  cases q : m.2 with
  | nil =>
    rw [q] at h3
    exact absurd h3 (by show ¬ 2 ≤ 0; omega)
  | cons y l =>
    have := (h2 y).mpr (by rw [q]; exact List.mem_cons_self)
    rw [e] at this
    cases this⟩
end Kl

set_option maxRecDepth 100000
set_option maxHeartbeats 4000000
namespace Kl
open PySem PySem.Spec PyProof.Rows L2 Gx Mx
/-! ### sizes of trees -/
theorem siz_no {leaf : Str} {M : Mak} {r : Nat} {z : Str} (h : z ∉ setR leaf M r) : siz leaf M r z = 0 := by
  unfold siz getR
  rw [lookR_no h]
  rfl
theorem siz_pos {leaf : Str} {M : Mak} (v : Vld leaf M) : ∀ {r : Nat} {z : Str}, z ∈ setR leaf M r → 1 ≤ siz leaf M r z
  | 0, z, h => by
    rw [mem_zero.mp h, siz_zero]
    exact Nat.le_refl 1
  | r + 1, z, h => by
    obtain ⟨ps, h1, h2⟩ := (mem_succ v.nd).mp h
    rw [siz_succ v.nd h1 h2]
    have l2 := (v.parts _ (lookM_some h1)).2.1
    cases ps with
    | nil => exact absurd l2 (by show ¬ 2 ≤ 0; omega)
    | cons p ps =>
      rw [List.map_cons, List.sum_cons]
      have := siz_pos v (h2 p List.mem_cons_self)
      omega
theorem sum_mono {f g : Str → Nat} : ∀ {l : List Str}, (∀ x ∈ l, f x ≤ g x) → (l.map f).sum ≤ (l.map g).sum
  | [], _ => Nat.le_refl _
  | x :: l, h => by
    rw [List.map_cons, List.map_cons, List.sum_cons, List.sum_cons]
    exact Nat.add_le_add (h x List.mem_cons_self) (sum_mono fun y hy => h y (List.mem_cons_of_mem _ hy))
theorem siz_mono {leaf : Str} {M : Mak} (v : Vld leaf M) : ∀ {r s : Nat} {z : Str}, r ≤ s → z ∈ setR leaf M r → z ∈ setR leaf M s → siz leaf M r z ≤ siz leaf M s z
  | 0, s, z, _, h, h' => by
    rw [show siz leaf M 0 z = 1 by rw [mem_zero.mp h]; exact siz_zero leaf M]
    exact siz_pos v h'
  | r + 1, 0, z, hl, _, _ => absurd hl (by omega)
  | r + 1, s + 1, z, hl, h, h' => by
    obtain ⟨ps, h1, h2⟩ := (mem_succ v.nd).mp h
    obtain ⟨qs, h3, h4⟩ := (mem_succ v.nd).mp h'
    rw [h1] at h3
    cases h3
    rw [siz_succ v.nd h1 h2, siz_succ v.nd h1 h4]
    exact sum_mono fun p hp => siz_mono v (by omega) (h2 p hp) (h4 p hp)
theorem siz_le {leaf : Str} {M : Mak} (v : Vld leaf M) (r : Nat) (z : Str) : siz leaf M r z ≤ 3 ^ r := getR_le (rows_le v r) z
theorem inV_ints (i : Int) (l : List Int) : inV (.int i) (l.map V.int) = decide (i ∈ l) := by
  unfold inV
  rw [List.any_map, Bool.eq_iff_iff, List.any_eq_true, decide_eq_true_iff]
  constructor
  · rintro ⟨j, hj, e⟩
    have e : (j == i) = true := e
    rw [beq_iff_eq.mp e] at hj
    exact hj
  · intro h
    exact ⟨i, h, beq_self_eq_true i⟩
section
variable {P : Program} {w : World} {K : PySem.W.Frag} {mg : Str → Option Value} {base : Heap}
/-! ### _law_tree_size -/
def spTS (n : Nat) : Sp := fun vs H Q _ => ∃ (pl mk : Addr) (leaf z : Str) (kvs : List (Key × V)) (M M1 : Mak) (r : Nat), vs = [V.ref pl, V.str z, V.int (r : Nat)] ∧ r ≤ n ∧ r ≤ 1000 ∧ H pl = some (.dK (bookK leaf mk)) ∧ H mk = some (.dK kvs) ∧ MakAt H kvs M ∧ Vld leaf M ∧ OrdOf M M1 ∧
  ∀ H', Same H H' → Q (.int (siz leaf M1 r z : Nat)) H'
abbrev NTS : List Str := ["_law_plain", "_law_kind", "_law_rank", "_law_sizes_here", "_law_part"]
theorem ok_ts0 {f : Addr} {fd : FuncData} (F : Fun K "_law_tree_size" "_law_tree_size" s_law_tree_size f fd) (T : Top K mg) : FnOk P w K mg base CX0 2 f fd ["_law_plain", "_law_kind", "_law_rank"] (spTS 0) := by
  refine F.ok sc_law_tree_size (fun vs H Q E h => ?_) (fun cdv A outer s H vs Q E hr h => ?_)
  · obtain ⟨pl, mk, leaf, z, kvs, M, M1, r, rfl, _⟩ := h
    rfl
  · obtain ⟨pl, mk, leaf, z, kvs, M, M1, r, rfl, hr0, _, hpl, hmk, hM, hV, hOr, q⟩ := h
    have hu := hu_of hr
    refine ⟨_, pss_cons (ps_if (pt_cmpR op_eq (pv 2) pe_int (nomark _)) (pss_one (ps_ret (pe_callTy call_int1 (by rfl) T.b_int (by decide +kernel) (pa_cons (pe_cmpR op_eq (pv 1) (pe_dget hu (pv 0) pe_str (fun _ _ => rfl)) (nomark _)) pa_nil)))) pss_nil)
      (pss_cons ps_never (pss_one ps_never)), ?_⟩
    have e0 : r = 0 := by omega
    subst e0
    refine ⟨_, rfl, rfl, _, rfl, ?_⟩
    rw [decide_eq_true (show V.int ((0 : Nat) : Int) = V.int 0 from rfl)]
    show (if true = true then _ else _)
    rw [if_pos rfl]
    refine ⟨_, rfl, _, rfl, pl, .str leaf, rfl, .inl ⟨_, Sum.inr "leaf", .inl hpl, rfl, (book_leaf leaf mk).symm⟩, rfl, .inr ⟨_, rfl, ?_⟩⟩
    have h1 := q H (Same.refl H)
    by_cases c : z = leaf
    · rw [decide_eq_true (show V.str z = V.str leaf by rw [c])]
      rw [c, siz_zero] at h1
      exact h1
    · rw [decide_eq_false (fun h : V.str z = V.str leaf => c (V.str.inj h))]
      rw [siz_no (fun h => c (mem_zero.mp h))] at h1
      exact h1
theorem ok_tsS {n : Nat} (ih : ∀ {f : Addr} {fd : FuncData}, Fun K "_law_tree_size" "_law_tree_size" s_law_tree_size f fd → FnOk P w K mg base CX0 (n + 2) f fd ["_law_plain", "_law_kind", "_law_rank"] (spTS n)) {f : Addr} {fd : FuncData} (F : Fun K "_law_tree_size" "_law_tree_size" s_law_tree_size f fd) (T : Top K mg) :
    FnOk P w K mg base CX0 (n + 3) f fd ["_law_plain", "_law_kind", "_law_rank"] (spTS (n + 1)) := by
  have cw : Cal P w K mg base (n + 2) "_law_tree_size" ["_law_plain", "_law_kind", "_law_rank"] (spTS n) := T.d_law_tree_size.cal fun f fd F => ih F
  refine F.ok sc_law_tree_size (fun vs H Q E h => ?_) (fun cdv A outer s H vs Q E hr h => ?_)
  · obtain ⟨pl, mk, leaf, z, kvs, M, M1, r, rfl, _⟩ := h
    rfl
  · obtain ⟨pl, mk, leaf, z, kvs, M, M1, r, rfl, hrn, hr4, hpl, hmk, hM, hV, hOr, q⟩ := h
    have hu := hu_of hr
    have v1 := hOr.vld hV
    refine ⟨_, pss_cons (ps_if (pt_cmpR op_eq (pv 2) pe_int (nomark _)) (pss_one (ps_ret (pe_callTy call_int1 (by rfl) T.b_int (by decide +kernel) (pa_cons (pe_cmpR op_eq (pv 1) (pe_dget hu (pv 0) pe_str (fun _ _ => rfl)) (nomark _)) pa_nil)))) pss_nil)
      (pss_cut (ps_setLc (i := 3) (own := [("_law_part", 4)]) (g := gName 4) (tt := tYes) (by rfl) sc_law_tree_size.nd rfl rfl (sw_true rfl rfl rfl (by decide +kernel)) (pi_tup (pe_dget2 hu (pe_dget hu (pv 0) pe_str (fun _ _ => rfl)) (pv 1) (pe_tup pa_nil) (by constructor <;> rfl)))
          (blkOk_by (N := NTS) (sc := defScope s_law_tree_size) (by decide +kernel)) (fun _ _ _ _ _ => pg_name (i := 4) sc_law_tree_size.nd rfl (.inl rfl)) (fun _ _ _ _ _ => pts_nil)
          (fun _ _ _ _ _ => pe_cal cw hr (by rfl) (pa_cons (pv 0) (pa_cons (pv 4) (pa_cons (pe_op op_sub (pv 2) pe_int) pa_nil)))))
      (pss_one (ps_ret (pe_ifExp (pt_cmpR op_in_seq pe_int (pv 3) (by rfl)) pe_int (pe_callB (cr_sum rfl) (by rfl) T.b_sum (by decide +kernel) (pa_cons (pv 3) pa_nil)))))), ?_⟩
    have big : 100000 ≤ sizeLine := by decide
    refine ⟨_, rfl, rfl, _, rfl, ?_⟩
    by_cases e0 : r = 0
    · subst e0
      rw [decide_eq_true (show V.int ((0 : Nat) : Int) = V.int 0 from rfl)]
      show (if true = true then _ else _)
      rw [if_pos rfl]
      refine ⟨_, rfl, _, rfl, pl, .str leaf, rfl, .inl ⟨_, Sum.inr "leaf", .inl hpl, rfl, (book_leaf leaf mk).symm⟩, rfl, .inr ⟨_, rfl, ?_⟩⟩
      have h1 := q H (Same.refl H)
      by_cases c : z = leaf
      · rw [decide_eq_true (show V.str z = V.str leaf by rw [c])]
        rw [c, siz_zero] at h1
        exact h1
      · rw [decide_eq_false (fun h : V.str z = V.str leaf => c (V.str.inj h))]
        rw [siz_no (fun h => c (mem_zero.mp h))] at h1
        exact h1
    obtain ⟨r', rfl⟩ : ∃ r', r = r' + 1 := ⟨r - 1, by omega⟩
    rw [decide_eq_false (show ¬ V.int ((r' + 1 : Nat) : Int) = V.int 0 from fun h => by have := V.int.inj h; omega)]
    show (if false = true then _ else _)
    rw [if_neg (by decide)]
    -- the parts
    obtain ⟨ps, hps⟩ : ∃ ps, ps = (lookM M1 z).getD [] := ⟨_, rfl⟩
    refine ⟨fun σ' G => ∃ D : Addr, σ' = [some (.ref pl), some (.str z), some (.int (r' + 1 : Nat)), some (.ref D), none] ∧ G D = some (.lst ((ps.map fun p => ((siz leaf M1 r' p : Nat) : Int)).map V.int)) ∧ Same H G, ?_, ?_⟩
    · refine ⟨_, rfl, pl, .ref mk, rfl, .inl ⟨_, Sum.inr "makings", .inl hpl, rfl, (book_mak leaf mk).symm⟩, mk, rfl, .inl ⟨kvs, .inl hmk⟩, _, rfl, Nat.zero_le _, fun e0 ne0 => ?_⟩
      have s1 := same_new (o := .tup []) (Same.refl H) ne0
      have ee : (upd H e0 (.tup [])) e0 = some (.tup []) := upd_same
      generalize upd H e0 (.tup []) = G1 at s1 ee
      have hM1 : MakAt G1 kvs M := hM.same fun _ _ h => h.mono s1
      obtain ⟨a, o, ho, hoa, ha⟩ : ∃ (a : Addr) (o : Option V), DGet G1 mk (V.str z) o ∧ o.getD (.ref e0) = .ref a ∧ SqT K G1 a (ps.map V.str) := by
        rcases hM1.get z with ⟨e1, e2⟩ | ⟨qs, a, e1, e2, e3⟩
        · refine ⟨e0, none, .inl ⟨kvs, Sum.inr z, .inl (s1 _ _ hmk), rfl, e2.symm⟩, rfl, ?_⟩
          rw [hps, hOr.look, e1]
          exact .inl (.inl ee)
        · refine ⟨a, some (.ref a), .inl ⟨kvs, Sum.inr z, .inl (s1 _ _ hmk), rfl, e2.symm⟩, rfl, ?_⟩
          rw [hps, hOr.look, e1]
          exact e3.sq
      refine ⟨o, ho, a, hoa, ⟨_, ha⟩, fun D hD => ?_⟩
      have lps : ps.length ≤ 3 := by
        rw [hps]
        cases e : lookM M1 z with
        | none => exact Nat.zero_le _
        | some qs => exact (v1.parts _ (lookM_some e)).2.2.1
      refine lc_it (g := gName 4) (tt := tYes) (vs := [4]) (walk_tup (K := K) (a := a) (xs := ps.map V.str)) (fun j G => G D = some (.lst (((ps.take j).map fun p => ((siz leaf M1 r' p : Nat) : Int)).map V.int)) ∧ Same G1 G)
        ⟨upd_same, same_new (Same.refl G1) hD⟩ (fun j G _ h => sqT_sm h.2 ha) (fun j u Gx G hj h hy => ?_) (fun G h => ?_)
      · obtain ⟨eD, sm⟩ := h
        obtain ⟨rfl, hu⟩ := hy
        obtain ⟨p, hp, rfl⟩ := at_texts hu
        have s0 : Same H G := fun b o e => sm _ _ (s1 _ _ e)
        refine ⟨rfl, _, rfl, _, rfl, _, rfl, _, _, rfl, rfl, pl, mk, leaf, p, kvs, M, M1, r', ?_, by omega, by omega, s0 _ _ hpl, s0 _ _ hmk, hM.same (fun _ _ h => h.mono s0), hV, hOr, fun G3 s3 => ?_⟩
        · show [V.ref pl, V.str p, V.int (((r' + 1 : Nat) : Int) - 1)] = _
          rw [show ((r' + 1 : Nat) : Int) - 1 = ((r' : Nat) : Int) by omega]
        · refine ⟨_, s3 _ _ eD, ?_, ?_, fun b o e => by rw [upd_ne (ne_of_none e hD)]; exact s3 _ _ (sm b o e)⟩
          · rw [List.length_map, List.length_map, List.length_take]
            omega
          · rw [upd_same, take_snoc hp, List.map_append, List.map_append]
            rfl
      · obtain ⟨eD, sm⟩ := h
        rw [List.length_map, List.take_length] at eD
        exact ⟨D, rfl, eD, fun b o e => sm _ _ (s1 _ _ e)⟩
    rintro σ' G ⟨D, rfl, eD, s1⟩
    have hfl : ((ps.map fun p => ((siz leaf M1 r' p : Nat) : Int)).map V.int).all flatV = true := by
      rw [List.all_map]
      exact List.all_eq_true.mpr fun _ _ => rfl
    refine ⟨_, rfl, D, _, rfl, .inl (.inl (.inl eD)), rfl, hfl, _, rfl, ?_⟩
    have hq := q G s1
    rw [show (if false = true then !inV (V.int 0) ((ps.map fun p => ((siz leaf M1 r' p : Nat) : Int)).map V.int) else inV (V.int 0) ((ps.map fun p => ((siz leaf M1 r' p : Nat) : Int)).map V.int)) = inV (V.int 0) ((ps.map fun p => ((siz leaf M1 r' p : Nat) : Int)).map V.int) from rfl, inV_ints]
    by_cases c : (0 : Int) ∈ ps.map fun p => ((siz leaf M1 r' p : Nat) : Int)
    · rw [decide_eq_true c]
      show (if true = true then _ else _)
      rw [if_pos rfl]
      have hno : z ∉ setR leaf M1 (r' + 1) := fun h => by
        obtain ⟨qs, h1, h2⟩ := (mem_succ v1.nd).mp h
        rw [h1] at hps
        have hps : ps = qs := hps
        subst hps
        obtain ⟨p, hp, e⟩ := List.mem_map.mp c
        have := siz_pos v1 (h2 p hp)
        omega
      rw [siz_no hno] at hq
      exact hq
    · rw [decide_eq_false c]
      show (if false = true then _ else _)
      rw [if_neg (by decide)]
      refine ⟨_, rfl, D, _, rfl, .inl (.inl eD), ?_⟩
      have es : (ps.map fun p => ((siz leaf M1 r' p : Nat) : Int)).sum = ((siz leaf M1 (r' + 1) z : Nat) : Int) := by
        rw [cast_sum]
        cases e : lookM M1 z with
        | none =>
          rw [e] at hps
          have hps : ps = [] := hps
          rw [hps, siz_no (fun h => by
            obtain ⟨qs, h1, _⟩ := (mem_succ v1.nd).mp h
            rw [e] at h1
            cases h1)]
          rfl
        | some qs =>
          rw [e] at hps
          have hps : ps = qs := hps
          subst hps
          rw [siz_succ v1.nd e fun p hp => ?_]
          by_cases d : p ∈ setR leaf M1 r'
          · exact d
          · exfalso
            apply c
            refine List.mem_map.mpr ⟨p, hp, ?_⟩
            rw [siz_no d]
            rfl
      rw [es]
      exact hq
theorem ok_ts : ∀ (n : Nat) {f : Addr} {fd : FuncData}, Fun K "_law_tree_size" "_law_tree_size" s_law_tree_size f fd → Top K mg → FnOk P w K mg base CX0 (n + 2) f fd ["_law_plain", "_law_kind", "_law_rank"] (spTS n)
  | 0, _, _, F, T => ok_ts0 F T
  | n + 1, _, _, F, T => ok_tsS (fun F' => ok_ts n F' T) F T
end
end Kl

set_option maxRecDepth 100000
set_option maxHeartbeats 4000000
namespace Kl
open PySem PySem.Spec PyProof.Rows L2 Gx Mx
/-- digits of names -/
def NmOk (q : List Str) : Prop := sortedS q = true ∧ q.length ≤ 7 ∧ ∀ z ∈ q, nameB z = true
theorem NmOk.good {q : List Str} (h : NmOk q) : goodB q = true := by
  unfold goodB
  have := h.2.1
  rw [decide_eq_true (show q.length ≤ 20 by omega), h.1, List.all_eq_true.mpr h.2.2]
  rfl
/-- what stands while a row is drawn -/
structure DRc (K : PySem.W.Frag) (H : Hp) (d l ot sz : Addr) (ds : List Addr) (os : List Str) (leaf : Str) (M : Mak) (LL : List (Addr × List Str)) (G : Hp) : Prop where
  el : G l = some (.lst (LL.map fun q => V.ref q.1))
  hT : TxtsAt K G LL
  eo : G ot = some (.lst (os.map V.str))
  es : G sz = some (.lst (ds.map V.ref))
  hr : RowsAt G leaf M ds
  sx : SameX d H G
  hd : DiceAt G d
theorem DRc.step {K : PySem.W.Frag} {H : Hp} {d l ot sz : Addr} {ds : List Addr} {os : List Str} {leaf : Str} {M : Mak} {LL : List (Addr × List Str)} {G G' : Hp} (h : DRc K H d l ot sz ds os leaf M LL G) (n : l ≠ d ∧ ot ≠ d ∧ sz ≠ d) (s : SameX d G G') (hd : DiceAt G' d) : DRc K H d l ot sz ds os leaf M LL G' := by
  refine ⟨s _ _ n.1 h.el, fun q hq => sqT_sx h.hd s (h.hT q hq), s _ _ n.2.1 h.eo, s _ _ n.2.2 h.es, fun i a ha => ?_, h.sx.trans s, hd⟩
  obtain ⟨x, y, z, e⟩ := h.hd
  have h1 := h.hr i a ha
  exact s _ _ (fun w => by rw [w, e] at h1; cases h1) h1
theorem DRc.sm {K : PySem.W.Frag} {H : Hp} {d l ot sz : Addr} {ds : List Addr} {os : List Str} {leaf : Str} {M : Mak} {LL : List (Addr × List Str)} {G G' : Hp} (h : DRc K H d l ot sz ds os leaf M LL G) (n : l ≠ d ∧ ot ≠ d ∧ sz ≠ d) (s : Same G G') : DRc K H d l ot sz ds os leaf M LL G' := h.step n (SameX.of s) (dice_sm s h.hd)
section
variable {P : Program} {w : World} {K : PySem.W.Frag} {mg : Str → Option Value} {base : Heap}
/-! ### _law_drawn_row -/
def spDW (K : PySem.W.Frag) : Sp := fun vs H Q _ => ∃ (d pl mk : Addr) (leaf : Str) (kvs : List (Key × V)) (M M1 : Mak), vs = [.ref d, .ref pl, .int 7] ∧ DiceAt H d ∧ H pl = some (.dK (bookK leaf mk)) ∧ H mk = some (.dK kvs) ∧ MakAt H kvs M ∧ Vld leaf M ∧ OrdOf M M1 ∧
  ∀ (p : Addr) (LL : List (Addr × List Str)) H', SameX d H H' → DiceAt H' d → RowAt K H' p LL → looseB (LL.map (·.2)) = true → (∀ q ∈ LL, q.2.length ≤ 7) → LL.length ≤ 6 → Q (.ref p) H'
theorem ok_dw {f : Addr} {fd : FuncData} (F : Fun K "_law_drawn_row" "_law_drawn_row" s_law_drawn_row f fd) (T : Top K mg) : FnOk P w K mg base CX0 4 f fd ["_law_dice_here", "_law_plain", "_law_most"] (spDW K) := by
  have cr : Cal P w K mg base 3 "_law_roll" ["_law_dice_here", "_law_total"] spRoll := (T.d_law_roll.cal fun f fd F => ok_roll F T).mono (by decide)
  have cp : Cal P w K mg base 3 "_law_pick" ["_law_dice_here", "_law_items"] (spPick K) := (T.d_law_pick.cal fun f fd F => ok_pick F T).mono (by decide)
  have cs : Cal P w K mg base 3 "_law_sizes" ["_law_plain", "_law_bound"] spSizes := (T.d_law_sizes.cal fun f fd F => ok_sizes F T).mono (by decide)
  have cd : Cal P w K mg base 3 "_law_drawn_digit" ["_law_dice_here", "_law_names", "_law_most"] (spDD K) := T.d_law_drawn_digit.cal fun f fd F => ok_dd F T
  refine F.ok sc_law_drawn_row (fun vs H Q E h => ?_) (fun cdv A outer s H vs Q E hr h => ?_)
  · obtain ⟨d, pl, mk, leaf, kvs, M, M1, rfl, _⟩ := h
    rfl
  · obtain ⟨d, pl, mk, leaf, kvs, M, M1, rfl, hd, epl, emk, hM, hV, hO, q⟩ := h
    have hu := hu_of hr
    refine ⟨_, pss_cut (ps_par (i := 3) (j := 4) rfl sc_law_drawn_row.nd rfl rfl (by decide) rfl rfl (pa_cons (pe_cal cs hr (by rfl) (pa_cons (pv 1) (pa_cons pe_int pa_nil))) (pa_cons (pe_lst pa_nil) pa_nil)) (by kernel_rfl))
      (pss_cut (ps_set (i := 5) sc_law_drawn_row.nd rfl (.inl rfl) (pe_op op_cat (pe_lst (pa_cons (pe_dget hu (pv 1) pe_str (fun _ _ => rfl)) pa_nil)) (pe_callB (call_sortedD rfl) (by rfl) T.b_sorted (by decide +kernel) (pa_cons (pe_dget hu (pv 1) pe_str (fun _ _ => rfl)) pa_nil))))
      (pss_cut (ps_for PassesOwn.never rfl (pi_range1 (by rfl) T.b_range (pa_cons (pe_cal cr hr (by rfl) (pa_cons (pv 0) (pa_cons pe_int pa_nil))) pa_nil)) (pg_name (i := 6) sc_law_drawn_row.nd rfl (.inl rfl))
        (pss_cut (ps_set (i := 7) sc_law_drawn_row.nd rfl (.inl rfl) (pe_callB (call_sortedD rfl) (by rfl) T.b_sorted (by decide +kernel) (pa_cons (pe_ix ix_list (pv 3) (pv 6) (fun _ _ => rfl)) pa_nil)))
        (pss_cut (ps_set (i := 8) sc_law_drawn_row.nd rfl (.inl rfl) (pe_ifExp (pt_cmpR (op_neD hr.units) (pv 7) (pe_lst pa_nil) (by rfl)) (pe_cal cd hr (by rfl) (pa_cons (pv 0) (pa_cons (pv 7) (pa_cons (pe_cal cp hr (by rfl) (pa_cons (pv 0) (pa_cons (pe_lst (pa_cons pe_int (pa_cons pe_int (pa_cons pe_int (pa_cons (pv 2) pa_nil))))) pa_nil))) pa_nil)))) (pe_tup pa_nil)))
        (pss_cut (ps_if (pt_cmpR op_eq (pe_cal cr hr (by rfl) (pa_cons (pv 0) (pa_cons pe_int pa_nil))) pe_int (nomark _))
          (pss_one (ps_set (i := 8) sc_law_drawn_row.nd rfl (.inl rfl) (pe_callTy call_tuple_of (by rfl) T.b_tuple (by decide +kernel) (pa_cons (pe_callB cr_sortedTS (by rfl) T.b_sorted (by decide +kernel) (pa_cons
            (pe_op op_catS (pe_slice sl_tupS (pv 8) po_none (po_some pe_int)) (pe_tup (pa_cons (pe_cal cp hr (by rfl) (pa_cons (pv 0) (pa_cons (pe_op op_cat (pv 5) (pe_lst (pa_cons pe_str pa_nil))) pa_nil))) pa_nil))) pa_nil)) pa_nil)))) pss_nil)
        (pss_one (ps_expr (pe_bm PySem.F.plainAttrs_list PySem.F.slot_list_append PySem.F.type_list_append mt_append (pv 4) (pa_cons (pv 8) pa_nil))))))))
      (pss_cut (ps_while PassesOwn.never (PW.pt (pw_and (pt_cmpR (op_neD hr.units) (pv 4) (pe_lst pa_nil) (by rfl)) (pw_and1 (pt_cmpR (op_eqD hr.units) (pe_ix ix_list (pv 4) (pe_un un_neg pe_int) (fun _ _ => rfl)) (pe_tup pa_nil) (by rfl)))))
        (pss_one (ps_expr (pe_bm0 PySem.F.plainAttrs_list PySem.F.slot_list_pop PySem.F.type_list_pop mt_pop (pv 4)))))
      (pss_one (ps_ret (pe_callTy call_tuple_of (by rfl) T.b_tuple (by decide +kernel) (pa_cons (pv 4) pa_nil))))))), ?_⟩
    have big : 100000 ≤ sizeLine := by decide
    have v1 : Vld leaf M1 := hO.vld hV
    -- the sizes, an empty list
    refine ⟨fun σ' G => ∃ (sz l : Addr) (ds : List Addr), σ' = [some (.ref d), some (.ref pl), some (.int 7), some (.ref sz), some (.ref l), none, none, none, none] ∧ G sz = some (.lst (ds.map V.ref)) ∧ ds.length = 7 ∧ RowsAt G leaf M1 ds ∧ G l = some (.lst []) ∧ H l = none ∧ sz ≠ l ∧ Same H G ∧ H sz = none, ?_, ?_⟩
    · refine ⟨_, rfl, pl, mk, leaf, kvs, M, M1, 6, rfl, by omega, epl, emk, hM, hV, hO, fun sz ds G s1 nsz esz lds hRw => ⟨Nat.zero_le _, fun l nl => ⟨_, _, rfl, ?_⟩⟩⟩
      have s2 := same_new (o := .lst []) (Same.refl G) nl
      exact ⟨sz, l, ds, rfl, s2 _ _ esz, lds, hRw.same s2, upd_same, s1.free nl, ne_of_none esz nl, fun b o e => s2 _ _ (s1 _ _ e), nsz⟩
    rintro σ' G ⟨sz, l, ds, rfl, esz, lds, hRw, el, nlH, nsl, s1, nszH⟩
    have hld : l ≠ d := dice_ne hd nlH
    have hszd : sz ≠ d := dice_ne hd nszH
    -- all kinds
    refine ⟨fun σ' G => ∃ (ot : Addr) (os : List Str), σ' = [some (.ref d), some (.ref pl), some (.int 7), some (.ref sz), some (.ref l), some (.ref ot), none, none, none] ∧ DRc K H d l ot sz ds os leaf M1 [] G ∧ os ≠ [] ∧ os.length ≤ 7 ∧ (∀ z ∈ os, nameB z = true) ∧ ot ≠ d ∧ l ≠ ot, ?_, ?_⟩
    · refine ⟨_, rfl, pl, .str leaf, rfl, .inl ⟨_, Sum.inr "leaf", .inl (s1 _ _ epl), rfl, (book_leaf leaf mk).symm⟩, by show 1 ≤ sizeLine; omega, fun l1 n1 => ?_⟩
      have s2 := same_new (o := .lst [V.str leaf]) (Same.refl G) n1
      have el1 : (upd G l1 (.lst [V.str leaf])) l1 = some (.lst [V.str leaf]) := upd_same
      generalize upd G l1 (.lst [V.str leaf]) = G2 at s2 el1
      have sH2 : Same H G2 := fun b o e => s2 _ _ (s1 _ _ e)
      refine ⟨_, rfl, pl, .ref mk, rfl, .inl ⟨_, Sum.inr "makings", .inl (sH2 _ _ epl), rfl, (book_mak leaf mk).symm⟩, mk, kvs, keysOf M, rfl, .inl (sH2 _ _ emk), hM.keys, ?_, fun ys sp hperm hsrt nsp => ?_⟩
      · have := hV.len
        unfold keysOf
        rw [List.length_map]
        omega
      have s3 := same_new (o := .lst (ys.map V.str)) (Same.refl G2) nsp
      have esp : (upd G2 sp (.lst (ys.map V.str))) sp = some (.lst (ys.map V.str)) := upd_same
      generalize upd G2 sp (.lst (ys.map V.str)) = G3 at s3 esp
      have lys : ys.length ≤ 6 := by
        have := hV.len
        rw [hperm.length_eq]
        unfold keysOf
        rw [List.length_map]
        omega
      refine ⟨l1, sp, _, _, rfl, rfl, s3 _ _ el1, esp, ?_, fun ot not => ?_⟩
      · rw [List.length_map]
        show 1 + _ ≤ sizeLine
        omega
      have s4 := same_new (o := .lst ([V.str leaf] ++ ys.map V.str)) (Same.refl G3) not
      have s14 : Same G _ := fun b o e => s4 _ _ (s3 _ _ (s2 _ _ e))
      have sH4 : Same H _ := fun b o e => s14 _ _ (s1 _ _ e)
      have notd : ot ≠ d := dice_ne (dice_sm (fun b o e => s3 _ _ (sH2 _ _ e)) hd) not
      refine ⟨ot, leaf :: ys, rfl, ⟨s14 _ _ el, nofun, upd_same, s14 _ _ esz, hRw.same s14, SameX.of sH4, dice_sm sH4 hd⟩, List.cons_ne_nil _ _, by rw [List.length_cons]; omega, fun z hz => ?_, notd, ?_⟩
      · rcases List.mem_cons.mp hz with rfl | hz
        · exact pool_name hV.lf
        · exact pool_name (hV.keys z (hperm.mem_iff.mp hz))
      · exact fun z => by
          have h := s3 _ _ (s2 _ _ el)
          rw [z, not] at h
          cases h
    rintro σ' G0 ⟨ot, os, rfl, c0, hone, los, hos, hotd, nlo⟩
    clear esz hRw el s1
    have nn : l ≠ d ∧ ot ≠ d ∧ sz ≠ d := ⟨hld, hotd, hszd⟩
    -- rank by rank
    refine ⟨fun σ' G => ∃ (y6 y7 y8 : Option V) (LL : List (Addr × List Str)), σ' = [some (.ref d), some (.ref pl), some (.int 7), some (.ref sz), some (.ref l), some (.ref ot), y6, y7, y8] ∧ DRc K H d l ot sz ds os leaf M1 LL G ∧ LL.length ≤ 6 ∧ ∀ q ∈ LL, NmOk q.2, ?_, ?_⟩
    · refine ⟨_, rfl, d, _, rfl, c0.hd, by decide, by decide, fun r x b c h0 h1 => ⟨_, rfl, by omega, by omega, ?_⟩⟩
      obtain ⟨k, rfl⟩ := Int.eq_ofNat_of_zero_le h0
      rw [Int.toNat_natCast]
      have hk7 : k < 7 := by omega
      refine for_range (lo := 0) (fun j σ' G => ∃ (y6 y7 y8 : Option V) (LL : List (Addr × List Str)), σ' = [some (.ref d), some (.ref pl), some (.int 7), some (.ref sz), some (.ref l), some (.ref ot), y6, y7, y8] ∧ DRc K H d l ot sz ds os leaf M1 LL G ∧ LL.length = j ∧ ∀ q ∈ LL, NmOk q.2)
        ⟨none, none, none, [], rfl, c0.step nn ((SameX.refl d _).atd) (dice_new x b c), rfl, nofun⟩ (fun j σ' G2 hj hI => ?_) (fun σ' G2 hI => ?_)
      · obtain ⟨y6, y7, y8, LL, rfl, c2, lL, hok⟩ := hI
        rw [show (0 : Int) + (j : Nat) = ((j : Nat) : Int) from Int.zero_add _]
        have hdsj : ds[j]? = some ds[j] := List.getElem?_eq_getElem (by omega)
        generalize ds[j] = ra at hdsj
        have era := c2.hr j ra hdsj
        have hat : atI (ds.map V.ref) ((j : Nat) : Int) = some (.ref ra) := by
          refine atI_nat ?_
          rw [List.getElem?_map, hdsj]
          rfl
        -- the kinds there
        refine ⟨fun σ' G' => ∃ (sp : Addr) (ys : List Str), σ' = [some (.ref d), some (.ref pl), some (.int 7), some (.ref sz), some (.ref l), some (.ref ot), some (.int (j : Nat)), some (.ref sp), y8] ∧ G' sp = some (.lst (ys.map V.str)) ∧ ys.Perm (keysR (rowsR leaf M1 j)) ∧ sp ≠ d ∧ DRc K H d l ot sz ds os leaf M1 LL G', ?_, ?_⟩
        · refine ⟨_, rfl, _, rfl, sz, _, _, .ref ra, rfl, rfl, .inl (.inl c2.es), hat, ra, rowK (rowsR leaf M1 j), keysR (rowsR leaf M1 j), rfl, .inl era, rowK_keys _, ?_, fun ys sp hperm hsrt nsp => ?_⟩
          · have := rows_len v1 j
            unfold keysR
            rw [List.length_map]
            omega
          · exact ⟨sp, ys, rfl, upd_same, hperm, dice_ne c2.hd nsp, c2.sm nn (same_new (Same.refl G2) nsp)⟩
        rintro σ' G3 ⟨sp, ys, rfl, esp, hperm, hspd, c3⟩
        have lys : ys.length ≤ 6 := by
          rw [hperm.length_eq]
          unfold keysR
          rw [List.length_map]
          exact rows_len v1 j
        have nmys : ∀ z ∈ ys, nameB z = true := fun z hz => by
          rcases set_sub j z (hperm.mem_iff.mp hz) with rfl | e
          · exact pool_name v1.lf
          · exact pool_name (v1.keys z e)
        have okys : ∀ z ∈ ys, PyData.strOk z = true := fun z hz => names_low (nmys z hz)
        clear hdsj era hat c2
        -- a digit
        refine ⟨fun σ' G' => ∃ (p : Addr) (zs : List Str), σ' = [some (.ref d), some (.ref pl), some (.int 7), some (.ref sz), some (.ref l), some (.ref ot), some (.int (j : Nat)), some (.ref sp), some (.ref p)] ∧ SqT K G' p (zs.map V.str) ∧ NmOk zs ∧ DRc K H d l ot sz ds os leaf M1 LL G', ?_, ?_⟩
        · refine ⟨_, rfl, Nat.zero_le _, fun e0 ne0 => ?_⟩
          have s4 := same_new (o := .lst []) (Same.refl G3) ne0
          have ee : (upd G3 e0 (.lst [])) e0 = some (.lst []) := upd_same
          generalize upd G3 e0 (.lst []) = G4 at s4 ee
          have c4 := c3.sm nn s4
          refine ⟨.list (tD ys), .list (tD []), .lst (.inl (.inl (s4 _ _ esp))) (dp_texts _), .lst (.inl (.inl ee)) (dp_texts []), shaped_texts okys, shaped_texts (fun z hz => nomatch hz), ?_⟩
          rw [PyData.eqv, eqv_texts]
          refine ⟨_, rfl, ?_⟩
          by_cases c : ys = []
          · rw [decide_eq_true c]
            show (if (!true) = true then _ else _)
            rw [if_neg (by decide)]
            refine ⟨Nat.zero_le _, fun p np => ?_⟩
            exact ⟨p, [], rfl, .inl (.inl upd_same), ⟨rfl, Nat.zero_le _, nofun⟩, c4.sm nn (same_new (Same.refl G4) np)⟩
          · rw [decide_eq_false c]
            show (if (!false) = true then _ else _)
            rw [if_pos (by decide)]
            refine ⟨_, rfl, _, rfl, _, rfl, _, rfl, by show 4 ≤ sizeLine; omega, fun pk npk => ?_⟩
            have s5 := same_new (o := .lst [V.int 1, V.int 2, V.int 3, V.int 7]) (Same.refl G4) npk
            have epk : (upd G4 pk (.lst [V.int 1, V.int 2, V.int 3, V.int 7])) pk = some (.lst [V.int 1, V.int 2, V.int 3, V.int 7]) := upd_same
            have npd : pk ≠ d := dice_ne c4.hd npk
            generalize upd G4 pk (.lst [V.int 1, V.int 2, V.int 3, V.int 7]) = G5 at s5 epk
            have c5 := c4.sm nn s5
            refine ⟨d, .ref pk, _, rfl, c5.hd, .inl ⟨pk, rfl, npd, .inl (.inl (.inl epk))⟩, by simp, by show 4 ≤ 100000; omega, fun v x b c' hv => ?_⟩
            have sd : SameX d G5 (upd G5 d (.lst [.int x, .int b, .int c'])) := (SameX.refl d G5).atd
            have c6 := c5.step nn sd (dice_new x b c')
            have esp6 := sd _ _ hspd (s5 _ _ (s4 _ _ esp))
            generalize upd G5 d (.lst [.int x, .int b, .int c']) = G6 at sd c6 esp6
            obtain ⟨kk, rfl, hkk⟩ : ∃ kk : Nat, v = .int (kk : Nat) ∧ kk ≤ 7 := by
              simp only [List.mem_cons, List.not_mem_nil, or_false] at hv
              rcases hv with rfl | rfl | rfl | rfl
              · exact ⟨1, rfl, by omega⟩
              · exact ⟨2, rfl, by omega⟩
              · exact ⟨3, rfl, by omega⟩
              · exact ⟨7, rfl, by omega⟩
            refine ⟨d, sp, ys, kk, rfl, by omega, c6.hd, esp6, c, by omega, fun p zs G7 sx7 hd7 npn ep hs hl hin => ?_⟩
            exact ⟨p, zs, rfl, .inl (.inl ep), ⟨hs, by omega, fun z hz => nmys z (hin z hz)⟩, c6.step nn sx7 hd7⟩
        rintro σ' G4 ⟨p, zs, rfl, hp, hz, c4⟩
        clear c3 esp
        -- perhaps another one
        refine ⟨fun σ' G' => ∃ (p : Addr) (zs : List Str), σ' = [some (.ref d), some (.ref pl), some (.int 7), some (.ref sz), some (.ref l), some (.ref ot), some (.int (j : Nat)), some (.ref sp), some (.ref p)] ∧ SqT K G' p (zs.map V.str) ∧ NmOk zs ∧ DRc K H d l ot sz ds os leaf M1 LL G', ?_, ?_⟩
        · refine ⟨_, rfl, d, _, rfl, c4.hd, by decide, by decide, fun r x b c h0 h1 => ⟨rfl, _, rfl, ?_⟩⟩
          have sd : SameX d G4 (upd G4 d (.lst [.int x, .int b, .int c])) := (SameX.refl d G4).atd
          have c5 := c4.step nn sd (dice_new x b c)
          have hp5 := sqT_sx c4.hd sd hp
          generalize upd G4 d (.lst [.int x, .int b, .int c]) = G5 at sd c5 hp5
          refine ite2 (fun _ => ?_) (fun _ => ⟨p, zs, rfl, hp5, hz, c5⟩)
          refine ⟨_, rfl, _, rfl, p, _, rfl, hp5, fun p2 G6 s6 hp6 => ?_⟩
          rw [show (2 : Int) = ((2 : Nat) : Int) from rfl, cut_to0, ← List.map_take] at hp6
          have c6 := c5.sm nn s6
          refine ⟨_, rfl, _, rfl, by show 1 ≤ sizeLine; omega, fun l1 nl1 => ?_⟩
          have s7 := same_new (o := .lst [V.str "nobody"]) (Same.refl G6) nl1
          have el1 : (upd G6 l1 (.lst [V.str "nobody"])) l1 = some (.lst [V.str "nobody"]) := upd_same
          generalize upd G6 l1 (.lst [V.str "nobody"]) = G7 at s7 el1
          have c7 := c6.sm nn s7
          refine ⟨ot, l1, _, _, rfl, rfl, c7.eo, el1, ?_, fun l2 nl2 => ?_⟩
          · rw [List.length_map]
            show _ + 1 ≤ sizeLine
            omega
          have s8 := same_new (o := .lst (os.map V.str ++ [V.str "nobody"])) (Same.refl G7) nl2
          have el2 : (upd G7 l2 (.lst (os.map V.str ++ [V.str "nobody"]))) l2 = some (.lst (os.map V.str ++ [V.str "nobody"])) := upd_same
          have nl2d : l2 ≠ d := dice_ne c7.hd nl2
          generalize upd G7 l2 (.lst (os.map V.str ++ [V.str "nobody"])) = G8 at s8 el2
          have c8 := c7.sm nn s8
          refine ⟨d, .ref l2, _, rfl, c8.hd, .inl ⟨l2, rfl, nl2d, .inl (.inl (.inl el2))⟩, by simp, ?_, fun v x b c' hv => ?_⟩
          · rw [List.length_append, List.length_map]
            show _ + 1 ≤ 100000
            omega
          have sd2 : SameX d G8 (upd G8 d (.lst [.int x, .int b, .int c'])) := (SameX.refl d G8).atd
          have c9 := c8.step nn sd2 (dice_new x b c')
          have hp9 := sqT_sx c8.hd sd2 (sqT_sm s8 (sqT_sm s7 hp6))
          generalize upd G8 d (.lst [.int x, .int b, .int c']) = G9 at sd2 c9 hp9
          obtain ⟨vz, rfl, hvz⟩ : ∃ vz : Str, v = .str vz ∧ nameB vz = true := by
            rcases List.mem_append.mp hv with hv | hv
            · obtain ⟨o, ho, rfl⟩ := List.mem_map.mp hv
              exact ⟨o, rfl, hos o ho⟩
            · rw [List.mem_singleton.mp hv]
              exact ⟨"nobody", rfl, by decide +kernel⟩
          refine ⟨by show 1 ≤ sizeLine; omega, fun tp ntp => ?_⟩
          have s10 := same_new (o := .tup [V.str vz]) (Same.refl G9) ntp
          have etp : (upd G9 tp (.tup [V.str vz])) tp = some (.tup [V.str vz]) := upd_same
          generalize upd G9 tp (.tup [V.str vz]) = G10 at s10 etp
          have c10 := c9.sm nn s10
          refine ⟨p2, tp, _, _, rfl, rfl, sqT_sm s10 hp9, .inl (.inl etp), ?_, fun p3 G11 s11 hp11 => ?_⟩
          · rw [List.length_map, List.length_take]
            show _ + 1 ≤ sizeLine
            omega
          have e3 : (zs.take 2).map V.str ++ [V.str vz] = (zs.take 2 ++ [vz]).map V.str := by rw [List.map_append]; rfl
          rw [e3] at hp11
          have l3 : (zs.take 2 ++ [vz]).length ≤ 3 := by
            rw [List.length_append, List.length_take, List.length_singleton]
            omega
          refine ⟨p3, zs.take 2 ++ [vz], rfl, hp11, by omega, fun us p4 hperm4 hsrt4 np4 => ?_⟩
          have s12 := same_new (o := .lst (us.map V.str)) s11 np4
          refine ⟨p4, _, rfl, .inl ⟨.inl (.inl upd_same), fun p5 np5 => ?_⟩⟩
          refine ⟨p5, us, rfl, .inl (.inl upd_same), ⟨hsrt4, by rw [hperm4.length_eq]; omega, fun z hz' => ?_⟩, c10.sm nn (same_new s12 np5)⟩
          rcases List.mem_append.mp (hperm4.mem_iff.mp hz') with h | h
          · exact hz.2.2 z (List.mem_of_mem_take h)
          · rw [List.mem_singleton.mp h]
            exact hvz
        rintro σ' G5 ⟨p, zs, rfl, hp, hz, c5⟩
        refine ⟨_, rfl, ⟨.inl ⟨rfl, _, .inl (.inl c5.el)⟩, ?_⟩⟩
        refine ⟨_, rfl, l, _, _, rfl, rfl, c5.el, by rw [List.length_map]; omega, ?_⟩
        refine ⟨_, _, _, LL ++ [(p, zs)], rfl, ⟨by rw [upd_same, List.map_append]; rfl, fun q hq => ?_, by rw [upd_ne nlo.symm]; exact c5.eo, by rw [upd_ne nsl]; exact c5.es, fun i a ha => ?_, c5.sx.at nlH, dice_upd c5.hd hld⟩, by rw [List.length_append, lL]; rfl, fun q hq => ?_⟩
        · rcases List.mem_append.mp hq with h | h
          · exact sqT_lst c5.el (c5.hT q h)
          · rw [List.mem_singleton.mp h]
            exact sqT_lst c5.el hp
        · have e1 := c5.hr i a ha
          rw [upd_ne (fun w => by rw [w, c5.el] at e1; cases e1)]
          exact e1
        · rcases List.mem_append.mp hq with h | h
          · exact hok q h
          · rw [List.mem_singleton.mp h]
            exact hz
      · obtain ⟨y6, y7, y8, LL, rfl, c2, lL, hok⟩ := hI
        exact ⟨y6, y7, y8, LL, rfl, c2, by omega, hok⟩
    rintro σ' G1 ⟨y6, y7, y8, LL, rfl, c1, lL, hok⟩
    have eL := c1.el
    have hT := c1.hT
    have sx1 := c1.sx
    have hd1 := c1.hd
    clear c1 c0
    -- without empty digits at the end
    refine ⟨fun σ' G => ∃ LL : List (Addr × List Str), σ' = [some (.ref d), some (.ref pl), some (.int 7), some (.ref sz), some (.ref l), some (.ref ot), y6, y7, y8] ∧ G l = some (.lst (LL.map fun q => V.ref q.1)) ∧ TxtsAt K G LL ∧ LL.length ≤ 6 ∧ (∀ q ∈ LL, NmOk q.2) ∧ looseB (LL.map (·.2)) = true ∧ SameX d H G ∧ DiceAt G d, ?_, ?_⟩
    · refine ⟨fun m σ' G => ∃ LL : List (Addr × List Str), LL.length = m ∧ σ' = [some (.ref d), some (.ref pl), some (.int 7), some (.ref sz), some (.ref l), some (.ref ot), y6, y7, y8] ∧ G l = some (.lst (LL.map fun q => V.ref q.1)) ∧ TxtsAt K G LL ∧ LL.length ≤ 6 ∧ (∀ q ∈ LL, NmOk q.2) ∧ SameX d H G ∧ DiceAt G d, ⟨_, LL, rfl, rfl, eL, hT, lL, hok, sx1, hd1⟩, fun m σ' G hW => ?_⟩
      clear eL hT lL hok sx1 hd1
      obtain ⟨LL, lm, rfl, eL, hT, lL, hok, sx1, hd1⟩ := hW
      refine ⟨_, rfl, Nat.zero_le _, fun e0 ne0 => ?_⟩
      have s2 := same_new (o := .lst []) (Same.refl G) ne0
      have ee : (upd G e0 (.lst [])) e0 = some (.lst []) := upd_same
      have hd2 := dice_upd (o := .lst []) hd1 (dice_ne hd1 ne0)
      generalize upd G e0 (.lst []) = G2 at s2 ee hd2
      have eL2 := s2 _ _ eL
      have hT2 : TxtsAt K G2 LL := fun q hq => sqT_sm s2 (hT q hq)
      have sx2 : SameX d H G2 := sx1.trans (SameX.of s2)
      rcases List.eq_nil_or_concat LL with rfl | ⟨A, q0, rfl⟩
      · refine ⟨.list [], .list [], .lst (.inl (.inl eL2)) .nil, .lst (.inl (.inl ee)) .nil, rfl, rfl, ?_⟩
        rw [show PyData.eqv (.list []) (.list []) = true from rfl]
        refine ⟨_, rfl, ?_⟩
        show (if (!true) = true then _ else _)
        rw [if_neg (by decide)]
        show (if false = true then _ else _)
        rw [if_neg (by decide)]
        exact ⟨[], rfl, eL2, nofun, Nat.zero_le _, nofun, by decide +kernel, sx2, hd2⟩
      rw [List.concat_eq_append] at eL2 hT2 hok lL lm
      have sOk : ∀ q ∈ A ++ [q0], ∀ z ∈ q.2, PyData.strOk z = true := fun q hq z hz => names_low ((hok q hq).2.2 z hz)
      have shL : SeqAt.shaped (.list (((A ++ [q0]).map (·.2)).map fun z => PyData.tuple (tD z))) = true := by
        obtain ⟨h1, h2⟩ := row_all (qs := (A ++ [q0]).map (·.2)) fun q hq => by
          obtain ⟨y, hy, rfl⟩ := List.mem_map.mp hq
          exact sOk y hy
        unfold SeqAt.shaped
        rw [Bool.and_eq_true]
        exact ⟨h1, decide_eq_true (by rw [PyData.depth]; omega)⟩
      have dpL : Dp K G2 (.ref l) (.list (((A ++ [q0]).map (·.2)).map fun z => PyData.tuple (tD z))) := .lst (.inl (.inl eL2)) (dp_refs hT2)
      refine ⟨_, .list [], dpL, .lst (.inl (.inl ee)) .nil, shL, rfl, ?_⟩
      rw [show PyData.eqv (.list (((A ++ [q0]).map (·.2)).map fun z => PyData.tuple (tD z))) (.list []) = false by rw [PyData.eqv]; cases A <;> rfl]
      refine ⟨_, rfl, ?_⟩
      show (if (!false) = true then _ else _)
      rw [if_pos (by decide)]
      have hat : atI ((A ++ [q0]).map fun q => V.ref q.1) (-1) = some (.ref q0.1) := by
        unfold atI ixN
        rw [if_neg (by decide), List.length_map, List.length_append, List.length_singleton, if_pos (by omega)]
        show ((A ++ [q0]).map fun q => V.ref q.1)[((-1 : Int) + ((A.length + 1 : Nat) : Int)).toNat]? = _
        rw [show ((-1 : Int) + ((A.length + 1 : Nat) : Int)).toNat = A.length by omega, List.getElem?_map, List.getElem?_append_right (Nat.le_refl _), Nat.sub_self]
        rfl
      have hq0 := hT2 q0 (List.mem_append.mpr (.inr (List.mem_singleton.mpr rfl)))
      refine ⟨_, rfl, _, rfl, l, _, _, .ref q0.1, rfl, rfl, .inl (.inl eL2), hat, Nat.zero_le _, fun e1 ne1 => ?_⟩
      have s3 := same_new (o := .tup []) (Same.refl G2) ne1
      have ee1 : (upd G2 e1 (.tup [])) e1 = some (.tup []) := upd_same
      have hd3 := dice_upd (o := .tup []) hd2 (dice_ne hd2 ne1)
      generalize upd G2 e1 (.tup []) = G3 at s3 ee1 hd3
      have eL3 := s3 _ _ eL2
      have hT3 : TxtsAt K G3 (A ++ [q0]) := fun q hq => sqT_sm s3 (hT2 q hq)
      have sx3 : SameX d H G3 := sx2.trans (SameX.of s3)
      refine ⟨.tuple (tD q0.2), .tuple (tD []), .tup (sqT_sm s3 hq0) (dp_texts _), .tup (.inl (.inl ee1)) (dp_texts []), shaped_textsT (sOk q0 (List.mem_append.mpr (.inr (List.mem_singleton.mpr rfl)))), shaped_textsT (fun z hz => nomatch hz), ?_⟩
      rw [PyData.eqv, eqv_texts]
      refine ⟨_, rfl, ?_⟩
      by_cases c : q0.2 = []
      · rw [decide_eq_true c]
        show (if true = true then _ else _)
        rw [if_pos rfl]
        refine ⟨_, fun σ' G h => h, ?_⟩
        have hlast : ((A ++ [q0]).map fun q => V.ref q.1)[((A ++ [q0]).map fun q => V.ref q.1).length - 1]? = some (V.ref q0.1) := by
          rw [List.length_map, List.length_append, List.length_singleton, Nat.add_sub_cancel, List.getElem?_map, List.getElem?_append_right (Nat.le_refl _), Nat.sub_self]
          rfl
        refine ⟨_, rfl, ⟨.inl ⟨rfl, _, .inl (.inl eL3)⟩, l, _, _, rfl, rfl, eL3, hlast, ?_⟩⟩
        rw [show ((A ++ [q0]).map fun q => V.ref q.1).dropLast = A.map fun q => V.ref q.1 by rw [List.map_append]; exact List.dropLast_concat]
        rw [List.length_append, List.length_singleton] at lL lm
        exact ⟨A.length, by omega, A, rfl, rfl, upd_same, fun q hq => sqT_lst eL3 (hT3 q (List.mem_append.mpr (.inl hq))), by omega, fun q hq => hok q (List.mem_append.mpr (.inl hq)), sx3.at nlH, dice_upd hd3 hld⟩
      · rw [decide_eq_false c]
        show (if false = true then _ else _)
        rw [if_neg (by decide)]
        refine ⟨A ++ [q0], rfl, eL3, hT3, lL, hok, loose_of (by rw [List.length_map]; omega) (fun x hx => ?_) (fun j hj => ?_), sx3, hd3⟩
        · obtain ⟨y, hy, rfl⟩ := List.mem_map.mp hx
          exact (hok y hy).good
        · rw [List.length_map, List.length_append, List.length_singleton] at hj
          have ej : j = A.length := by omega
          unfold dg
          rw [ej, List.getElem?_map, List.getElem?_append_right (Nat.le_refl _), Nat.sub_self]
          exact c
    rintro σ' G2 ⟨LL2, rfl, eL2, hT2, lL2, hok2, hL2, sx2, hd2⟩
    refine ⟨_, rfl, l, _, rfl, .inl ⟨.inl (.inl eL2), fun tq ntq => ?_⟩⟩
    have s3 := same_new (o := .tup (LL2.map fun q => V.ref q.1)) (Same.refl G2) ntq
    exact q tq LL2 _ (sx2.trans (SameX.of s3)) (dice_upd hd2 (dice_ne hd2 ntq)) ⟨.inl (.inl upd_same), fun q hq => sqT_sm s3 (hT2 q hq)⟩ hL2 (fun q hq => (hok2 q hq).2.1) lL2
end
end Kl

set_option maxRecDepth 100000
/-! ### own rule: enumerate(t), t a tuple -/
namespace PySem
open Sem (wp)
abbrev enT (t : Addr) : Obj := { cls := .type "tuple_iterator", data := .fields #[.ref t, .int 0 0] }
set_option maxHeartbeats 1000000 in
theorem meets_enumT (t : Addr) (items : Array Value) :
    Meets (Builtin.«enumerate.__new__» ⟨[.type "enumerate", .ref t], []⟩) (fun _ R s => s.heap.IsTuple t items ∧
      R (.ok (.ret (.ref (s.heap.push (enT t)).objs.size))) { s with heap := (s.heap.push (enT t)).push { cls := .type "enumerate", data := .fields #[.none, .bool false, .ref s.heap.objs.size, rawInt 0, .none, .none] } }) :=
  .of_wp fun prog w A R s h => by
    obtain ⟨hp, g, d, tk, os⟩ := s; obtain ⟨h1, h⟩ := h
    have hsub := sub_enumerate
    have q1 : ∀ {A' : Around} {E : Value → Shared → Prop} {Q : Value → Shared → Prop}, Q (.ref hp.objs.size) ⟨hp.push (enT t), g, d, tk, os⟩ → wpAny (model prog w) A' (pyIter (.ref t)) Q E ⟨hp, g, d, tk, os⟩ :=
      fun q => (begins_tuple t items).iter prog w _ _ ⟨hp, g, d, tk, os⟩ _ h1 q
    wp_walk using q1
    refine wpAny_stack_any fun st => wpAny_pure ?_
    split
    · rename_i c _ _ _ _ _
      cases (c == Value.type "enumerate")
      · wp_walk using q1
        exact ⟨_, rfl, h⟩
      · wp_walk using q1
        exact ⟨_, rfl, h⟩
    · wp_walk using q1
      exact ⟨_, rfl, h⟩
section
variable {prog : Program} {w : World} {A : Around} {E : Value → Shared → Prop} {s : Shared}
theorem call_enumT {t : Addr} {items : Array Value} {Q : Value → Shared → Prop} (ht : s.heap.IsTuple t items)
    (h : ∀ h', IsEnum h' (s.heap.objs.size + 1) s.heap.objs.size 0 .none → h'.IsTupleIter s.heap.objs.size t 0 → h'.objs.size = s.heap.objs.size + 2 →
      (∀ b o, s.heap.get? b = some o → h'.get? b = some o) → Q (.ref (s.heap.objs.size + 1)) { s with heap := h' }) :
    wpAny (model prog w) A (call (.type "enumerate") [.ref t]) Q E s := by
  refine callType_new F.called_enumerate (by decide) (F.typeCall_enumerate_1 _) (F.newCall_enumerate_1 _) (fun obj => F.args_object_init_2 obj _) F.entry_enumerate_new
    (meets_enumT t items) ⟨ht, ?_⟩
  have hz : (s.heap.push (enT t)).objs.size = s.heap.objs.size + 1 := Heap.size_push ..
  show _ ∧ _
  rw [hz]
  have he : IsEnum ((s.heap.push (enT t)).push { cls := .type "enumerate", data := .fields #[.none, .bool false, .ref s.heap.objs.size, rawInt 0, .none, .none] }) (s.heap.objs.size + 1) s.heap.objs.size 0 .none := by
    have := Heap.get?_push_size (s.heap.push (enT t)) (o := { cls := .type "enumerate", data := .fields #[.none, .bool false, .ref s.heap.objs.size, rawInt 0, .none, .none] }) rfl
    rw [hz] at this; exact this
  exact ⟨⟨_, he, rfl⟩, h _ he ⟨_, Heap.get?_push_of_some _ (Heap.get?_push_size _ rfl), rfl, rfl⟩ (by rw [Heap.size_push, hz]) fun b o x => Heap.get?_push_of_some _ (Heap.get?_push_of_some _ x)⟩
end
end PySem
namespace L2
open PySem PySem.Spec PyProof.Rows
set_option maxHeartbeats 4000000
/-- the tuple at a, each item in a new pair with its place -/
def ItNT (K : PySem.W.Frag) (a : Addr) : It :=
  ⟨fun i H => ∃ (xs : List V) (x : V), SqT K H a xs ∧ xs[i]? = some x, fun i H v H' => ∃ T x, v = .ref T ∧ H T = none ∧ H' = upd H T (.tup [.int (i : Nat), x]) ∧ ∀ xs, SqT K H a xs → xs[i]? = some x, fun i H => ∃ xs : List V, SqT K H a xs ∧ xs.length ≤ i⟩
theorem turn_enumT {P : Program} {w : World} {K : PySem.W.Frag} {elts : List Expr} {kk : Nat} {tpos : Pos} (a e it : Addr) (hai : a ≠ it) (hae : a ≠ e) :
    Turn P w K (.Tuple elts kk tpos) (ItNT K a) [e, it] e (fun i h => (∃ old, IsEnum h e it ((i : Nat) : Int) old) ∧ h.IsTupleIter it a i ∧ e ≠ it) where
  mem := by simp
  obj := fun i h st b hb => by
    obtain ⟨⟨old, he⟩, ⟨o, ho, hc, hd⟩, _⟩ := st
    have e' : b = e ∨ b = it := by simpa using hb
    rcases e' with z | z
    · rw [z]; exact ⟨_, he, fun v q => nomatch q⟩
    · rw [z]; exact ⟨o, ho, fun v q => by rw [hd] at q; cases q⟩
  keep := fun i h h' st k => let ⟨⟨old, he⟩, hi, hne⟩ := st; ⟨⟨old, k e (by simp) _ he⟩, hi.at fun o q => k it (by simp) o q, hne⟩
  item := by
    intro X hP hw hK hc i pins s σ H E I hf st hg
    subst hP hw hK
    obtain ⟨⟨old, he⟩, hit, hne⟩ := st
    obtain ⟨xs, x, hq, hx⟩ := hg
    obtain ⟨its, rv, p, hz⟩ := I.tuple hq
    obtain ⟨u, hu, ru⟩ := rv.get hx
    have hp : s.heap.IsTuple a its.toArray := p
    have hel : e < s.heap.objs.size := Heap.lt_size he
    have hil : it < s.heap.objs.size := by obtain ⟨_, q, _⟩ := hit; exact Heap.lt_size q
    have hlt : i < its.toArray.size := by
      have := (List.getElem?_eq_some_iff.mp hu).1
      simpa using this
    refine wpAny_pyNext_enum_itemD (Draws.tuple (A := X.A.in1) (I.ok.hd hc) it a hai its.toArray) he ⟨hit, hp⟩ hlt hne (by simp; exact ⟨hne, hae.symm⟩) fun x' h' tk hx' ho hst' hT hsz hk => ?_
    have ex : x' = u := by
      have h1 : its.toArray[i]? = some u := by simpa using hu
      exact Option.some.inj (hx'.symm.trans h1)
    subst ex
    refine ⟨_, rfl, wpAny_letOwnedTupleGo_enum (s := { s with heap := h', toks := tk + 1 }) ho fun h'' he' sb => ?_⟩
    have hT2 : h''.get? s.heap.objs.size = some { cls := .type "tuple", data := .seq #[.int i tk, x'] } := (sb.2 _ (Nat.ne_of_gt hel)).trans hT
    have new : ObjOk X.prog X.w (upd H s.heap.objs.size (.tup [.int (i : Nat), x])) h'' s.heap.objs.size (.tup [.int (i : Nat), x]) :=
      ⟨by show 2 ≤ sizeLine; decide, [.int i tk, x'], .cons ⟨_, rfl⟩ (.cons ru .nil), ⟨_, hT2, rfl, _, rfl⟩⟩
    have I1 : Inv X pins σ (upd H s.heap.objs.size (.tup [.int (i : Nat), x])) { s with heap := h'', toks := tk + 1 } :=
      I.turnedNew (ch := [e, it]) (fun b ob hb q => (sb.2 b (fun z => hb (by simp [z]))).trans (hk b ob (fun z => hb (by simp [z])) (fun z => hb (by simp [z])) q)) hf (Nat.le_refl _) new
    refine ⟨.ref s.heap.objs.size, _, I1, rfl, ⟨_, x, rfl, I.hok.fresh (Nat.le_refl _), rfl, fun ys hy => by rw [I.tuple_inj hy hq]; exact hx⟩, ⟨⟨x', ?_⟩, hst'.1.at fun o q => (sb.2 it (Ne.symm hne)).trans q, hne⟩, fun b hb => ?_⟩
    · have e1 : ((i + 1 : Nat) : Int) = (i : Int) + 1 := by omega
      rw [e1]; exact he'
    · have hb' : b < s.heap.objs.size := by
        have e' : b = e ∨ b = it := by simpa using hb
        rcases e' with z | z
        · rw [z]; exact hel
        · rw [z]; exact hil
      rw [upd_ne (Nat.ne_of_lt hb')]
      exact (hf b hb).1
  done := by
    intro X hP hw hK hc i pins s σ H E I hf st hg
    subst hP hw hK
    obtain ⟨⟨old, he⟩, hit, hne⟩ := st
    obtain ⟨xs, hq, hx⟩ := hg
    obtain ⟨its, rv, p, hz⟩ := I.tuple hq
    have hp : s.heap.IsTuple a its.toArray := p
    obtain ⟨f0, f1, f2, f3, f4, f5⟩ := hf it (by simp)
    have hl := rv.length
    have hh : X.A.handled = none := I.ok.hd hc
    have D : Draws X.prog X.w X.A.in1 it [it, a] i (fun _ _ => False) (fun j h => j = i ∧ h.IsTupleIter it a i ∧ h.IsTuple a its.toArray) :=
      { live := fun _ _ st => let ⟨o, ho, _⟩ := st.2.1; ⟨o, ho⟩
        frame := fun _ _ _ st hk => ⟨st.1, st.2.1.at fun o e => hk it (by simp) o e, st.2.2.at fun o e => hk a (by simp) o e⟩
        item := fun j s Q E hj st hQ => absurd st.1 (Nat.ne_of_lt hj)
        done := fun s Q E st hE => wpAny_nextOf_tuple_end (A := X.A.in1) hh st.2.1 st.2.2 (by simp; omega) hE }
    exact wpAny_pyNext_enum_endD D he ⟨rfl, hit, hp⟩ fun h' eb => ⟨rfl, I.turned (t' := s.toks) (fun b o hb q => eb b o hb q) f0 f1 f3 f4 f5⟩
  self := fun A i s Q E st h => let ⟨⟨_, he⟩, _⟩ := st; wpAny_pyIter_enum he h
def iEnumT (K : PySem.W.Frag) (ta : TA) : TI := fun σ H R => ta σ H fun vs H1 => ∃ a xs, vs = [.ref a] ∧ SqT K H1 a xs ∧ R (ItNT K a) H1
theorem pi_enumT {X : Cx} {e : Expr} {ta : TA} {p pos tpos : Pos} {elts : List Expr} {kk : Nat} (hg : Gl X "enumerate") (hm : X.mg "enumerate" = none) (ha : PA X [e] ta) (hs : starEach [e] X.env = [(false, eval e X.env)] := by rfl) :
    PI X (.Tuple elts kk tpos) (.Call (.Name "enumerate" p) [e] [] pos) (iEnumT X.K ta) := by
  refine ⟨fun pins s σ H R I h => ?_⟩
  refine Call_ (ld_blt I hg hm boot_enumerate (PyProof.Rows.callWith_type1 (thn (ha.run pos pins s σ H _ I h) fun us s1 ⟨vs, H1, I1, r1, q1⟩ => ?_) hs rfl))
  obtain ⟨a, xs, ex, hq, q⟩ := q1
  subst ex
  cases r1 with
  | cons r rr =>
    cases rr
    cases r
    obtain ⟨its, rv, p', hz⟩ := I1.tuple hq
    have hp : s1.heap.IsTuple a its.toArray := p'
    have hal : a < s1.heap.objs.size := by obtain ⟨_, q, _⟩ := hp; exact Heap.lt_size q
    refine call_enumT hp fun h' he hit hsz hk => wpAny_pyIter_enum he ?_
    have I2 : Inv X pins σ H1 { s1 with heap := h' } := I1.kept (t' := s1.toks) hk
    refine ⟨s1.heap.objs.size + 1, [s1.heap.objs.size + 1, s1.heap.objs.size], _, _, H1, rfl, I2, turn_enumT a (s1.heap.objs.size + 1) s1.heap.objs.size (Nat.ne_of_lt hal) (Nat.ne_of_lt (Nat.lt_succ_of_lt hal)), ⟨⟨.none, he⟩, hit, Nat.succ_ne_self _⟩, fun b hb => ?_, q⟩
    have e' : b = s1.heap.objs.size + 1 ∨ b = s1.heap.objs.size := by simpa using hb
    have hle : s1.heap.objs.size ≤ b := by
      rcases e' with z | z
      · rw [z]; exact Nat.le_add_right _ _
      · rw [z]; exact Nat.le_refl _
    exact I1.fpOk hle (I1.hok.fresh hle)
theorem walk_enumT {K : PySem.W.Frag} {a : Addr} {xs : List V} : Walk (ItNT K a) xs.length (fun H => SqT K H a xs) (YPair (fun i => some (.int (i : Nat))) (fun i => xs[i]?)) := by
  refine ⟨fun i _ hi q => ⟨xs, xs[i], q, by simp [hi]⟩, fun _ q => ⟨xs, q, Nat.le_refl _⟩, fun i H v H' _ q y => ?_⟩
  obtain ⟨T, x, h1, h2, h3, h4⟩ := y
  exact ⟨T, .int (i : Nat), x, h1, h2, h3, rfl, h4 xs q⟩
end L2

set_option maxRecDepth 100000
set_option maxHeartbeats 4000000
namespace Kl
open PySem PySem.Spec PyProof.Rows L2 Gx Mx
theorem keysL_siz (leaf : Str) (M : Mak) (qs : List (List Str)) (j : Nat) : (keysL leaf M qs (j + 1)).sum = (keysL leaf M qs j).sum + ((dg qs j).map (siz leaf M j)).sum := by
  rw [keysL_succ, List.sum_append]
  rfl
section
variable {P : Program} {w : World} {K : PySem.W.Frag} {mg : Str → Option Value} {base : Heap}
/-! ### _law_keys_by_trees -/
def spKT (K : PySem.W.Frag) : Sp := fun vs H Q _ => ∃ (pl mk p : Addr) (leaf : Str) (kvs : List (Key × V)) (M M1 : Mak) (LL : List (Addr × List Str)), vs = [.ref pl, .ref p] ∧ H pl = some (.dK (bookK leaf mk)) ∧ H mk = some (.dK kvs) ∧ MakAt H kvs M ∧ Vld leaf M ∧ OrdOf M M1 ∧ RowAt K H p LL ∧ LL.length ≤ 6 ∧
  (Exist leaf M1 (LL.map (·.2)) → ∀ H', Same H H' → Q (.int ((keysL leaf M1 (LL.map (·.2)) LL.length).sum : Nat)) H') ∧ (¬ Exist leaf M1 (LL.map (·.2)) → ∀ H', Same H H' → Q (.int (-1)) H')
theorem ok_kt {f : Addr} {fd : FuncData} (F : Fun K "_law_keys_by_trees" "_law_keys_by_trees" s_law_keys_by_trees f fd) (T : Top K mg) : FnOk P w K mg base CX0 9 f fd ["_law_plain", "_law_row"] (spKT K) := by
  have ct : Cal P w K mg base 8 "_law_tree_size" ["_law_plain", "_law_kind", "_law_rank"] (spTS 6) := T.d_law_tree_size.cal fun f fd F => ok_ts 6 F T
  refine F.ok sc_law_keys_by_trees (fun vs H Q E h => ?_) (fun cdv A outer s H vs Q E hr h => ?_)
  · obtain ⟨pl, mk, p, leaf, kvs, M, M1, LL, rfl, _⟩ := h
    rfl
  · obtain ⟨pl, mk, p, leaf, kvs, M, M1, LL, rfl, hpl, hmk, hM, hV, hO, hR, l6, qy, qn⟩ := h
    refine ⟨_, pss_cut (ps_set (i := 2) sc_law_keys_by_trees.nd rfl (.inl rfl) pe_int)
      (pss_cut (ps_for PassesOwn.never rfl (pi_enumT (by rfl) T.b_enumerate (pa_cons (pv 1) pa_nil)) (pg_tup (n := 2) rfl (pgs_cons (pg_name (i := 3) sc_law_keys_by_trees.nd rfl (.inl rfl)) (pgs_cons (pg_name (i := 4) sc_law_keys_by_trees.nd rfl (.inl rfl)) pgs_nil)))
        (pss_one (ps_for PassesOwn.never rfl (pi_tup (pv 4)) (pg_name (i := 5) sc_law_keys_by_trees.nd rfl (.inl rfl))
          (pss_cut (ps_set (i := 6) sc_law_keys_by_trees.nd rfl (.inl rfl) (pe_cal ct hr (by rfl) (pa_cons (pv 0) (pa_cons (pv 5) (pa_cons (pv 3) pa_nil)))))
          (pss_cut (ps_if (pt_cmpR op_eq (pv 6) pe_int (nomark _)) (pss_one (ps_ret (pe_op op_sub pe_int pe_int))) pss_nil)
          (pss_one (ps_set (i := 2) sc_law_keys_by_trees.nd rfl (.inl rfl) (pe_op op_add (pv 2) (pv 6)))))))))
      (pss_one (ps_ret (pv 2)))), ?_⟩
    have v1 := hO.vld hV
    refine ⟨fun σ' G => σ' = [some (.ref pl), some (.ref p), some (.int 0), none, none, none, none] ∧ G = H, ⟨rfl, rfl⟩, ?_⟩
    rintro σ' G ⟨rfl, rfl⟩
    refine ⟨fun σ' G' => ∃ (y3 y4 y5 y6 : Option V), σ' = [some (.ref pl), some (.ref p), some (.int ((keysL leaf M1 (LL.map (·.2)) LL.length).sum : Nat)), y3, y4, y5, y6] ∧ Same G G' ∧ Exist leaf M1 (LL.map (·.2)), ?_, ?_⟩
    · refine ⟨_, rfl, p, _, rfl, hR.e, ?_⟩
      refine for_it (walk_enumT (K := K) (a := p) (xs := LL.map fun q => V.ref q.1)) (fun j σ' G' => ∃ (y3 y4 y5 y6 : Option V), σ' = [some (.ref pl), some (.ref p), some (.int ((keysL leaf M1 (LL.map (·.2)) j).sum : Nat)), y3, y4, y5, y6] ∧ Same G G' ∧ ∀ i, i < j → ∀ z ∈ dg (LL.map (·.2)) i, z ∈ setR leaf M1 i)
        ⟨none, none, none, none, rfl, Same.refl G, fun i hi => absurd hi (Nat.not_lt_zero i)⟩ (fun j σ' G' _ h => by obtain ⟨_, _, _, _, _, s, _⟩ := h; exact sqT_sm s hR.e) (fun j v σ' G1 G2 hj h hy => ?_) (fun σ' G' h => ?_)
      · obtain ⟨y3, y4, y5, y6, rfl, s1, hall⟩ := h
        obtain ⟨t, u, y, rfl, nt, rfl, hu, hy2⟩ := hy
        cases hu
        have hy2 : (LL.map fun q => V.ref q.1)[j]? = some y := hy2
        rw [List.getElem?_map] at hy2
        obtain ⟨q0, hq0, rfl⟩ := Option.map_eq_some_iff.mp hy2
        have ed : dg (LL.map (·.2)) j = q0.2 := by
          unfold dg
          rw [List.getElem?_map, hq0]
          rfl
        have s2 : Same G (upd G1 t (.tup [V.int (j : Nat), V.ref q0.1])) := same_new s1 nt
        refine ⟨t, _, rfl, .inl (.inl upd_same), rfl, _, _, rfl, _, _, rfl, rfl, ?_⟩
        generalize upd G1 t (.tup [V.int (j : Nat), V.ref q0.1]) = G2 at s2
        have hT0 := hR.t _ (List.mem_of_getElem? hq0)
        have hj6 : j < LL.length := (List.getElem?_eq_some_iff.mp hq0).1
        refine ⟨_, rfl, q0.1, rfl, ⟨_, sqT_sm s2 hT0⟩, ?_⟩
        refine for_it (walk_tup (K := K) (a := q0.1) (xs := q0.2.map V.str)) (fun k σ' G' => ∃ (y5 y6 : Option V), σ' = [some (.ref pl), some (.ref p), some (.int ((keysL leaf M1 (LL.map (·.2)) j).sum + ((q0.2.take k).map (siz leaf M1 j)).sum : Nat)), some (.int (j : Nat)), some (.ref q0.1), y5, y6] ∧ Same G G' ∧ ∀ z ∈ q0.2.take k, z ∈ setR leaf M1 j)
          ⟨y5, y6, rfl, s2, nofun⟩ (fun k σ' G' _ h => by obtain ⟨_, _, _, s, _⟩ := h; exact sqT_sm s hT0) (fun k v σ' Gx G' hk h hy => ?_) (fun σ' G' h => ?_)
        · obtain ⟨y5, y6, rfl, s3, hin⟩ := h
          obtain ⟨rfl, hv⟩ := hy
          obtain ⟨z, hz, rfl⟩ := at_texts hv
          refine ⟨fun σ' G3 => σ' = [some (.ref pl), some (.ref p), some (.int ((keysL leaf M1 (LL.map (·.2)) j).sum + ((q0.2.take k).map (siz leaf M1 j)).sum : Nat)), some (.int (j : Nat)), some (.ref q0.1), some (.str z), some (.int (siz leaf M1 j z : Nat))] ∧ Same G G3, ?_, ?_⟩
          · exact ⟨_, rfl, _, rfl, _, rfl, pl, mk, leaf, z, kvs, M, M1, j, rfl, by omega, by omega, s3 _ _ hpl, s3 _ _ hmk, hM.same (fun _ _ h => h.mono s3), hV, hO, fun G4 s4 => ⟨rfl, fun b o e => s4 _ _ (s3 _ _ e)⟩⟩
          rintro σ' G3 ⟨rfl, s4⟩
          refine ⟨fun σ' G4 => σ' = [some (.ref pl), some (.ref p), some (.int ((keysL leaf M1 (LL.map (·.2)) j).sum + ((q0.2.take k).map (siz leaf M1 j)).sum : Nat)), some (.int (j : Nat)), some (.ref q0.1), some (.str z), some (.int (siz leaf M1 j z : Nat))] ∧ Same G G4 ∧ z ∈ setR leaf M1 j, ?_, ?_⟩
          · refine ⟨_, rfl, rfl, _, rfl, ?_⟩
            by_cases c : z ∈ setR leaf M1 j
            · have hp := siz_pos v1 c
              rw [decide_eq_false (show ¬ V.int ((siz leaf M1 j z : Nat) : Int) = V.int 0 from fun h => by have := V.int.inj h; omega)]
              show (if false = true then _ else _)
              rw [if_neg (by decide)]
              exact ⟨rfl, s4, c⟩
            · rw [siz_no c, decide_eq_true (show V.int ((0 : Nat) : Int) = V.int 0 from rfl)]
              show (if true = true then _ else _)
              rw [if_pos rfl]
              refine ⟨_, _, rfl, rfl, ?_⟩
              refine qn (fun h => c (h j z ?_)) G3 s4
              rw [ed]
              exact List.mem_of_getElem? hz
          rintro σ' G4 ⟨rfl, s5, hzs⟩
          refine ⟨_, rfl, _, rfl, _, _, rfl, rfl, ?_⟩
          refine ⟨some (.str z), some (.int (siz leaf M1 j z : Nat)), ?_, s5, fun y hy' => ?_⟩
          · show [some (V.ref pl), some (V.ref p), some (V.int (((((keysL leaf M1 (LL.map (·.2)) j).sum + ((q0.2.take k).map (siz leaf M1 j)).sum : Nat) : Int)) + ((siz leaf M1 j z : Nat) : Int))), some (V.int (j : Nat)), some (V.ref q0.1), some (V.str z), some (V.int (siz leaf M1 j z : Nat))] = _
            have e2 : ((((keysL leaf M1 (LL.map (·.2)) j).sum + ((q0.2.take k).map (siz leaf M1 j)).sum : Nat) : Int)) + ((siz leaf M1 j z : Nat) : Int) = (((keysL leaf M1 (LL.map (·.2)) j).sum + ((q0.2.take (k + 1)).map (siz leaf M1 j)).sum : Nat) : Int) := by
              rw [take_snoc hz, List.map_append, List.sum_append, List.map_cons, List.map_nil, List.sum_cons, List.sum_nil]
              omega
            rw [e2]
          · rw [take_snoc hz, List.mem_append, List.mem_singleton] at hy'
            rcases hy' with h | rfl
            · exact hin y h
            · exact hzs
        · obtain ⟨y5, y6, rfl, s3, hin⟩ := h
          rw [List.length_map, List.take_length] at hin ⊢
          refine ⟨some (.int (j : Nat)), some (.ref q0.1), y5, y6, ?_, s3, fun i hi z hz => ?_⟩
          · rw [keysL_siz, ed]
          · by_cases c : i < j
            · exact hall i c z hz
            · have ei : i = j := by omega
              subst ei
              rw [ed] at hz
              exact hin z hz
      · obtain ⟨y3, y4, y5, y6, rfl, s1, hall⟩ := h
        rw [List.length_map] at hall ⊢
        refine ⟨_, _, _, _, rfl, s1, fun i z hz => ?_⟩
        by_cases c : i < LL.length
        · exact hall i c z hz
        · rw [dg_none (by rw [List.length_map]; omega)] at hz
          cases hz
    rintro σ' G1 ⟨y3, y4, y5, y6, rfl, s1, hE⟩
    exact ⟨_, rfl, qy hE G1 s1⟩
/-- the same, told once -/
def spKT2 (K : PySem.W.Frag) : Sp := fun vs H Q _ => ∃ (pl mk p : Addr) (leaf : Str) (kvs : List (Key × V)) (M M1 : Mak) (LL : List (Addr × List Str)), vs = [.ref pl, .ref p] ∧ H pl = some (.dK (bookK leaf mk)) ∧ H mk = some (.dK kvs) ∧ MakAt H kvs M ∧ Vld leaf M ∧ OrdOf M M1 ∧ RowAt K H p LL ∧ LL.length ≤ 6 ∧
  ∀ (i : Int) H', (Exist leaf M1 (LL.map (·.2)) → i = ((keysL leaf M1 (LL.map (·.2)) LL.length).sum : Nat)) → (¬ Exist leaf M1 (LL.map (·.2)) → i = -1) → Same H H' → Q (.int i) H'
theorem ok_kt2 {f : Addr} {fd : FuncData} (F : Fun K "_law_keys_by_trees" "_law_keys_by_trees" s_law_keys_by_trees f fd) (T : Top K mg) : FnOk P w K mg base CX0 9 f fd ["_law_plain", "_law_row"] (spKT2 K) := by
  refine (ok_kt F T).imp fun vs H Q E h => ?_
  obtain ⟨pl, mk, p, leaf, kvs, M, M1, LL, e, h1, h2, h3, h4, h5, h6, h7, q⟩ := h
  exact ⟨pl, mk, p, leaf, kvs, M, M1, LL, e, h1, h2, h3, h4, h5, h6, h7, fun hE H' s => q _ H' (fun _ => rfl) (fun n => absurd hE n) s, fun hE H' s => q _ H' (fun y => absurd y hE) (fun _ => rfl) s⟩
end
end Kl

set_option maxRecDepth 100000
/-! ### own rule: t * n, t a tuple that is not empty, n from 0 on, whichever object comes -/
namespace L2
open PySem PySem.Spec PyProof.Rows
set_option maxHeartbeats 4000000
theorem tuple_mul1 (l : Addr) (items : Array Value) (n : Nat) (dd : Option Addr) (sl : Array (Option Value)) (u : Tok) :
    Meets (Builtin.«tuple.__mul__» ⟨[.ref l, .int 1 u], []⟩) (fun _ R s => s.heap.get? l = some { cls := .type "tuple", dict := dd, data := .seq items n, slots := sl } ∧ R (.ok (.ret (.ref l))) s) :=
  .of_wp fun prog w A R s h => by
    obtain ⟨hp, g, d, tk, os⟩ := s
    obtain ⟨hl, h⟩ := h
    have f1 := AutoSeq1.idx_int
    wp_walk using wpAny_loadPart' hl
    repeat (first
      | (refine wpAny_ite_false (decide_eq_false (by decide)) ?_; wp_walk using wpAny_loadPart' hl)
      | (refine wpAny_ite_true (decide_eq_true (by simp)) ?_; wp_walk using wpAny_loadPart' hl))
    exact ⟨_, rfl, h⟩
theorem tuple_mul0 (l : Addr) (items : Array Value) (n : Nat) (dd : Option Addr) (sl : Array (Option Value)) (u : Tok) (c1 : items.isEmpty = false) :
    Meets (Builtin.«tuple.__mul__» ⟨[.ref l, .int 0 u], []⟩) (fun _ R s => s.heap.get? l = some { cls := .type "tuple", dict := dd, data := .seq items n, slots := sl } ∧
      R (.ok (.ret (.ref s.heap.objs.size))) { s with heap := s.heap.push { cls := .type "tuple", data := .seq #[] } }) :=
  .of_wp fun prog w A R s h => by
    obtain ⟨hp, g, d, tk, os⟩ := s
    obtain ⟨hl, h⟩ := h
    have f1 := AutoSeq1.idx_int
    wp_walk using wpAny_loadPart' hl
    repeat (first
      | (refine wpAny_ite_false (decide_eq_false (by decide)) ?_; wp_walk using wpAny_loadPart' hl)
      | (refine wpAny_ite_false (decide_eq_false (by rw [c1]; decide)) ?_; wp_walk using wpAny_loadPart' hl)
      | (refine wpAny_ite_true (decide_eq_true (by decide)) ?_; wp_walk using wpAny_loadPart' hl)
      | (refine wpAny_ite_true (decide_eq_true (by simp)) ?_; wp_walk using wpAny_loadPart' hl))
    exact ⟨_, rfl, h⟩
/-- t * k, 0 ≤ k: some object that holds t so many times -/
def rRepS (K : PySem.W.Frag) : R2 := fun x y H Q => ∃ (l : Addr) (k : Nat) (xs : List V), x = .ref l ∧ y = .int (k : Nat) ∧ SqT K H l xs ∧ xs ≠ [] ∧ k ≤ 1000 ∧ xs.length ≤ 1000 ∧ ∀ p G, Same H G → SqT K G p (List.replicate k xs).flatten → Q (.ref p) G
section
variable {X : Cx}
theorem op_repS : OpR X (binaryOp .Mult) (rRepS X.K) := by
  intro pins s σ H x y v u Q I rx ry h
  obtain ⟨l, k, xs, rfl, rfl, hT, hne, h1, hz, q⟩ := h
  by_cases c : 2 ≤ k
  · refine op_repT pins s σ H _ _ v u Q I rx ry ⟨l, _, xs, rfl, rfl, hT, hne, by omega, by omega, hz, fun p np => q p _ (fun b u e => by rw [upd_ne (fun z => by rw [z, np] at e; cases e)]; exact e) ?_⟩
    rw [Int.toNat_natCast]
    exact .inl (.inl upd_same)
  cases rx
  obtain ⟨t, rfl⟩ := ry
  obtain ⟨its, r, ⟨⟨cls, dd, data, sl⟩, ho, hc, n, hd⟩, hs⟩ := I.tuple hT
  simp only at hc hd
  subst hc hd
  have hn : its.toArray.isEmpty = false := by
    cases its with
    | nil => exact absurd (List.eq_nil_of_length_eq_zero (by rw [r.length]; rfl)) hne
    | cons a b => rfl
  by_cases c1 : k = 1
  · subst c1
    refine wpAny_binaryOp_repeat_ref (T := "tuple") (U := "int") (by decide) ⟨_, ho, rfl⟩ (fun s' => typeIs_int s' 1 t) noFill_tuple_mul F.fills_int_mul F.slot_int_rmul repeat_tuple F.slot_int_index.lookup
      (call_meets F.slot_int_rmul (typeIs_int s 1 t) F.entry_int_rmul (F.args_int_rmul_2 _ _) (int_rmul_tuple 1 t l its.toArray n dd sl)
        ⟨ho, rfl, ⟨_, ho, rfl⟩, call_meets F.slot_tuple_mul ⟨_, ho, rfl⟩ F.entry_tuple_mul (F.args_tuple_mul_2 _ _) (tuple_mul1 l its.toArray n dd sl t) ⟨ho, ?_⟩⟩)
    refine ⟨.ref l, H, I, rfl, q l H (Same.refl H) ?_⟩
    rw [List.replicate_one, List.flatten_singleton]
    exact hT
  · have c0 : k = 0 := by omega
    subst c0
    refine wpAny_binaryOp_repeat_ref (T := "tuple") (U := "int") (by decide) ⟨_, ho, rfl⟩ (fun s' => typeIs_int s' 0 t) noFill_tuple_mul F.fills_int_mul F.slot_int_rmul repeat_tuple F.slot_int_index.lookup
      (call_meets F.slot_int_rmul (typeIs_int s 0 t) F.entry_int_rmul (F.args_int_rmul_2 _ _) (int_rmul_tuple 0 t l its.toArray n dd sl)
        ⟨ho, rfl, ⟨_, ho, rfl⟩, call_meets F.slot_tuple_mul ⟨_, ho, rfl⟩ F.entry_tuple_mul (F.args_tuple_mul_2 _ _) (tuple_mul0 l its.toArray n dd sl t hn) ⟨ho, ?_⟩⟩)
    have hf := I.hok.fresh (Nat.le_refl s.heap.objs.size)
    refine ⟨.ref s.heap.objs.size, _, I.laid (t' := s.toks) (o := .tup []) (fun b ob e => Heap.get?_push_of_some _ e) (Nat.le_refl _) ?_, rfl, q _ _ (fun b u e => by rw [upd_ne (fun z => by rw [z, hf] at e; cases e)]; exact e) (.inl (.inl upd_same))⟩
    exact ⟨Nat.zero_le _, [], .nil, IsTup.new _ _⟩
end
end L2

set_option maxRecDepth 100000
set_option maxHeartbeats 4000000
namespace Kl
open PySem PySem.Spec PyProof.Rows L2 Gx Mx
/-! ### values near a row that are none -/
def NoRow (K : PySem.W.Frag) (H : Hp) (v : V) : Prop := BadV K H v ∨ ∃ (p : Addr) (LL : List (Addr × List Str)), v = .ref p ∧ RowAt K H p LL ∧ Few (LL.map (·.2)) ∧ looseB (LL.map (·.2)) = false
theorem NoRow.same {K : PySem.W.Frag} {H H' : Hp} {v : V} (h : NoRow K H v) (s : Same H H') : NoRow K H' v := by
  rcases h with h | ⟨p, LL, e, hR, hF, hL⟩
  · exact .inl (h.same s)
  · exact .inr ⟨p, LL, e, hR.same s, hF, hL⟩
theorem cut_from0 {xs : List V} (n : Nat) : cutV xs (some ((n : Nat) : Int)) none = xs.drop n := by
  unfold cutV
  rw [HT.sIx_nat, HT.sIx_none]
  by_cases h : n ≤ xs.length
  · rw [Nat.min_eq_left h, List.take_of_length_le (by rw [List.length_drop]; omega)]
  · rw [Nat.min_eq_right (by omega), List.drop_length, List.drop_eq_nil_of_le (by omega), List.take_nil]
theorem if_mid {c : TT} {a b : TE} {σ : L2.St} {H : Hp} {Q : VK} (B : V → Hp → Prop) (h : ∀ Q' : VK, (∀ v H1, B v H1 → Q' v H1) → tIf c a b σ H Q') (k : ∀ v H1, B v H1 → Q v H1) : tIf c a b σ H Q := h Q k
/-- good digits of a row -/
def GoodT (K : PySem.W.Frag) (G : Hp) (A : List (Addr × List Str)) : Prop := TxtsAt K G A ∧ ∀ q ∈ A, goodB q.2 = true
theorem GoodT.same {K : PySem.W.Frag} {G G' : Hp} {A : List (Addr × List Str)} (h : GoodT K G A) (s : Same G G') : GoodT K G' A := ⟨fun q hq => sqT_sm s (h.1 q hq), h.2⟩
theorem GoodT.at_ {K : PySem.W.Frag} {G : Hp} {A : List (Addr × List Str)} (h : GoodT K G A) {i : Nat} {x : V} (e : (A.map fun q => V.ref q.1)[i]? = some x) : SortArg K G x 20 true := by
  rw [List.getElem?_map] at e
  obtain ⟨q, hq, rfl⟩ := Option.map_eq_some_iff.mp e
  have hm := List.mem_of_getElem? hq
  have g := h.2 q hm
  have g0 := g
  unfold goodB at g0
  rw [Bool.and_eq_true, Bool.and_eq_true] at g0
  have l := of_decide_eq_true g0.1
  have s := sortArg_texts (n := 20) (h.1 q hm) (by omega) (fun z hz => Nat.le_trans (name_len (List.all_eq_true.mp g0.2.1 z hz)) (by decide))
  have e2 : (decide (q.2.length ≤ 20) && (q.2.all nameB && sortedS q.2)) = true := g
  rw [e2] at s
  exact s
theorem bad_mid {K : PySem.W.Frag} {G : Hp} {p : Addr} {A B : List (Addr × List Str)} {x : V} (hA : GoodT K G A) (hB : GoodT K G B) (hx : SortArg K G x 20 false) (h : SqT K G p ((A.map fun q => V.ref q.1) ++ [x] ++ B.map fun q => V.ref q.1)) (hl : A.length + 1 + B.length ≤ 1000) : BadV K G (.ref p) := by
  refine .inr ⟨p, _, A.map (fun _ => true) ++ [false] ++ B.map (fun _ => true), rfl, ⟨h, by simp; omega, by simp, fun i y c e1 e2 => ?_⟩, by simp⟩
  by_cases c1 : i < A.length
  · rw [List.append_assoc, List.getElem?_append_left (by rw [List.length_map]; exact c1)] at e1 e2
    rw [List.getElem?_map] at e2
    obtain ⟨_, _, rfl⟩ := Option.map_eq_some_iff.mp e2
    exact hA.at_ e1
  · rw [List.append_assoc, List.getElem?_append_right (by rw [List.length_map]; omega), List.length_map] at e1 e2
    cases hi : i - A.length with
    | zero =>
      rw [hi] at e1 e2
      cases e1
      cases e2
      exact hx
    | succ k =>
      rw [hi] at e1 e2
      have e1 : (B.map fun q => V.ref q.1)[k]? = some y := e1
      have e2 : (B.map fun _ => true)[k]? = some c := e2
      rw [List.getElem?_map] at e2
      obtain ⟨_, _, rfl⟩ := Option.map_eq_some_iff.mp e2
      exact hB.at_ e1
section
variable {P : Program} {w : World} {K : PySem.W.Frag} {mg : Str → Option Value} {base : Heap}
theorem not_non {H : Hp} : Not K H .non "tuple" := ⟨_, .base .non, kit_ty (by decide +kernel)⟩
theorem not_str {H : Hp} (z : Str) : Not K H (.str z) "tuple" := ⟨_, .base (.str z), kit_ty (by decide +kernel)⟩
theorem not_lst {H : Hp} {a : Addr} {xs : List V} (e : H a = some (.lst xs)) : Not K H (.ref a) "tuple" := ⟨_, .base (.lst e), kit_ty (by decide +kernel)⟩
theorem na_bl {H : Hp} (b : Bool) : NameArg K H (.bl b) := .inr ⟨nofun, _, .base (.bl b), kit_ty (by decide +kernel)⟩
theorem na_int {H : Hp} (i : Int) : NameArg K H (.int i) := .inr ⟨nofun, _, .base (.int i), kit_ty (by decide +kernel)⟩
theorem na_str {H : Hp} {z : Str} (h : z.length ≤ 1000) : NameArg K H (.str z) := .inl ⟨z, rfl, Nat.le_trans h (by decide)⟩
theorem bad_not {H : Hp} {v : V} (h : Not K H v "tuple") : SortArg K H v 20 false := .inl ⟨h, rfl⟩
theorem bad_tup {H : Hp} {p : Addr} {xs : List V} (h : SqT K H p xs) (hl : xs.length ≤ 1000) (hx : ∀ x ∈ xs, NameArg K H x) (hb : (decide ((xs.length : Int) ≤ 20) && sortB xs) = false) : SortArg K H (.ref p) 20 false := .inr ⟨p, xs, rfl, h, hl, hx, hb.symm⟩
/-- a row, what stands before and behind a place of it -/
structure BRs (K : PySem.W.Frag) (H : Hp) (d p h t : Addr) (LL A B : List (Addr × List Str)) (G : Hp) : Prop where
  r : RowAt K G p LL
  rh : RowAt K G h A
  rt : RowAt K G t B
  sx : SameX d H G
  hd : DiceAt G d
theorem BRs.sm {H : Hp} {d p h t : Addr} {LL A B : List (Addr × List Str)} {G G' : Hp} (b : BRs K H d p h t LL A B G) (s : Same G G') : BRs K H d p h t LL A B G' := ⟨b.r.same s, b.rh.same s, b.rt.same s, b.sx.trans (SameX.of s), dice_sm s b.hd⟩
/-! ### _law_bent_rows -/
def spBR (K : PySem.W.Frag) : Sp := fun vs H Q _ => ∃ (d p : Addr) (LL : List (Addr × List Str)), vs = [.ref d, .ref p] ∧ DiceAt H d ∧ RowAt K H p LL ∧ looseB (LL.map (·.2)) = true ∧ LL.length ≤ 6 ∧
  ∀ (bl : Addr) (us : List V) H', SameX d H H' → DiceAt H' d → H' bl = some (.lst us) → us.length ≤ 11 → (∀ v ∈ us, NoRow K H' v) → Q (.ref bl) H'
theorem ok_br {f : Addr} {fd : FuncData} (F : Fun K "_law_bent_rows" "_law_bent_rows" s_law_bent_rows f fd) (T : Top K mg) : FnOk P w K mg base CX0 2 f fd ["_law_dice_here", "_law_row"] (spBR K) := by
  have cr : Cal P w K mg base 1 "_law_roll" ["_law_dice_here", "_law_total"] spRoll := T.d_law_roll.cal fun f fd F => ok_roll F T
  refine F.ok sc_law_bent_rows (fun vs H Q E h => ?_) (fun cdv A outer s H vs Q E hr h => ?_)
  · obtain ⟨d, p, LL, rfl, _⟩ := h
    rfl
  · obtain ⟨d, p, LL, rfl, hd, hR, hL, l6, q⟩ := h
    refine ⟨_, pss_cut (ps_set (i := 2) sc_law_bent_rows.nd rfl (.inl rfl) (pe_cal cr hr (by rfl) (pa_cons (pv 0) (pa_cons (pe_op op_add (pe_callB call_len_seq (by rfl) T.b_len PySem.boot_len (pa_cons (pv 1) pa_nil)) pe_int) pa_nil))))
      (pss_cut (ps_par (i := 3) (j := 4) rfl sc_law_bent_rows.nd rfl rfl (by decide) rfl rfl (pa_cons (pe_slice sl_tupS (pv 1) po_none (po_some (pv 2))) (pa_cons (pe_slice sl_tupS (pv 1) (po_some (pv 2)) po_none) pa_nil)) (by kernel_rfl))
      (pss_cut (ps_set (i := 5) sc_law_bent_rows.nd rfl (.inl rfl) (pe_lst (pa_cons (pe_ifExp (pt_cmpR (op_neD hr.units) (pv 1) (pe_tup pa_nil) (by rfl)) (pe_callTy call_list_of (by rfl) T.b_list (by decide +kernel) (pa_cons (pv 1) pa_nil)) pe_non)
          (pa_cons (pe_op op_catS (pv 1) (pe_tup (pa_cons (pe_tup pa_nil) pa_nil)))
          (pa_cons (pe_op op_catS (pe_op op_catS (pv 3) (pe_tup (pa_cons pe_non pa_nil))) (pv 4))
          (pa_cons (pe_op op_catS (pe_op op_catS (pe_op op_catS (pv 3) (pe_tup (pa_cons pe_str pa_nil))) (pv 4)) (pe_tup (pa_cons (pe_tup pa_nil) pa_nil))) pa_nil))))))
      (pss_cut (ps_set (i := 5) sc_law_bent_rows.nd rfl (.inl rfl) (pe_op op_cat (pv 5) (pe_lst (pa_cons (pe_op op_catS (pe_op op_catS (pv 3) (pe_tup (pa_cons (pe_lst (pa_cons pe_str pa_nil)) pa_nil))) (pv 4))
          (pa_cons (pe_op op_catS (pe_op op_catS (pv 3) (pe_tup (pa_cons (pe_tup (pa_cons pe_str (pa_cons pe_str pa_nil))) pa_nil))) (pv 4))
          (pa_cons (pe_op op_catS (pe_op op_catS (pv 3) (pe_tup (pa_cons (pe_tup (pa_cons pe_bl pa_nil)) pa_nil))) (pv 4)) pa_nil))))))
      (pss_cut (ps_set (i := 5) sc_law_bent_rows.nd rfl (.inl rfl) (pe_op op_cat (pv 5) (pe_lst (pa_cons (pe_op op_catS (pe_op op_catS (pv 3) (pe_tup (pa_cons (pe_tup (pa_cons pe_str pa_nil)) pa_nil))) (pv 4))
          (pa_cons (pe_op op_catS (pe_op op_catS (pv 3) (pe_tup (pa_cons (pe_tup (pa_cons pe_str pa_nil)) pa_nil))) (pv 4)) pa_nil)))))
      (pss_one (ps_ret (pe_op op_cat (pv 5) (pe_lst (pa_cons (pe_op op_catS (pe_op op_catS (pv 3) (pe_tup (pa_cons (pe_op op_repS (pe_tup (pa_cons pe_str pa_nil)) pe_int) pa_nil))) (pv 4))
          (pa_cons (pe_op op_catS (pe_op op_catS (pv 3) (pe_tup (pa_cons (pe_tup (pa_cons pe_int pa_nil)) pa_nil))) (pv 4)) pa_nil)))))))))), ?_⟩
    have big : 100000 ≤ sizeLine := by decide
    have hg : ∀ q ∈ LL, goodB q.2 = true := fun q hq => (loose_facts hL).2.1 q.2 (List.mem_map.mpr ⟨q, hq, rfl⟩)
    refine ⟨fun σ' G => ∃ a : Nat, σ' = [some (.ref d), some (.ref p), some (.int (a : Nat)), none, none, none] ∧ RowAt K G p LL ∧ SameX d H G ∧ DiceAt G d, ?_, ?_⟩
    · refine ⟨_, rfl, _, rfl, p, _, rfl, .inr hR.e, _, _, rfl, rfl, d, _, rfl, hd, ?_, ?_, fun r x b c h0 h1 => ?_⟩
      · rw [List.length_map]
        omega
      · rw [List.length_map, show ((LL.length : Nat) : Int) + 1 = ((LL.length + 1 : Nat) : Int) by omega]
        exact log2_small (by omega)
      obtain ⟨k, rfl⟩ := Int.eq_ofNat_of_zero_le h0
      exact ⟨k, rfl, hR.sx hd ((SameX.refl d H).atd), (SameX.refl d H).atd, dice_new x b c⟩
    rintro σ' G ⟨a, rfl, hR0, sx0, hd0⟩
    -- what stands before and behind
    refine ⟨fun σ' G => ∃ (h t : Addr) (A B : List (Addr × List Str)), σ' = [some (.ref d), some (.ref p), some (.int (a : Nat)), some (.ref h), some (.ref t), none] ∧ BRs K H d p h t LL A B G ∧ ((∀ q ∈ A, goodB q.2 = true) ∧ ∀ q ∈ B, goodB q.2 = true) ∧ A.length ≤ 6 ∧ B.length ≤ 6, ?_, ?_⟩
    · refine ⟨_, rfl, _, rfl, _, rfl, p, _, rfl, hR0.e, fun h G1 s1 hh => ?_⟩
      rw [cut_to0, ← List.map_take] at hh
      have hR1 := hR0.same s1
      refine ⟨_, rfl, _, rfl, _, rfl, p, _, rfl, hR1.e, fun t G2 s2 ht => ?_⟩
      rw [cut_from0, ← List.map_drop] at ht
      have hR2 := hR1.same s2
      refine ⟨_, _, rfl, h, t, LL.take a, LL.drop a, rfl, ⟨hR2, ⟨sqT_sm s2 hh, fun q hq => hR2.t q (List.mem_of_mem_take hq)⟩, ⟨ht, fun q hq => hR2.t q (List.mem_of_mem_drop hq)⟩, sx0.trans (SameX.of fun b o e => s2 _ _ (s1 _ _ e)), dice_sm (fun b o e => s2 _ _ (s1 _ _ e)) hd0⟩, ⟨fun q hq => hg q (List.mem_of_mem_take hq), fun q hq => hg q (List.mem_of_mem_drop hq)⟩, ?_, ?_⟩
      · rw [List.length_take]
        omega
      · rw [List.length_drop]
        omega
    rintro σ' G1 ⟨h, t, A, B, rfl, b1, ⟨gA, gB⟩, lA, lB⟩
    clear hR0 sx0 hd0
    have c1 : ∀ x : V, (A.map fun q => V.ref q.1).length + [x].length ≤ sizeLine := fun x => by
      rw [List.length_map]
      show _ + 1 ≤ sizeLine
      omega
    have c2 : ∀ x : V, ((A.map fun q => V.ref q.1) ++ [x]).length + (B.map fun q => V.ref q.1).length ≤ sizeLine := fun x => by
      rw [List.length_append, List.length_map, List.length_map]
      show _ + 1 + _ ≤ sizeLine
      omega
    have mid : ∀ {G : Hp} {x : V} {p2 : Addr}, BRs K H d p h t LL A B G → SqT K G p2 ((A.map fun q => V.ref q.1) ++ [x] ++ B.map fun q => V.ref q.1) → SortArg K G x 20 false → NoRow K G (.ref p2) := fun b hp hx => .inl (bad_mid ⟨b.rh.t, gA⟩ ⟨b.rt.t, gB⟩ hx hp (by omega))
    -- four of them
    refine ⟨fun σ' G => ∃ (fl : Addr) (us : List V), σ' = [some (.ref d), some (.ref p), some (.int (a : Nat)), some (.ref h), some (.ref t), some (.ref fl)] ∧ BRs K H d p h t LL A B G ∧ G fl = some (.lst us) ∧ us.length = 4 ∧ ∀ v ∈ us, NoRow K G v, ?_, ?_⟩
    · refine if_mid (fun v G2 => Same G1 G2 ∧ NoRow K G2 v) (fun Q' hQ' => ?_) (fun v1 G2 hB => ?_)
      · refine ⟨_, rfl, Nat.zero_le _, fun e0 ne0 => ?_⟩
        have s2 := same_new (o := .tup []) (Same.refl G1) ne0
        have ee : (upd G1 e0 (.tup [])) e0 = some (.tup []) := upd_same
        generalize upd G1 e0 (.tup []) = G2 at s2 ee
        have hR2 := b1.r.same s2
        refine ⟨_, _, hR2.dp, (RowAt.dp (LL := []) ⟨.inl (.inl ee), nofun⟩), loose_shaped hL, loose_shaped loose_nil, ?_⟩
        rw [show (List.map (fun x => x.2) ([] : List (Addr × List Str))) = [] from rfl, eqv_row]
        refine ⟨_, rfl, ?_⟩
        by_cases c : LL.map (·.2) = []
        · rw [decide_eq_true c]
          show (if (!true) = true then _ else _)
          rw [if_neg (by decide)]
          exact hQ' _ _ ⟨s2, .inl (.inl not_non)⟩
        · rw [decide_eq_false c]
          show (if (!false) = true then _ else _)
          rw [if_pos (by decide)]
          refine ⟨_, rfl, p, _, rfl, .inr hR2.e, fun l nl => hQ' _ _ ⟨fun b o e => ?_, .inl (.inl (not_lst upd_same))⟩⟩
          exact same_new s2 nl b o e
      obtain ⟨s2, n1⟩ := hB
      have b2 := b1.sm s2
      -- an empty digit behind
      refine ⟨_, rfl, Nat.zero_le _, fun e1 ne1 => ⟨by show 1 ≤ sizeLine; omega, fun t1 nt1 => ?_⟩⟩
      have s3 := same_new (o := .tup []) (Same.refl G2) ne1
      have ee1 : (upd G2 e1 (.tup [])) e1 = some (.tup []) := upd_same
      generalize upd G2 e1 (.tup []) = G3 at s3 ee1 nt1
      have s4 := same_new (o := .tup [V.ref e1]) (Same.refl G3) nt1
      have et1 : (upd G3 t1 (.tup [V.ref e1])) t1 = some (.tup [V.ref e1]) := upd_same
      generalize upd G3 t1 (.tup [V.ref e1]) = G4 at s4 et1
      have b4 := (b2.sm s3).sm s4
      refine ⟨p, t1, _, _, rfl, rfl, b4.r.e, .inl (.inl et1), by rw [List.length_map]; show _ + 1 ≤ sizeLine; omega, fun p2 G5 s5 hp2 => ?_⟩
      have b5 := b4.sm s5
      have n2 : NoRow K G5 (.ref p2) := by
        have hRe : RowAt K G5 p2 (LL ++ [(e1, [])]) := ⟨by rw [List.map_append]; exact hp2, fun q hq => by
          rcases List.mem_append.mp hq with hq | hq
          · exact b5.r.t q hq
          · rw [List.mem_singleton.mp hq]
            exact .inl (.inl (s5 _ _ (s4 _ _ ee1)))⟩
        refine .inr ⟨p2, _, rfl, hRe, ?_, ?_⟩
        · obtain ⟨f1, f2⟩ := (loose_few hL).1
          refine ⟨by rw [List.length_map, List.length_append]; show _ + 1 ≤ 1000; omega, fun q hq => ?_⟩
          rw [List.map_append] at hq
          rcases List.mem_append.mp hq with hq | hq
          · exact f2 q hq
          · rw [List.mem_singleton.mp hq]
            exact ⟨Nat.zero_le _, nofun⟩
        · unfold looseB
          rw [List.map_append, List.length_append]
          show ((_ && _) && !decide ((LL.map (fun q : Addr × List Str => q.2) ++ [[]]).drop ((LL.map (fun q : Addr × List Str => q.2)).length + 1 - 1) = [[]])) = false
          rw [Nat.add_sub_cancel, List.drop_left, decide_eq_true rfl]
          exact Bool.and_false _
      -- None
      refine ⟨_, rfl, by show 1 ≤ sizeLine; omega, fun t2 nt2 => ?_⟩
      have s6 := same_new (o := .tup [V.non]) (Same.refl G5) nt2
      have et2 : (upd G5 t2 (.tup [V.non])) t2 = some (.tup [V.non]) := upd_same
      generalize upd G5 t2 (.tup [V.non]) = G6 at s6 et2
      have b6 := b5.sm s6
      refine ⟨h, t2, _, _, rfl, rfl, b6.rh.e, .inl (.inl et2), c1 _, fun p3 G7 s7 hp3 => ?_⟩
      have b7 := b6.sm s7
      refine ⟨_, rfl, p3, t, _, _, rfl, rfl, hp3, b7.rt.e, c2 _, fun p4 G8 s8 hp4 => ?_⟩
      have b8 := b7.sm s8
      have n3 := mid b8 hp4 (bad_not not_non)
      -- a text, an empty digit behind
      refine ⟨_, rfl, by show 1 ≤ sizeLine; omega, fun t3 nt3 => ?_⟩
      have s9 := same_new (o := .tup [V.str "a"]) (Same.refl G8) nt3
      have et3 : (upd G8 t3 (.tup [V.str "a"])) t3 = some (.tup [V.str "a"]) := upd_same
      generalize upd G8 t3 (.tup [V.str "a"]) = G9 at s9 et3
      have b9 := b8.sm s9
      refine ⟨h, t3, _, _, rfl, rfl, b9.rh.e, .inl (.inl et3), c1 _, fun p5 G10 s10 hp5 => ?_⟩
      have b10 := b9.sm s10
      refine ⟨_, rfl, p5, t, _, _, rfl, rfl, hp5, b10.rt.e, c2 _, fun p6 G11 s11 hp6 => ?_⟩
      have b11 := b10.sm s11
      refine ⟨Nat.zero_le _, fun e2 ne2 => ⟨by show 1 ≤ sizeLine; omega, fun t4 nt4 => ?_⟩⟩
      have s12 := same_new (o := .tup []) (Same.refl G11) ne2
      have ee2 : (upd G11 e2 (.tup [])) e2 = some (.tup []) := upd_same
      generalize upd G11 e2 (.tup []) = G12 at s12 ee2 nt4
      have s13 := same_new (o := .tup [V.ref e2]) (Same.refl G12) nt4
      have et4 : (upd G12 t4 (.tup [V.ref e2])) t4 = some (.tup [V.ref e2]) := upd_same
      generalize upd G12 t4 (.tup [V.ref e2]) = G13 at s13 et4
      have s113 : Same G11 G13 := fun b o e => s13 _ _ (s12 _ _ e)
      refine ⟨p6, t4, _, _, rfl, rfl, sqT_sm s113 hp6, .inl (.inl et4), ?_, fun p7 G14 s14 hp7 => ?_⟩
      · have := c2 (V.str "a")
        rw [List.length_append, List.length_append, List.length_map, List.length_map]
        show _ + 1 + _ + 1 ≤ sizeLine
        omega
      have b14 := (b11.sm s113).sm s14
      have n4 : NoRow K G14 (.ref p7) := by
        refine .inl (bad_mid (A := A) (B := B ++ [(e2, [])]) (x := .str "a") ⟨b14.rh.t, gA⟩ ⟨fun q hq => ?_, fun q hq => ?_⟩ (bad_not (not_str _)) ?_ ?_)
        · rcases List.mem_append.mp hq with hq | hq
          · exact b14.rt.t q hq
          · rw [List.mem_singleton.mp hq]
            exact .inl (.inl (s14 _ _ (s13 _ _ ee2)))
        · rcases List.mem_append.mp hq with hq | hq
          · exact gB q hq
          · rw [List.mem_singleton.mp hq]
            exact (by decide +kernel : goodB [] = true)
        · rw [List.map_append, ← List.append_assoc]
          exact hp7
        · rw [List.length_append]
          show _ + 1 + (_ + 1) ≤ 1000
          omega
      refine ⟨by show 4 ≤ sizeLine; omega, fun fl nfl => ?_⟩
      have s15 := same_new (o := .lst [v1, .ref p2, .ref p4, .ref p7]) (Same.refl G14) nfl
      have s1415 : Same G14 _ := s15
      have s815 : Same G8 _ := fun b o e => s15 _ _ (s14 _ _ (s113 _ _ (s11 _ _ (s10 _ _ (s9 _ _ e)))))
      have s515 : Same G5 _ := fun b o e => s815 _ _ (s8 _ _ (s7 _ _ (s6 _ _ e)))
      have s215 : Same G2 _ := fun b o e => s515 _ _ (s5 _ _ (s4 _ _ (s3 _ _ e)))
      refine ⟨fl, _, rfl, b14.sm s15, upd_same, rfl, fun v hv => ?_⟩
      simp only [List.mem_cons, List.not_mem_nil, or_false] at hv
      rcases hv with rfl | rfl | rfl | rfl
      · exact n1.same s215
      · exact n2.same s515
      · exact n3.same s815
      · exact n4.same s15
    rintro σ' G2 ⟨f1, us1, rfl, b2, ef1, lu1, nu1⟩
    clear b1
    -- three more
    refine ⟨fun σ' G => ∃ (fl : Addr) (us : List V), σ' = [some (.ref d), some (.ref p), some (.int (a : Nat)), some (.ref h), some (.ref t), some (.ref fl)] ∧ BRs K H d p h t LL A B G ∧ G fl = some (.lst us) ∧ us.length = 7 ∧ ∀ v ∈ us, NoRow K G v, ?_, ?_⟩
    · refine ⟨_, rfl, _, rfl, by show 1 ≤ sizeLine; omega, fun k1 nk1 => ⟨by show 1 ≤ sizeLine; omega, fun t1 nt1 => ?_⟩⟩
      have s3 := same_new (o := .lst [V.str "a"]) (Same.refl G2) nk1
      have ek1 : (upd G2 k1 (.lst [V.str "a"])) k1 = some (.lst [V.str "a"]) := upd_same
      generalize upd G2 k1 (.lst [V.str "a"]) = G3 at s3 ek1 nt1
      have s4 := same_new (o := .tup [V.ref k1]) (Same.refl G3) nt1
      have et1 : (upd G3 t1 (.tup [V.ref k1])) t1 = some (.tup [V.ref k1]) := upd_same
      generalize upd G3 t1 (.tup [V.ref k1]) = G4 at s4 et1
      have b4 := (b2.sm s3).sm s4
      refine ⟨h, t1, _, _, rfl, rfl, b4.rh.e, .inl (.inl et1), c1 _, fun p1 G5 s5 hp1 => ?_⟩
      have b5 := b4.sm s5
      refine ⟨_, rfl, p1, t, _, _, rfl, rfl, hp1, b5.rt.e, c2 _, fun p2 G6 s6 hp2 => ?_⟩
      have b6 := b5.sm s6
      have n1 := mid b6 hp2 (bad_not (not_lst (s6 _ _ (s5 _ _ (s4 _ _ ek1)))))
      refine ⟨_, rfl, by show 2 ≤ sizeLine; omega, fun k2 nk2 => ⟨by show 1 ≤ sizeLine; omega, fun t2 nt2 => ?_⟩⟩
      have s7 := same_new (o := .tup [V.str "b", V.str "a"]) (Same.refl G6) nk2
      have ek2 : (upd G6 k2 (.tup [V.str "b", V.str "a"])) k2 = some (.tup [V.str "b", V.str "a"]) := upd_same
      generalize upd G6 k2 (.tup [V.str "b", V.str "a"]) = G7 at s7 ek2 nt2
      have s8 := same_new (o := .tup [V.ref k2]) (Same.refl G7) nt2
      have et2 : (upd G7 t2 (.tup [V.ref k2])) t2 = some (.tup [V.ref k2]) := upd_same
      generalize upd G7 t2 (.tup [V.ref k2]) = G8 at s8 et2
      have b8 := (b6.sm s7).sm s8
      refine ⟨h, t2, _, _, rfl, rfl, b8.rh.e, .inl (.inl et2), c1 _, fun p3 G9 s9 hp3 => ?_⟩
      have b9 := b8.sm s9
      refine ⟨_, rfl, p3, t, _, _, rfl, rfl, hp3, b9.rt.e, c2 _, fun p4 G10 s10 hp4 => ?_⟩
      have b10 := b9.sm s10
      have n2 := mid b10 hp4 (bad_tup (.inl (.inl (s10 _ _ (s9 _ _ (s8 _ _ ek2))))) (by show 2 ≤ 1000; omega) (fun x hx => by
        simp only [List.mem_cons, List.not_mem_nil, or_false] at hx
        rcases hx with rfl | rfl
        · exact na_str (by decide +kernel)
        · exact na_str (by decide +kernel)) (by decide +kernel))
      refine ⟨_, rfl, by show 1 ≤ sizeLine; omega, fun k3 nk3 => ⟨by show 1 ≤ sizeLine; omega, fun t3 nt3 => ?_⟩⟩
      have s11 := same_new (o := .tup [V.bl true]) (Same.refl G10) nk3
      have ek3 : (upd G10 k3 (.tup [V.bl true])) k3 = some (.tup [V.bl true]) := upd_same
      generalize upd G10 k3 (.tup [V.bl true]) = G11 at s11 ek3 nt3
      have s12 := same_new (o := .tup [V.ref k3]) (Same.refl G11) nt3
      have et3 : (upd G11 t3 (.tup [V.ref k3])) t3 = some (.tup [V.ref k3]) := upd_same
      generalize upd G11 t3 (.tup [V.ref k3]) = G12 at s12 et3
      have b12 := (b10.sm s11).sm s12
      refine ⟨h, t3, _, _, rfl, rfl, b12.rh.e, .inl (.inl et3), c1 _, fun p5 G13 s13 hp5 => ?_⟩
      have b13 := b12.sm s13
      refine ⟨_, rfl, p5, t, _, _, rfl, rfl, hp5, b13.rt.e, c2 _, fun p6 G14 s14 hp6 => ?_⟩
      have b14 := b13.sm s14
      have n3 := mid b14 hp6 (bad_tup (.inl (.inl (s14 _ _ (s13 _ _ (s12 _ _ ek3))))) (by show 1 ≤ 1000; omega) (fun x hx => by
        rw [List.mem_singleton.mp hx]
        exact na_bl true) (by decide +kernel))
      refine ⟨by show 3 ≤ sizeLine; omega, fun l2 nl2 => ?_⟩
      have s15 := same_new (o := .lst [.ref p2, .ref p4, .ref p6]) (Same.refl G14) nl2
      have el2 : (upd G14 l2 (.lst [.ref p2, .ref p4, .ref p6])) l2 = some (.lst [.ref p2, .ref p4, .ref p6]) := upd_same
      generalize upd G14 l2 (.lst [.ref p2, .ref p4, .ref p6]) = G15 at s15 el2
      have s1015 : Same G10 G15 := fun b o e => s15 _ _ (s14 _ _ (s13 _ _ (s12 _ _ (s11 _ _ e))))
      have s615 : Same G6 G15 := fun b o e => s1015 _ _ (s10 _ _ (s9 _ _ (s8 _ _ (s7 _ _ e))))
      have s215 : Same G2 G15 := fun b o e => s615 _ _ (s6 _ _ (s5 _ _ (s4 _ _ (s3 _ _ e))))
      refine ⟨f1, l2, _, _, rfl, rfl, s215 _ _ ef1, el2, by rw [lu1]; show 4 + 3 ≤ sizeLine; omega, fun l3 nl3 => ?_⟩
      have s16 := same_new (o := .lst (us1 ++ [.ref p2, .ref p4, .ref p6])) (Same.refl G15) nl3
      refine ⟨l3, _, rfl, (b14.sm s15).sm s16, upd_same, by rw [List.length_append, lu1]; rfl, fun v hv => ?_⟩
      rcases List.mem_append.mp hv with hv | hv
      · exact ((nu1 v hv).same s215).same s16
      · simp only [List.mem_cons, List.not_mem_nil, or_false] at hv
        rcases hv with rfl | rfl | rfl
        · exact (n1.same s615).same s16
        · exact (n2.same s1015).same s16
        · exact (n3.same s15).same s16
    rintro σ' G3 ⟨f2, us2, rfl, b3, ef2, lu2, nu2⟩
    clear b2 ef1 lu1 nu1
    -- two more
    refine ⟨fun σ' G => ∃ (fl : Addr) (us : List V), σ' = [some (.ref d), some (.ref p), some (.int (a : Nat)), some (.ref h), some (.ref t), some (.ref fl)] ∧ BRs K H d p h t LL A B G ∧ G fl = some (.lst us) ∧ us.length = 9 ∧ ∀ v ∈ us, NoRow K G v, ?_, ?_⟩
    · refine ⟨_, rfl, _, rfl, by show 1 ≤ sizeLine; omega, fun k1 nk1 => ⟨by show 1 ≤ sizeLine; omega, fun t1 nt1 => ?_⟩⟩
      have s4 := same_new (o := .tup [V.str ""]) (Same.refl G3) nk1
      have ek1 : (upd G3 k1 (.tup [V.str ""])) k1 = some (.tup [V.str ""]) := upd_same
      generalize upd G3 k1 (.tup [V.str ""]) = G4 at s4 ek1 nt1
      have s5 := same_new (o := .tup [V.ref k1]) (Same.refl G4) nt1
      have et1 : (upd G4 t1 (.tup [V.ref k1])) t1 = some (.tup [V.ref k1]) := upd_same
      generalize upd G4 t1 (.tup [V.ref k1]) = G5 at s5 et1
      have b5 := (b3.sm s4).sm s5
      refine ⟨h, t1, _, _, rfl, rfl, b5.rh.e, .inl (.inl et1), c1 _, fun p1 G6 s6 hp1 => ?_⟩
      have b6 := b5.sm s6
      refine ⟨_, rfl, p1, t, _, _, rfl, rfl, hp1, b6.rt.e, c2 _, fun p2 G7 s7 hp2 => ?_⟩
      have b7 := b6.sm s7
      have n1 := mid b7 hp2 (bad_tup (.inl (.inl (s7 _ _ (s6 _ _ (s5 _ _ ek1))))) (by show 1 ≤ 1000; omega) (fun x hx => by
        rw [List.mem_singleton.mp hx]
        exact na_str (by decide +kernel)) (by decide +kernel))
      refine ⟨_, rfl, by show 1 ≤ sizeLine; omega, fun k2 nk2 => ⟨by show 1 ≤ sizeLine; omega, fun t2 nt2 => ?_⟩⟩
      have s8 := same_new (o := .tup [V.str "A"]) (Same.refl G7) nk2
      have ek2 : (upd G7 k2 (.tup [V.str "A"])) k2 = some (.tup [V.str "A"]) := upd_same
      generalize upd G7 k2 (.tup [V.str "A"]) = G8 at s8 ek2 nt2
      have s9 := same_new (o := .tup [V.ref k2]) (Same.refl G8) nt2
      have et2 : (upd G8 t2 (.tup [V.ref k2])) t2 = some (.tup [V.ref k2]) := upd_same
      generalize upd G8 t2 (.tup [V.ref k2]) = G9 at s9 et2
      have b9 := (b7.sm s8).sm s9
      refine ⟨h, t2, _, _, rfl, rfl, b9.rh.e, .inl (.inl et2), c1 _, fun p3 G10 s10 hp3 => ?_⟩
      have b10 := b9.sm s10
      refine ⟨_, rfl, p3, t, _, _, rfl, rfl, hp3, b10.rt.e, c2 _, fun p4 G11 s11 hp4 => ?_⟩
      have b11 := b10.sm s11
      have n2 := mid b11 hp4 (bad_tup (.inl (.inl (s11 _ _ (s10 _ _ (s9 _ _ ek2))))) (by show 1 ≤ 1000; omega) (fun x hx => by
        rw [List.mem_singleton.mp hx]
        exact na_str (by decide +kernel)) (by decide +kernel))
      refine ⟨by show 2 ≤ sizeLine; omega, fun l2 nl2 => ?_⟩
      have s12 := same_new (o := .lst [.ref p2, .ref p4]) (Same.refl G11) nl2
      have el2 : (upd G11 l2 (.lst [.ref p2, .ref p4])) l2 = some (.lst [.ref p2, .ref p4]) := upd_same
      generalize upd G11 l2 (.lst [.ref p2, .ref p4]) = G12 at s12 el2
      have s712 : Same G7 G12 := fun b o e => s12 _ _ (s11 _ _ (s10 _ _ (s9 _ _ (s8 _ _ e))))
      have s312 : Same G3 G12 := fun b o e => s712 _ _ (s7 _ _ (s6 _ _ (s5 _ _ (s4 _ _ e))))
      refine ⟨f2, l2, _, _, rfl, rfl, s312 _ _ ef2, el2, by rw [lu2]; show 7 + 2 ≤ sizeLine; omega, fun l3 nl3 => ?_⟩
      have s13 := same_new (o := .lst (us2 ++ [.ref p2, .ref p4])) (Same.refl G12) nl3
      refine ⟨l3, _, rfl, (b11.sm s12).sm s13, upd_same, by rw [List.length_append, lu2]; rfl, fun v hv => ?_⟩
      rcases List.mem_append.mp hv with hv | hv
      · exact ((nu2 v hv).same s312).same s13
      · simp only [List.mem_cons, List.not_mem_nil, or_false] at hv
        rcases hv with rfl | rfl
        · exact (n1.same s712).same s13
        · exact (n2.same s12).same s13
    rintro σ' G4 ⟨f3, us3, rfl, b4, ef3, lu3, nu3⟩
    clear b3 ef2 lu2 nu2
    -- the last two
    refine ⟨_, rfl, _, rfl, by show 1 ≤ sizeLine; omega, fun k1 nk1 => ?_⟩
    have s5 := same_new (o := .tup [V.str "a"]) (Same.refl G4) nk1
    have ek1 : (upd G4 k1 (.tup [V.str "a"])) k1 = some (.tup [V.str "a"]) := upd_same
    generalize upd G4 k1 (.tup [V.str "a"]) = G5 at s5 ek1
    refine ⟨k1, 21, [V.str "a"], rfl, rfl, .inl (.inl ek1), List.cons_ne_nil _ _, by omega, by show 1 ≤ 1000; omega, fun k2 G6 s6 hk2 => ⟨by show 1 ≤ sizeLine; omega, fun t1 nt1 => ?_⟩⟩
    rw [List.flatten_replicate_singleton] at hk2
    have s7 := same_new (o := .tup [V.ref k2]) (Same.refl G6) nt1
    have et1 : (upd G6 t1 (.tup [V.ref k2])) t1 = some (.tup [V.ref k2]) := upd_same
    generalize upd G6 t1 (.tup [V.ref k2]) = G7 at s7 et1
    have b7 := ((b4.sm s5).sm s6).sm s7
    refine ⟨h, t1, _, _, rfl, rfl, b7.rh.e, .inl (.inl et1), c1 _, fun p1 G8 s8 hp1 => ?_⟩
    have b8 := b7.sm s8
    refine ⟨_, rfl, p1, t, _, _, rfl, rfl, hp1, b8.rt.e, c2 _, fun p2 G9 s9 hp2 => ?_⟩
    have b9 := b8.sm s9
    have n1 := mid b9 hp2 (bad_tup (sqT_sm s9 (sqT_sm s8 (sqT_sm s7 hk2))) (by rw [List.length_replicate]; omega) (fun x hx => by
      rw [(List.mem_replicate.mp hx).2]
      exact na_str (by decide +kernel)) (by rw [List.length_replicate]; decide +kernel))
    refine ⟨_, rfl, by show 1 ≤ sizeLine; omega, fun k3 nk3 => ⟨by show 1 ≤ sizeLine; omega, fun t2 nt2 => ?_⟩⟩
    have s10 := same_new (o := .tup [V.int 0]) (Same.refl G9) nk3
    have ek3 : (upd G9 k3 (.tup [V.int 0])) k3 = some (.tup [V.int 0]) := upd_same
    generalize upd G9 k3 (.tup [V.int 0]) = G10 at s10 ek3 nt2
    have s11 := same_new (o := .tup [V.ref k3]) (Same.refl G10) nt2
    have et2 : (upd G10 t2 (.tup [V.ref k3])) t2 = some (.tup [V.ref k3]) := upd_same
    generalize upd G10 t2 (.tup [V.ref k3]) = G11 at s11 et2
    have b11 := (b9.sm s10).sm s11
    refine ⟨h, t2, _, _, rfl, rfl, b11.rh.e, .inl (.inl et2), c1 _, fun p3 G12 s12 hp3 => ?_⟩
    have b12 := b11.sm s12
    refine ⟨_, rfl, p3, t, _, _, rfl, rfl, hp3, b12.rt.e, c2 _, fun p4 G13 s13 hp4 => ?_⟩
    have b13 := b12.sm s13
    have n2 := mid b13 hp4 (bad_tup (.inl (.inl (s13 _ _ (s12 _ _ (s11 _ _ ek3))))) (by show 1 ≤ 1000; omega) (fun x hx => by
      rw [List.mem_singleton.mp hx]
      exact na_int 0) (by decide +kernel))
    refine ⟨by show 2 ≤ sizeLine; omega, fun l2 nl2 => ?_⟩
    have s14 := same_new (o := .lst [.ref p2, .ref p4]) (Same.refl G13) nl2
    have el2 : (upd G13 l2 (.lst [.ref p2, .ref p4])) l2 = some (.lst [.ref p2, .ref p4]) := upd_same
    generalize upd G13 l2 (.lst [.ref p2, .ref p4]) = G14 at s14 el2
    have s914 : Same G9 G14 := fun b o e => s14 _ _ (s13 _ _ (s12 _ _ (s11 _ _ (s10 _ _ e))))
    have s414 : Same G4 G14 := fun b o e => s914 _ _ (s9 _ _ (s8 _ _ (s7 _ _ (s6 _ _ (s5 _ _ e)))))
    refine ⟨f3, l2, _, _, rfl, rfl, s414 _ _ ef3, el2, by rw [lu3]; show 9 + 2 ≤ sizeLine; omega, fun l3 nl3 => ?_⟩
    have s15 := same_new (o := .lst (us3 ++ [.ref p2, .ref p4])) (Same.refl G14) nl3
    have b15 := (b13.sm s14).sm s15
    refine q l3 _ _ b15.sx b15.hd upd_same (by rw [List.length_append, lu3]; exact Nat.le_refl _) fun v hv => ?_
    rcases List.mem_append.mp hv with hv | hv
    · exact ((nu3 v hv).same s414).same s15
    · simp only [List.mem_cons, List.not_mem_nil, or_false] at hv
      rcases hv with rfl | rfl
      · exact (n1.same s914).same s15
      · exact (n2.same s14).same s15
/-- _law_told of a row, told once; of what is none -/
def spTold2 (K : PySem.W.Frag) (C : Addr) : Sp := fun vs H Q _ => ∃ (x md : Addr) (v : V) (leaf : Str) (M : Mak) (ns : List Str), vs = [V.ref x, v] ∧ KindsAt C H x md leaf M ns ∧ Vld leaf M ∧ ((NoRow K H v ∧ ∀ H', Same H H' → Q (.int (-1)) H') ∨
  ∃ (p : Addr) (LL : List (Addr × List Str)), v = .ref p ∧ RowAt K H p LL ∧ looseB (LL.map (·.2)) = true ∧ ∀ (i : Int) H', (Exist leaf M (LL.map (·.2)) → i = ((keysL leaf M (LL.map (·.2)) LL.length).sum : Nat)) → (¬ Exist leaf M (LL.map (·.2)) → i = -1) → Same H H' → Q (.int i) H')
theorem ok_told2 {C Co f : Addr} {fd : FuncData} (F : Fun K "_law_told" "_law_told" s_law_told f fd) (T : Top K mg) (TC : Cl_Kinds K mg C) (XO : XPln K mg "InvalidRow" "ValueError.__new__" "ValueError.__init__" [.type "ValueError", .type "Exception", .type "BaseException", .type "object"] Co) (XC : XCls K Co)
    (te : PySem.W.exmOne K (.ref Co) (.ref Co) = some true) : FnG P w K mg base CX0 9 f fd ["_law_kinds", "_law_row"] (spTold2 K C) := by
  refine (ok_told F T TC XO XC te).less fun vs H Q E h => ?_
  obtain ⟨x, md, v, leaf, M, ns, e, hK, hV, hv⟩ := h
  rcases hv with ⟨hb | ⟨p, LL, rfl, hR, hF, hL⟩, q⟩ | ⟨p, LL, rfl, hR, hL, q⟩
  · exact ⟨x, md, v, leaf, M, ns, e, hK, hV, .inl ⟨hb, q⟩⟩
  · exact ⟨x, md, _, leaf, M, ns, e, hK, hV, .inr ⟨p, LL, rfl, hR, hF, fun _ => q, fun h => by rw [hL] at h; cases h⟩⟩
  · exact ⟨x, md, _, leaf, M, ns, e, hK, hV, .inr ⟨p, LL, rfl, hR, (loose_few hL).1, fun h H' s => q _ H' (fun y => absurd ⟨hL, y⟩ h) (fun _ => rfl) s, fun _ hE H' s => q _ H' (fun _ => rfl) (fun n => absurd hE n) s⟩⟩
/-- is_row, is_loose of what is no row -/
def spRowN (K : PySem.W.Frag) (C : Addr) : Sp := fun vs H Q _ => ∃ (x md : Addr) (v : V) (leaf : Str) (M : Mak) (ns : List Str), vs = [V.ref x, v] ∧ KindsAt C H x md leaf M ns ∧ Vld leaf M ∧ ((NoRow K H v ∧ ∀ H', Same H H' → Q (.bl false) H') ∨
  ∃ (p : Addr) (LL : List (Addr × List Str)), v = .ref p ∧ RowAt K H p LL ∧ Few (LL.map (·.2)) ∧ ∀ b H', (b = true ↔ RowOk leaf M (LL.map (·.2))) → Same H H' → Q (.bl b) H')
theorem ok_rowN {C f : Addr} {fd : FuncData} (F : Fun K "is_row" "is_row" s_is_row f fd) (T : Top K mg) (TC : Cl_Kinds K mg C) : FnOk P w K mg base CX0 8 f fd ["kinds", "value"] (spRowN K C) := by
  refine (ok_row F T TC).imp fun vs H Q E h => ?_
  obtain ⟨x, md, v, leaf, M, ns, e, hK, hV, hv⟩ := h
  rcases hv with ⟨hb | ⟨p, LL, rfl, hR, hF, hL⟩, q⟩ | h
  · exact ⟨x, md, v, leaf, M, ns, e, hK, hV, .inl ⟨hb, q⟩⟩
  · refine ⟨x, md, _, leaf, M, ns, e, hK, hV, .inr ⟨p, LL, rfl, hR, hF, fun b H' hb s => ?_⟩⟩
    have e : b = false := by
      cases b with
      | false => rfl
      | true =>
        have h1 := (hb.mp rfl).1
        rw [hL] at h1
        cases h1
    rw [e]
    exact q H' s
  · exact ⟨x, md, v, leaf, M, ns, e, hK, hV, .inr h⟩
def spLooseN (K : PySem.W.Frag) : Sp := fun vs H Q _ => ∃ v : V, vs = [v] ∧ ((NoRow K H v ∧ ∀ H', Same H H' → Q (.bl false) H') ∨ ∃ (p : Addr) (LL : List (Addr × List Str)), v = .ref p ∧ RowAt K H p LL ∧ Few (LL.map (·.2)) ∧ ∀ H', Same H H' → Q (.bl (looseB (LL.map (·.2)))) H')
theorem ok_looseN {f : Addr} {fd : FuncData} (F : Fun K "is_loose" "is_loose" s_is_loose f fd) (T : Top K mg) : FnOk P w K mg base CX0 6 f fd ["value"] (spLooseN K) := by
  refine (ok_looseA F T).imp fun vs H Q E h => ?_
  obtain ⟨v, rfl, hv⟩ := h
  rcases hv with ⟨hb | ⟨p, LL, rfl, hR, hF, hL⟩, q⟩ | ⟨p, LL, rfl, hR, hF, q⟩
  · exact .inl ⟨v, rfl, hb, q⟩
  · exact .inr ⟨p, LL, rfl, hR, hF, fun H' s => by rw [hL]; exact q H' s⟩
  · exact .inr ⟨p, LL, rfl, hR, hF, q⟩
end
end Kl

set_option maxRecDepth 100000
set_option maxHeartbeats 4000000
namespace Kl
open PySem PySem.Spec PyProof.Rows L2 Gx Mx
section
variable {K : PySem.W.Frag}
/-! ### data of whole numbers -/
def iD (ns : List Int) : List PyData := ns.map PyData.int
theorem eqv_ints : ∀ xs ys : List Int, PyData.eqvAll (iD xs) (iD ys) = decide (xs = ys)
  | [], [] => by simp [iD, PyData.eqvAll]
  | [], y :: ys => by simp [iD, PyData.eqvAll]
  | x :: xs, [] => by simp [iD, PyData.eqvAll]
  | x :: xs, y :: ys => by
    have ih := eqv_ints xs ys
    unfold iD at ih ⊢
    rw [List.map_cons, List.map_cons, PyData.eqvAll, ih, PyData.eqv]
    by_cases h : x = y
    · subst h
      by_cases h2 : xs = ys
      · subst h2
        simp
      · rw [decide_eq_false h2, Bool.and_false, decide_eq_false fun q => h2 (List.cons.inj q).2]
    · rw [decide_eq_false fun q => h (List.cons.inj q).1, beq_eq_false_iff_ne.mpr h, Bool.false_and]
theorem dp_ints {H : Hp} : ∀ xs : List Int, DpAll K H (xs.map V.int) (iD xs)
  | [] => .nil
  | x :: xs => .cons (.int x) (dp_ints xs)
theorem canLay_ints : ∀ xs : List Int, PyData.canLayAll0 (iD xs) = true
  | [] => by simp [iD, PyData.canLayAll0]
  | x :: xs => by
    have ih := canLay_ints xs
    unfold iD at ih ⊢
    rw [List.map_cons, PyData.canLayAll0, ih, PyData.canLay0]
    rfl
theorem depth_ints : ∀ xs : List Int, PyData.depthAll (iD xs) ≤ 1
  | [] => by simp [iD, PyData.depthAll]
  | x :: xs => by
    have ih := depth_ints xs
    unfold iD at ih ⊢
    rw [List.map_cons, PyData.depthAll]
    simp only [PyData.depth]
    omega
theorem shaped_ints (xs : List Int) : SeqAt.shaped (.list (iD xs)) = true := by
  unfold SeqAt.shaped
  rw [Bool.and_eq_true]
  refine ⟨by simp only [PyData.canLay0]; exact canLay_ints xs, decide_eq_true ?_⟩
  have := depth_ints xs
  simp only [PyData.depth]
  omega
end
end Kl

set_option maxRecDepth 100000
set_option maxHeartbeats 4000000
namespace Kl
open PySem PySem.Spec PyProof.Rows L2 Gx Mx
theorem Sm.intB {B k : Nat} {i : Int} (h : i.natAbs < 10 ^ 12) (hB : 41 ≤ B) : Sm B k (.int i) := by
  have hl : i.natAbs.log2 < 40 := PySem.Flt.log2_lt_of (by decide) (Nat.lt_trans h (by decide))
  refine ⟨rfl, Nat.zero_le _, ?_, decide_eq_true (Nat.lt_trans hl (by decide)), decide_eq_true (PyData.shown_int_le h)⟩
  rw [PyData.weight]
  split
  · exact Nat.zero_le _
  · omega
theorem Sm.bool {B k : Nat} (b : Bool) : Sm B k (.bool b) := ⟨rfl, Nat.zero_le _, Nat.zero_le _, rfl, rfl⟩
theorem rep_one {α : Type} (a : α) : ∀ n, (List.replicate n [a]).flatten = List.replicate n a
  | 0 => rfl
  | n + 1 => by
    rw [List.replicate_succ, List.flatten_cons, rep_one a n]
    rfl
/-! ### a row of one kind -/
def oneQ (r : Nat) (z : Str) : List (List Str) := List.replicate r [] ++ [[z]]
theorem oneQ_len (r : Nat) (z : Str) : (oneQ r z).length = r + 1 := by
  unfold oneQ
  rw [List.length_append, List.length_replicate]
  rfl
theorem oneQ_at (r : Nat) (z : Str) : dg (oneQ r z) r = [z] := by
  unfold dg oneQ
  rw [List.getElem?_append_right (by rw [List.length_replicate]; exact Nat.le_refl r), List.length_replicate, Nat.sub_self]
  rfl
theorem oneQ_ne {r : Nat} {z : Str} {i : Nat} (h : i ≠ r) : dg (oneQ r z) i = [] := by
  by_cases c : i < r
  · unfold dg oneQ
    rw [List.getElem?_append_left (by rw [List.length_replicate]; exact c), List.getElem?_replicate, if_pos c]
    rfl
  · exact dg_none (by rw [oneQ_len]; omega)
theorem oneQ_exist {leaf : Str} {M : Mak} {r : Nat} {z : Str} (h : z ∈ setR leaf M r) : Exist leaf M (oneQ r z) := fun i y hy => by
  by_cases c : i = r
  · rw [c, oneQ_at, List.mem_singleton] at hy
    rw [c, hy]
    exact h
  · rw [oneQ_ne c] at hy
    cases hy
theorem oneQ_keys (leaf : Str) (M : Mak) (r : Nat) (z : Str) : (keysL leaf M (oneQ r z) (r + 1)).sum = siz leaf M r z := by
  have e : ∀ j, j ≤ r → (keysL leaf M (oneQ r z) j).sum = 0 := fun j => by
    induction j with
    | zero => exact fun _ => rfl
    | succ j ih =>
      intro hj
      rw [keysL_siz, ih (by omega), oneQ_ne (by omega)]
      rfl
  rw [keysL_siz, e r (Nat.le_refl r), oneQ_at]
  show 0 + (siz leaf M r z + 0) = _
  omega
theorem oneQ_loose {r : Nat} {z : Str} (hr : r ≤ 400) (hz : nameB z = true) : looseB (oneQ r z) = true := by
  have g : goodB [z] = true := by
    unfold goodB
    rw [show sortedS [z] = true from (sortedS_iff _).mpr (List.pairwise_singleton _ _)]
    show (true && ((nameB z && true) && true)) = true
    rw [hz]
    rfl
  unfold looseB
  rw [oneQ_len, decide_eq_true (show r + 1 ≤ 402 by omega), Nat.add_sub_cancel]
  have e1 : (oneQ r z).all goodB = true := by
    rw [List.all_eq_true]
    intro q hq
    rcases List.mem_append.mp hq with h | h
    · rw [(List.mem_replicate.mp h).2]
      decide +kernel
    · rw [List.mem_singleton.mp h]
      exact g
  have e2 : (oneQ r z).drop r = [[z]] := by
    unfold oneQ
    rw [List.drop_append_of_le_length (by rw [List.length_replicate]; exact Nat.le_refl r), List.drop_of_length_le (by rw [List.length_replicate]; exact Nat.le_refl r)]
    rfl
  rw [e1, e2, decide_eq_false (show ¬ [[z]] = [([] : List Str)] from fun h => by cases h)]
  rfl
/-! ### sizes of a kind at the ranks from one on -/
def latR (leaf : Str) (M : Mak) (z : Str) (r k : Nat) : List Int := ((List.range k).filter fun h => decide (z ∈ setR leaf M (r + h))).map fun h => ((siz leaf M (r + h) z : Nat) : Int)
theorem latR_succ (leaf : Str) (M : Mak) (z : Str) (r k : Nat) : latR leaf M z r (k + 1) = latR leaf M z r k ++ (if z ∈ setR leaf M (r + k) then [((siz leaf M (r + k) z : Nat) : Int)] else []) := by
  unfold latR
  rw [List.range_succ, List.filter_append, List.map_append]
  by_cases c : z ∈ setR leaf M (r + k)
  · simp [c]
  · simp [c]
theorem latR_len (leaf : Str) (M : Mak) (z : Str) (r k : Nat) : (latR leaf M z r k).length ≤ k := by
  unfold latR
  rw [List.length_map]
  have := List.length_filter_le (fun h => decide (z ∈ setR leaf M (r + h))) (List.range k)
  rw [List.length_range] at this
  exact this
theorem latR_srt {leaf : Str} {M : Mak} (v : Vld leaf M) (z : Str) (r : Nat) : ∀ k, (latR leaf M z r k).Pairwise (· ≤ ·)
  | 0 => .nil
  | k + 1 => by
    rw [latR_succ, List.pairwise_append]
    refine ⟨latR_srt v z r k, ?_, fun a ha b hb => ?_⟩
    · split
      · exact List.pairwise_singleton _ _
      · exact .nil
    · unfold latR at ha
      obtain ⟨h, hh, rfl⟩ := List.mem_map.mp ha
      obtain ⟨h1, h2⟩ := List.mem_filter.mp hh
      have h1 := List.mem_range.mp h1
      split at hb
      · rename_i c
        rw [List.mem_singleton.mp hb]
        exact Int.ofNat_le.mpr (siz_mono v (by omega) (of_decide_eq_true h2) c)
      · cases hb
theorem set_pool' {leaf : Str} {M : Mak} (v : Vld leaf M) {r : Nat} {z : Str} (hz : z ∈ setR leaf M r) : z ∈ POOL := by
  rcases set_sub r z hz with rfl | h
  · exact v.lf
  · exact v.keys z h
/-! ### how many keys a drawn row has -/
theorem sumS_le {f : Str → Nat} {b : Nat} : ∀ {l : List Str}, (∀ x ∈ l, f x ≤ b) → (l.map f).sum ≤ l.length * b
  | [], _ => Nat.zero_le _
  | x :: l, h => by
    rw [List.map_cons, List.sum_cons, List.length_cons, Nat.succ_mul]
    have h1 := sumS_le (l := l) fun y hy => h y (List.mem_cons_of_mem _ hy)
    have h2 := h x List.mem_cons_self
    omega
theorem keysL_le {leaf : Str} {M : Mak} (v : Vld leaf M) {qs : List (List Str)} (h : ∀ i, (dg qs i).length ≤ 7) : ∀ j, j ≤ 6 → (keysL leaf M qs j).sum ≤ j * 5103
  | 0, _ => Nat.zero_le _
  | j + 1, hj => by
    have ih := keysL_le v h j (by omega)
    rw [keysL_siz, Nat.succ_mul]
    have h1 := sumS_le (f := siz leaf M j) (b := 3 ^ 6) (l := dg qs j) fun x _ => Nat.le_trans (siz_le v j x) (Nat.pow_le_pow_right (by decide) (by omega))
    have h2 : (dg qs j).length * 3 ^ 6 ≤ 7 * 3 ^ 6 := Nat.mul_le_mul_right _ (h j)
    have h3 : 7 * 3 ^ 6 = 5103 := by decide
    omega
theorem few_le {qs : List (List Str)} (h : ∀ q ∈ qs, q.length ≤ 7) : (qs.map List.length).sum ≤ qs.length * 7 := by
  induction qs with
  | nil => exact Nat.zero_le _
  | cons q qs ih =>
    rw [List.map_cons, List.sum_cons, List.length_cons, Nat.succ_mul]
    have h1 := ih fun x hx => h x (List.mem_cons_of_mem _ hx)
    have h2 := h q List.mem_cons_self
    omega
/-! ### what stands while the rows are judged -/
structure RGs (H0 : Hp) (C d pl mk x md sz : Addr) (leaf : Str) (kvs : List (Key × V)) (M M1 : Mak) (ns : List Str) (ds : List Addr) (G : Hp) : Prop where
  epl : G pl = some (.dK (bookK leaf mk))
  emk : G mk = some (.dK kvs)
  hM : MakAt G kvs M
  hK : KindsAt C G x md leaf M1 ns
  esz : G sz = some (.lst (ds.map V.ref))
  hR : RowsAt G leaf M1 ds
  hd : DiceAt G d
  sx : SameX d H0 G
theorem RGs.sm {H0 : Hp} {C d pl mk x md sz : Addr} {leaf : Str} {kvs : List (Key × V)} {M M1 : Mak} {ns : List Str} {ds : List Addr} {G G' : Hp} (h : RGs H0 C d pl mk x md sz leaf kvs M M1 ns ds G) (s : Same G G') : RGs H0 C d pl mk x md sz leaf kvs M M1 ns ds G' :=
  ⟨s _ _ h.epl, s _ _ h.emk, h.hM.same fun _ _ t => t.mono s, h.hK.same s, s _ _ h.esz, h.hR.same s, dice_sm s h.hd, h.sx.trans (SameX.of s)⟩
theorem RGs.step {H0 : Hp} {C d pl mk x md sz : Addr} {leaf : Str} {kvs : List (Key × V)} {M M1 : Mak} {ns : List Str} {ds : List Addr} {G G' : Hp} (h : RGs H0 C d pl mk x md sz leaf kvs M M1 ns ds G) (s : SameX d G G') (hd : DiceAt G' d) : RGs H0 C d pl mk x md sz leaf kvs M M1 ns ds G' := by
  obtain ⟨a, b, c, e⟩ := id h.hd
  have nd : ∀ {p : Addr} {kv : List (Key × V)}, G p = some (.dK kv) → p ≠ d := fun h1 w => by
    rw [w, e] at h1
    cases h1
  refine ⟨s _ _ (nd h.epl) h.epl, s _ _ (nd h.emk) h.emk, h.hM.same fun b xs t => t.at fun o e' => s _ _ (fun w => by
    obtain ⟨ob, _, q⟩ := t
    rw [w, e] at q
    cases q) e', h.hK.dice h.hd s, ?_, fun i a ha => s _ _ (nd (h.hR i a ha)) (h.hR i a ha), hd, h.sx.trans s⟩
  refine s _ _ (fun w => ?_) h.esz
  have h1 := h.esz
  rw [w, e] at h1
  have h2 := HO.lst.inj (Option.some.inj h1)
  cases ds with
  | nil => cases h2
  | cons a ds => cases h2
section
variable {P : Program} {w : World} {K : PySem.W.Frag} {mg : Str → Option Value} {base : Heap}
/-! ### _law_right -/
def spRG : Sp := fun vs H Q _ => ∃ d : Addr, vs = [.ref d] ∧ DiceAt H d ∧ ∀ H', SameX d H H' → Q (.bl true) H'
abbrev NRG : List Str := ["_law_dice_here", "_law_plain", "_law_kinds", "_law_sizes_here", "_law_rank", "_law_kind", "_law_later", "_law_row", "_law_turn", "_law_due", "_law_trees", "_law_is_due", "_law_bent", "_law_high", "_law_digit"]
theorem ok_rg {f : Addr} {fd : FuncData} (F : Fun K "_law_right" "_law_right" s_law_right f fd) (T : Top K mg) : FnG P w K mg base CX0 10 f fd ["_law_dice_here"] spRG := by
  obtain ⟨C, TC⟩ := T.c_Kinds
  obtain ⟨Co, XO, XC, te⟩ := T.p_InvalidRow
  have cm : Cal P w K mg base 9 "_law_drawn_makings" ["_law_dice_here"] spDM := (T.d_law_drawn_makings.cal fun f fd F => ok_dm F T).mono (by decide)
  have ck : Cal P w K mg base 9 "_law_made_kinds" ["_law_plain"] (spMade C) := (T.d_law_made_kinds.cal fun f fd F => ok_made F T TC).mono (by decide)
  have cs : Cal P w K mg base 9 "_law_sizes" ["_law_plain", "_law_bound"] spSizes := (T.d_law_sizes.cal fun f fd F => ok_sizes F T).mono (by decide)
  have cy : Cal P w K mg base 9 "keys_of" ["kinds", "row"] (spKeys K C) := (T.d_keys_of.cal fun f fd F => ok_keys F T TC).mono (by decide)
  have cz : Cal P w K mg base 9 "_law_tree_size" ["_law_plain", "_law_kind", "_law_rank"] (spTS 6) := (T.d_law_tree_size.cal fun f fd F => ok_ts 6 F T).mono (by decide)
  have cw : Cal P w K mg base 9 "_law_drawn_row" ["_law_dice_here", "_law_plain", "_law_most"] (spDW K) := (T.d_law_drawn_row.cal fun f fd F => ok_dw F T).mono (by decide)
  have cu : Cal P w K mg base 9 "_law_keys_by_trees" ["_law_plain", "_law_row"] (spKT2 K) := T.d_law_keys_by_trees.cal fun f fd F => ok_kt2 F T
  have co : Cal P w K mg base 9 "is_row" ["kinds", "value"] (spRowN K C) := (T.d_is_row.cal fun f fd F => ok_rowN F T TC).mono (by decide)
  have cl : Cal P w K mg base 9 "is_loose" ["value"] (spLooseN K) := (T.d_is_loose.cal fun f fd F => ok_looseN F T).mono (by decide)
  have ct : Cal P w K mg base 9 "trees_of" ["row"] (spTrees K) := (T.d_trees_of.cal fun f fd F => ok_trees F T).mono (by decide)
  have cb : Cal P w K mg base 9 "_law_bent_rows" ["_law_dice_here", "_law_row"] (spBR K) := (T.d_law_bent_rows.cal fun f fd F => ok_br F T).mono (by decide)
  have cd : CalG P w K mg base 9 "_law_told" ["_law_kinds", "_law_row"] (spTold2 K C) := T.d_law_told.calG fun f fd F => ok_told2 F T TC XO XC te
  refine okG F sc_law_right (fun vs H Q E h => ?_) (fun cdv A outer s H vs Q E hg hr h => ?_)
  · obtain ⟨d, rfl, _⟩ := h
    rfl
  · obtain ⟨d, rfl, hd, q⟩ := h
    have hu := hu_of hr
    refine ⟨_, pss_cut (ps_set (i := 1) sc_law_right.nd rfl (.inl rfl) (pe_cal cm hr (by rfl) (pa_cons (pv 0) pa_nil)))
      (pss_cut (ps_asg (pe_tup (pa_cons (pe_cal ck hr (by rfl) (pa_cons (pv 1) pa_nil)) (pa_cons (pe_cal cs hr (by rfl) (pa_cons (pv 1) (pa_cons pe_int pa_nil))) pa_nil))) (pg_tup (n := 2) rfl (pgs_cons (pg_name (i := 2) sc_law_right.nd rfl (.inl rfl)) (pgs_cons (pg_name (i := 3) sc_law_right.nd rfl (.inr rfl)) pgs_nil))))
      (pss_cut (ps_for PassesOwn.never rfl (pi_range1 (by rfl) T.b_range (pa_cons pe_int pa_nil)) (pg_name (i := 4) sc_law_right.nd rfl (.inl rfl))
        (pss_one (ps_lock (ps_for PassesOwn.never rfl (pi_keys (pe_ix ix_list (pv 3) (pv 4) (fun _ _ => rfl))) (pg_name (i := 5) sc_law_right.nd rfl (.inr rfl))
          (pss_cut (ps_setLc (i := 6) (own := [("_law_high", 13)]) (g := gName 13) (by rfl) sc_law_right.nd rfl rfl (sw_true rfl rfl rfl (by decide +kernel)) (pi_range2 (by rfl) T.b_range (pa_cons (pv 4) (pa_cons pe_int pa_nil)))
              (blkOk_by (N := NRG) (sc := defScope s_law_right) (by decide +kernel)) (fun _ _ _ _ _ => pg_name (i := 13) sc_law_right.nd rfl (.inl rfl))
              (fun _ _ _ _ _ => pts_one (pt_cmp (pc_din hu (pv 5) (pe_ix (ix_listK (K := K) (by exact rfl)) (pv 3) (pv 13) (fun _ _ => rfl)))))
              (fun _ _ _ _ _ => pe_dget hu (pe_ix (ix_listK (K := K) (by exact rfl)) (pv 3) (pv 13) (fun _ _ => rfl)) (pv 5) (fun _ _ => rfl)))
          (pss_cut (ps_set (i := 7) sc_law_right.nd rfl (.inl rfl) (pe_op op_catS (pe_op op_repS (pe_tup (pa_cons (pe_tup pa_nil) pa_nil)) (pv 4)) (pe_tup (pa_cons (pe_tup (pa_cons (pv 5) pa_nil)) pa_nil))))
          (pss_one (ps_if (PW.pt (pw_or (pt_cmpR (op_neD hr.units) (pv 6) (pe_callB cr_sorted (by rfl) T.b_sorted (by decide +kernel) (pa_cons (pv 6) pa_nil)) (by rfl))
              (pw_or1 (pt_cmpR op_ne (pe_cal cy hr (by rfl) (pa_cons (pv 2) (pa_cons (pv 7) pa_nil))) (pe_cal cz hr (by rfl) (pa_cons (pv 1) (pa_cons (pv 5) (pa_cons (pv 4) pa_nil)))) (nomark _))))) (pss_one (ps_ret pe_bl)) pss_nil))))))))
      (pss_cut (ps_for PassesOwn.never rfl (pi_range1 (by rfl) T.b_range (pa_cons pe_int pa_nil)) (pg_name (i := 8) sc_law_right.nd rfl (.inl rfl))
        (pss_cut (ps_set (i := 7) sc_law_right.nd rfl (.inl rfl) (pe_cal cw hr (by rfl) (pa_cons (pv 0) (pa_cons (pv 1) (pa_cons pe_int pa_nil)))))
        (pss_cut (ps_par (i := 9) (j := 10) rfl sc_law_right.nd rfl rfl (by decide) rfl rfl (pa_cons (pe_cal cu hr (by rfl) (pa_cons (pv 1) (pa_cons (pv 7) pa_nil))) (pa_cons (pe_callB (cr_sum rfl) (by rfl) T.b_sum (by decide +kernel) (pa_cons (pe_lc (own := [("_law_digit", 14)]) (g := gName 14) (tt := tYes) rfl sc_law_right.nd (pi_tup (pv 7))
              (blkOk_by (N := NRG) (sc := defScope s_law_right) (by decide +kernel)) (fun _ _ _ _ _ => pg_name (i := 14) sc_law_right.nd rfl (.inl rfl)) (fun _ _ _ _ _ => pts_nil)
              (fun _ _ _ _ _ => pe_callB (call_lenK (K := K) (by exact rfl)) (by rfl) T.b_len PySem.boot_len (pa_cons (pv 14) pa_nil))) pa_nil)) pa_nil)) (by kernel_rfl))
        (pss_cut (ps_set (i := 11) sc_law_right.nd rfl (.inl rfl) (pe_and (pe_cmpR op_ge (pv 9) pe_int (nomark _)) (pe_one (pe_cmpR (op_eqD hr.units) (pe_lc (own := [("_law_digit", 14)]) (g := gName 14) rfl sc_law_right.nd (pi_tup (pv 7))
              (blkOk_by (N := NRG) (sc := defScope s_law_right) (by decide +kernel)) (fun _ _ _ _ _ => pg_name (i := 14) sc_law_right.nd rfl (.inl rfl))
              (fun _ _ _ _ _ => pts_one (pt_cmpR op_gt (pe_callB (call_lenK (K := K) (by exact rfl)) (by rfl) T.b_len PySem.boot_len (pa_cons (pv 14) pa_nil)) pe_int (nomark _))) (fun _ _ _ _ _ => pv 14)) (pe_lst pa_nil) (by rfl)))))
        (pss_cut (ps_if (pt_cmpR op_ne (pe_callB (call_reprD hg hr.units) (by rfl) T.b_repr (by decide +kernel) (pa_cons (pe_lst (pa_cons (pe_cal co hr (by rfl) (pa_cons (pv 2) (pa_cons (pv 7) pa_nil))) (pa_cons (pe_calG cd hg hr (by rfl) (pa_cons (pv 2) (pa_cons (pv 7) pa_nil))) (pa_cons (pe_cal ct hr (by rfl) (pa_cons (pv 7) pa_nil)) pa_nil)))) pa_nil))
              (pe_callB (call_reprD hg hr.units) (by rfl) T.b_repr (by decide +kernel) (pa_cons (pe_lst (pa_cons (pv 11) (pa_cons (pv 9) (pa_cons (pv 10) pa_nil)))) pa_nil)) (nomark _)) (pss_one (ps_ret pe_bl)) pss_nil)
        (pss_one (ps_for PassesOwn.never rfl (pi_list (pe_cal cb hr (by rfl) (pa_cons (pv 0) (pa_cons (pv 7) pa_nil)))) (pg_name (i := 12) sc_law_right.nd rfl (.inl rfl))
          (pss_one (ps_if (PW.pt (pw_or (pt_cmpR op_notBl (pe_cal co hr (by rfl) (pa_cons (pv 2) (pa_cons (pv 12) pa_nil))) pe_bl (by rfl)) (pw_or (pt_cmpR op_notBl (pe_cal cl hr (by rfl) (pa_cons (pv 12) pa_nil)) pe_bl (by rfl))
              (pw_or1 (pt_cmpR op_ne (pe_calG cd hg hr (by rfl) (pa_cons (pv 2) (pa_cons (pv 12) pa_nil))) (pe_op op_sub pe_int pe_int) (nomark _)))))) (pss_one (ps_ret pe_bl)) pss_nil)))))))))
      (pss_one (ps_ret pe_bl))))), ?_⟩
    have big : 100000 ≤ sizeLine := by decide
    -- kinds
    refine ⟨fun σ' G => ∃ (pl mk : Addr) (leaf : Str) (kvs : List (Key × V)) (M : Mak), σ' = [some (.ref d), some (.ref pl), none, none, none, none, none, none, none, none, none, none, none, none, none] ∧ G pl = some (.dK (bookK leaf mk)) ∧ G mk = some (.dK kvs) ∧ MakAt G kvs M ∧ Vld leaf M ∧ DiceAt G d ∧ SameX d H G, ?_, ?_⟩
    · exact ⟨_, rfl, d, rfl, hd, fun pl mk leaf kvs M G h1 h2 h3 h4 sx h5 => ⟨pl, mk, leaf, kvs, M, rfl, h1, h2, h3, h4, h5, sx⟩⟩
    rintro σ' G ⟨pl, mk, leaf, kvs, M, rfl, hpl, hmk, hM, hV, hd1, sx1⟩
    refine ⟨fun σ' G' => ∃ (x md sz : Addr) (M1 : Mak) (ns : List Str) (ds : List Addr), σ' = [some (.ref d), some (.ref pl), some (.ref x), some (.ref sz), none, none, none, none, none, none, none, none, none, none, none] ∧ OrdOf M M1 ∧ ds.length = 7 ∧ RGs H C d pl mk x md sz leaf kvs M M1 ns ds G', ?_, ?_⟩
    · refine ⟨_, rfl, pl, mk, leaf, kvs, M, rfl, hpl, hmk, hM, hV, fun x md M1 ns G1 hK hO _ s1 => ?_⟩
      refine ⟨_, rfl, pl, mk, leaf, kvs, M, M1, 6, rfl, by omega, s1 _ _ hpl, s1 _ _ hmk, hM.same (fun _ _ t => t.mono s1), hV, hO, fun sz ds G2 s2 _ esz hl hR => ?_⟩
      refine ⟨by show 2 ≤ sizeLine; omega, fun t nt => ⟨t, _, rfl, .inl (.inl upd_same), rfl, _, _, rfl, _, _, rfl, rfl, ?_⟩⟩
      have s3 : Same G (upd G2 t (.tup [V.ref x, V.ref sz])) := same_new (fun b o e => s2 _ _ (s1 _ _ e)) nt
      have s4 : Same G1 (upd G2 t (.tup [V.ref x, V.ref sz])) := same_new s2 nt
      exact ⟨x, md, sz, M1, ns, ds, rfl, hO, hl, s3 _ _ hpl, s3 _ _ hmk, hM.same (fun _ _ q => q.mono s3), hK.same s4, same_new (Same.refl G2) nt _ _ esz, hR.same (same_new (Same.refl G2) nt), dice_sm s3 hd1, sx1.trans (SameX.of s3)⟩
    clear hpl hmk hM hd1 sx1
    rintro σ' G1 ⟨x, md, sz, M1, ns, ds, rfl, hO, hl, g1⟩
    have v1 := hO.vld hV
    have ev : ∀ qs, Exist leaf M1 qs ↔ Exist leaf M1 qs := fun _ => .rfl
    -- rows of one kind
    refine ⟨fun σ' G' => ∃ (y4 y5 y6 y7 : Option V), σ' = [some (.ref d), some (.ref pl), some (.ref x), some (.ref sz), y4, y5, y6, y7, none, none, none, none, none, none, none] ∧ RGs H C d pl mk x md sz leaf kvs M M1 ns ds G', ?_, ?_⟩
    · refine ⟨_, rfl, by decide, by decide, ?_⟩
      refine for_range (lo := 0) (fun i σ' G' => ∃ (y4 y5 y6 y7 : Option V), σ' = [some (.ref d), some (.ref pl), some (.ref x), some (.ref sz), y4, y5, y6, y7, none, none, none, none, none, none, none] ∧ RGs H C d pl mk x md sz leaf kvs M M1 ns ds G')
        ⟨none, none, none, none, rfl, g1⟩ (fun i σ' G hi hP => ?_) (fun σ' G hP => hP)
      obtain ⟨y4, y5, y6, y7, rfl, g⟩ := hP
      have hi : i < 6 := hi
      rw [show (0 : Int) + ((i : Nat) : Int) = ((i : Nat) : Int) by omega]
      obtain ⟨ra, hra⟩ : ∃ a, ds[i]? = some a := ⟨_, List.getElem?_eq_getElem (by omega)⟩
      have era := g.hR i ra hra
      have atS : ∀ (m : Nat) (a : Addr), ds[m]? = some a → atI (ds.map V.ref) ((m : Nat) : Int) = some (.ref a) := fun m a h => by
        have hm := (List.getElem?_eq_some_iff.mp h).1
        unfold atI ixN
        rw [if_pos (by omega), List.length_map, if_pos (by omega)]
        show (ds.map V.ref)[((m : Nat) : Int).toNat]? = _
        rw [Int.toNat_natCast, List.getElem?_map, h]
        rfl
      refine ⟨ra, _, era, trivial, fun od => ?_⟩
      have eRL : (upd G ra (.frz od (.dK (rowK (rowsR leaf M1 i))))) ra = some (.frz od (.dK (rowK (rowsR leaf M1 i)))) := upd_same
      have sGL : SameX ra G (upd G ra (.frz od (.dK (rowK (rowsR leaf M1 i))))) := fun b o n e => by
        rw [upd_ne n]
        exact e
      generalize upd G ra (.frz od (.dK (rowK (rowsR leaf M1 i)))) = GL at eRL sGL
      have nz : sz ≠ ra := fun c => by
        have := g.esz
        rw [c, era] at this
        cases this
      have sG : ∀ {G' : Hp}, Same GL G' → SameX ra G G' := fun sx b o n e => sx _ _ (sGL _ _ n e)
      refine ⟨_, rfl, _, rfl, sz, _, _, .ref ra, rfl, rfl, .inl (.inl (sG (Same.refl GL) _ _ nz g.esz)), atS _ ra hra, ra, od, rfl, .inl ⟨_, eRL, ?_⟩⟩
      refine for_it walk_keys (fun j σ' G' => ∃ (y5 y6 y7 : Option V), σ' = [some (.ref d), some (.ref pl), some (.ref x), some (.ref sz), some (.int (i : Nat)), y5, y6, y7, none, none, none, none, none, none, none] ∧ Same GL G')
        ⟨_, _, _, rfl, Same.refl GL⟩ (fun j σ' G' _ h => by obtain ⟨_, _, _, _, sx⟩ := h; exact sx _ _ eRL) (fun j v σ' Gx G' hj h hy => ?_) (fun σ' G' h => ?_)
      · obtain ⟨y5, y6, y7, rfl, sx⟩ := h
        obtain ⟨rfl, kk, v, hkv, rfl⟩ := hy
        obtain ⟨z0, hxj, ex⟩ : ∃ x, (rowsR leaf M1 i)[j]? = some x ∧ (Sum.inr x.1, V.int (x.2 : Nat)) = (kk, v) := by
          unfold rowK at hkv
          rw [List.getElem?_map] at hkv
          exact Option.map_eq_some_iff.mp hkv
        cases ex
        obtain ⟨z, n0⟩ := z0
        have hzR : z ∈ setR leaf M1 i := List.mem_map.mpr ⟨_, List.mem_of_getElem? hxj, rfl⟩
        have ni : ∀ {kv : List (Key × V)}, G ra = some (.dK kv) → ∃ k n, kv[j]? = some (k, V.int n) := fun h => by
          rw [era] at h
          have h2 := HO.dK.inj (Option.some.inj h)
          exact ⟨_, _, by rw [← h2]; exact hkv⟩
        have nm : ∀ {p : Addr} {kv : List (Key × V)} {M' : Mak}, G p = some (.dK kv) → MakAt G kv M' → p ≠ ra := fun h1 h2 c => by
          rw [c] at h1
          obtain ⟨k, n, e⟩ := ni h1
          obtain ⟨_, a, _, _, h3, _⟩ := h2.at e
          cases h3
        have np : pl ≠ ra := fun c => by
          have h1 := g.epl
          rw [c] at h1
          obtain ⟨k, n, e⟩ := ni h1
          have h2 := List.mem_of_getElem? e
          simp only [bookK, List.mem_cons, List.not_mem_nil, or_false] at h2
          rcases h2 with h | h <;> cases h
        have gpl := sG sx _ _ np g.epl
        have gmk := sG sx _ _ (nm g.emk g.hM) g.emk
        have gM : MakAt G' kvs M := g.hM.same fun a xs h => h.at fun o e => sG sx _ _ (h.ne era fun _ => nofun) e
        have gK : KindsAt C G' x md leaf M1 ns := by
          obtain ⟨dx, nt, kv2, h1, h2, h3, h4⟩ := id g.hK
          refine g.hK.keep (e := ra) (fun b o n e => sG sx b o n e) (fun c => ?_) (nm h2 h3) (fun xs c => ?_) (fun xs c => ?_)
          · rw [c, era] at h1
            cases h1
          · rw [era] at c
            cases c
          · obtain ⟨ob, _, q⟩ := c
            rw [era] at q
            cases q
        have rd : ∀ {G5 : Hp}, Same G' G5 → ∀ b kv, G b = some (.dK kv) → Rd G5 b (.dK kv) := fun s5 b kv e => by
          by_cases c : b = ra
          · rw [c, era] at e
            rw [c, ← HO.dK.inj (Option.some.inj e)]
            exact .inr ⟨od, s5 _ _ (sx _ _ eRL)⟩
          · exact .inl (s5 _ _ (sG sx _ _ c e))
        have gsz := sG sx _ _ nz g.esz
        have hzn : nameB z = true := pool_name (set_pool' v1 hzR)
        -- the sizes at the ranks from here on
        refine ⟨fun σ' G5 => ∃ D : Addr, σ' = [some (.ref d), some (.ref pl), some (.ref x), some (.ref sz), some (.int (i : Nat)), some (.str z), some (.ref D), y7, none, none, none, none, none, none, none] ∧ Same G' G5 ∧ G5 D = some (.lst ((latR leaf M1 z i (7 - i)).map V.int)), ?_, ?_⟩
        · refine ⟨_, rfl, _, _, rfl, ⟨by omega, by omega, by omega, by omega⟩, fun D hD => ?_⟩
          refine lc_range (g := gName 13) (vs := [13]) (lo := ((i : Nat) : Int)) (n := ((7 : Int) - ((i : Nat) : Int)).toNat) (fun k G5 => Same G' G5 ∧ G5 D = some (.lst ((latR leaf M1 z i k).map V.int))) ⟨same_new (Same.refl G') hD, upd_same⟩ (fun k G5 hk h => ?_) (fun G5 h => ?_)
          · obtain ⟨s5, eD⟩ := h
            obtain ⟨sb, hsb⟩ : ∃ a, ds[i + k]? = some a := ⟨_, List.getElem?_eq_getElem (by omega)⟩
            have esb := g.hR (i + k) sb hsb
            have atB : atI (ds.map V.ref) (((i : Nat) : Int) + ((k : Nat) : Int)) = some (.ref sb) := by
              rw [show ((i : Nat) : Int) + ((k : Nat) : Int) = ((i + k : Nat) : Int) by omega]
              exact atS _ sb hsb
            refine ⟨rfl, _, rfl, _, rfl, _, rfl, sz, _, _, .ref sb, rfl, rfl, .inl (.inl (s5 _ _ gsz)), atB, sb, _, rfl, .inl ⟨_, Sum.inr z, rd s5 _ _ esb, rfl, rfl⟩, ?_⟩
            rw [rowK_some, latR_succ]
            refine ⟨_, rfl, ?_⟩
            by_cases c : z ∈ setR leaf M1 (i + k)
            · rw [decide_eq_true (show z ∈ keysR (rowsR leaf M1 (i + k)) from c), if_pos c]
              show (if true = true then _ else _)
              rw [if_pos rfl]
              refine ⟨_, rfl, _, rfl, sz, _, _, .ref sb, rfl, rfl, .inl (.inl (s5 _ _ gsz)), atB, _, rfl, sb, _, rfl, .inl ⟨_, Sum.inr z, rd s5 _ _ esb, rfl, (rowK_get (show z ∈ keysR (rowsR leaf M1 (i + k)) from c)).symm⟩, _, eD, ?_, fun b u e => by rw [upd_ne (ne_of_none e hD)]; exact s5 b u e, ?_⟩
              · rw [List.length_map]
                have := latR_len leaf M1 z i k
                exact Nat.lt_of_le_of_lt (show _ ≤ 7 by omega) (by decide)
              · rw [upd_same, List.map_append]
                rfl
            · rw [decide_eq_false (show ¬ z ∈ keysR (rowsR leaf M1 (i + k)) from c), if_neg c, List.append_nil]
              show (if false = true then _ else _)
              rw [if_neg (by decide)]
              exact ⟨s5, eD⟩
          · obtain ⟨s5, eD⟩ := h
            rw [show ((7 : Int) - ((i : Nat) : Int)).toNat = 7 - i by omega] at eD
            exact ⟨D, rfl, s5, eD⟩
        rintro σ' G5 ⟨D, rfl, s5, eD⟩
        -- the row
        refine ⟨fun σ' G6 => ∃ (p e1 k1 : Addr), σ' = [some (.ref d), some (.ref pl), some (.ref x), some (.ref sz), some (.int (i : Nat)), some (.str z), some (.ref D), some (.ref p), none, none, none, none, none, none, none] ∧ Same G5 G6 ∧ RowAt K G6 p (List.replicate i (e1, []) ++ [(k1, [z])]), ?_, ?_⟩
        · refine ⟨Nat.zero_le _, fun e1 ne1 => ⟨by show 1 ≤ sizeLine; omega, fun t1 nt1 => ?_⟩⟩
          have t2 := same_new (o := .tup []) (Same.refl G5) ne1
          have ee1 : (upd G5 e1 (.tup [])) e1 = some (.tup []) := upd_same
          generalize upd G5 e1 (.tup []) = Ga at t2 ee1 nt1
          have t3 := same_new (o := .tup [V.ref e1]) (Same.refl Ga) nt1
          have et1 : (upd Ga t1 (.tup [V.ref e1])) t1 = some (.tup [V.ref e1]) := upd_same
          generalize upd Ga t1 (.tup [V.ref e1]) = Gb at t3 et1
          refine ⟨_, rfl, t1, i, _, rfl, rfl, .inl (.inl et1), (fun h => by cases h), by omega, by show 1 ≤ 1000; omega, fun p1 Gc t4 hp1 => ?_⟩
          refine ⟨_, rfl, by show 1 ≤ sizeLine; omega, fun k1 nk1 => ⟨by show 1 ≤ sizeLine; omega, fun u1 nu1 => ?_⟩⟩
          have t5 := same_new (o := .tup [V.str z]) (Same.refl Gc) nk1
          have ek1 : (upd Gc k1 (.tup [V.str z])) k1 = some (.tup [V.str z]) := upd_same
          generalize upd Gc k1 (.tup [V.str z]) = Gd at t5 ek1 nu1
          have t6 := same_new (o := .tup [V.ref k1]) (Same.refl Gd) nu1
          have eu1 : (upd Gd u1 (.tup [V.ref k1])) u1 = some (.tup [V.ref k1]) := upd_same
          generalize upd Gd u1 (.tup [V.ref k1]) = Ge at t6 eu1
          rw [rep_one] at hp1
          refine ⟨p1, u1, _, _, rfl, rfl, sqT_sm t6 (sqT_sm t5 hp1), .inl (.inl eu1), by rw [List.length_replicate]; show i + 1 ≤ sizeLine; omega, fun p Gf t7 hp => ?_⟩
          refine ⟨p, e1, k1, rfl, fun b o e => t7 _ _ (t6 _ _ (t5 _ _ (t4 _ _ (t3 _ _ (t2 _ _ e))))), ?_, fun q hq => ?_⟩
          · rw [List.map_append, List.map_replicate]
            exact hp
          · rcases List.mem_append.mp hq with hq | hq
            · rw [(List.mem_replicate.mp hq).2]
              exact .inl (.inl (t7 _ _ (t6 _ _ (t5 _ _ (t4 _ _ (t3 _ _ ee1))))))
            · rw [List.mem_singleton.mp hq]
              exact .inl (.inl (t7 _ _ (t6 _ _ ek1)))
        rintro σ' G6 ⟨p, e1, k1, rfl, s6, hRow⟩
        have eQ : (List.replicate i (e1, ([] : List Str)) ++ [(k1, [z])]).map (·.2) = oneQ i z := by
          rw [List.map_append, List.map_replicate]
          rfl
        have s56 : Same G' G6 := fun b o e => s6 _ _ (s5 _ _ e)
        have llat := latR_len leaf M1 z i (7 - i)
        refine or_mid (fun b Gx => b = false ∧ Same G6 Gx) (fun Q' hQ' => ?_) (fun b Gx hb => ?_)
        · refine ⟨_, rfl, _, rfl, D, _, rfl, .inl (.inl (s6 _ _ eD)), by omega, fun ns' p2 hperm hsrt np2 => ?_⟩
          have s7 := same_new (o := .lst (ns'.map V.int)) (Same.refl G6) np2
          refine ⟨.list (iD (latR leaf M1 z i (7 - i))), .list (iD ns'), .lst (.inl (.inl (s7 _ _ (s6 _ _ eD)))) (dp_ints _), .lst (.inl (.inl upd_same)) (dp_ints _), shaped_ints _, shaped_ints _, ?_⟩
          rw [PyData.eqv, eqv_ints, decide_eq_true (List.Perm.eq_of_pairwise (fun _ _ _ _ h1 h2 => Int.le_antisymm h1 h2) (latR_srt v1 z i _) hsrt hperm.symm)]
          generalize upd G6 p2 (.lst (ns'.map V.int)) = G7 at s7
          refine ⟨_, rfl, ?_⟩
          show (if (!true) = true then _ else _)
          rw [if_neg (by decide)]
          refine ⟨_, rfl, _, rfl, x, md, p, leaf, M1, ns, _, rfl, (gK.same s56).same s7, v1, hRow.same s7, by rw [eQ]; exact oneQ_loose (by omega) hzn, by rw [eQ]; exact oneQ_exist hzR, fun G8 s8 => ?_⟩
          have s58 : Same G' G8 := fun b o e => s8 _ _ (s7 _ _ (s56 _ _ e))
          refine ⟨_, rfl, _, rfl, _, rfl, pl, mk, leaf, z, kvs, M, M1, i, rfl, by omega, by omega, s58 _ _ gpl, s58 _ _ gmk, gM.same (fun _ _ t => t.mono s58), hV, hO, fun G9 s9 => ?_⟩
          rw [eQ, List.length_append, List.length_replicate, List.length_singleton, oneQ_keys]
          refine ⟨rfl, _, rfl, ?_⟩
          rw [decide_eq_true rfl]
          show Q' false _
          exact hQ' _ _ ⟨rfl, fun b o e => s9 _ _ (s8 _ _ (s7 _ _ e))⟩
        obtain ⟨rfl, sx7⟩ := hb
        show (if false = true then _ else _)
        rw [if_neg (by decide)]
        exact ⟨_, _, _, rfl, fun b o e => sx7 _ _ (s56 _ _ (sx _ _ e))⟩
      · obtain ⟨y5, y6, y7, rfl, sx⟩ := h
        refine ⟨sx _ _ eRL, some (.int (i : Nat)), y5, y6, y7, rfl, g.sm fun b o e => ?_⟩
        by_cases c : b = ra
        · rw [c] at e ⊢
          rw [upd_same, ← era, e]
        · rw [upd_ne c]
          exact sG sx _ _ c e
    rintro σ' G2 ⟨y4, y5, y6, y7, rfl, g2⟩
    refine ⟨fun σ' G' => ∃ (y4 y5 y6 y7 y8 y9 y10 y11 y12 : Option V), σ' = [some (.ref d), some (.ref pl), some (.ref x), some (.ref sz), y4, y5, y6, y7, y8, y9, y10, y11, y12, none, none] ∧ RGs H C d pl mk x md sz leaf kvs M M1 ns ds G', ?_, ?_⟩
    · refine ⟨_, rfl, by decide, by decide, ?_⟩
      refine for_range (lo := 0) (fun i σ' G' => ∃ (y4 y5 y6 y7 y8 y9 y10 y11 y12 : Option V), σ' = [some (.ref d), some (.ref pl), some (.ref x), some (.ref sz), y4, y5, y6, y7, y8, y9, y10, y11, y12, none, none] ∧ RGs H C d pl mk x md sz leaf kvs M M1 ns ds G')
        ⟨y4, y5, y6, y7, none, none, none, none, none, rfl, g2⟩ (fun i σ' G hi hP => ?_) (fun σ' G hP => hP)
      clear g1 g2
      obtain ⟨y4, y5, y6, y7, y8, y9, y10, y11, y12, rfl, g⟩ := hP
      -- a drawn row
      refine ⟨fun σ' Ga => ∃ (p : Addr) (LL : List (Addr × List Str)), σ' = [some (.ref d), some (.ref pl), some (.ref x), some (.ref sz), y4, y5, y6, some (.ref p), some (.int (0 + (i : Nat))), y9, y10, y11, y12, none, none] ∧ RGs H C d pl mk x md sz leaf kvs M M1 ns ds Ga ∧ RowAt K Ga p LL ∧ looseB (LL.map (·.2)) = true ∧ (∀ q ∈ LL, q.2.length ≤ 7) ∧ LL.length ≤ 6, ?_, ?_⟩
      · exact ⟨_, rfl, _, rfl, d, pl, mk, leaf, kvs, M, M1, rfl, g.hd, g.epl, g.emk, g.hM, hV, hO, fun p LL Ga sx hda hR hL h7 l6 => ⟨p, LL, rfl, g.step sx hda, hR, hL, h7, l6⟩⟩
      rintro σ' Ga ⟨p, LL, rfl, ga, hR, hL, h7, l6⟩
      have hF := (loose_few hL).1
      have eL : (LL.map (·.2)).length = LL.length := List.length_map _
      have h7' : ∀ q ∈ LL.map (·.2), q.length ≤ 7 := fun q hq => by
        obtain ⟨q0, h0, rfl⟩ := List.mem_map.mp hq
        exact h7 q0 h0
      have hdg : ∀ j, (dg (LL.map (·.2)) j).length ≤ 7 := fun j => by
        unfold dg
        cases e : (LL.map (·.2))[j]? with
        | none => exact Nat.zero_le _
        | some q => exact h7' q (List.mem_of_getElem? e)
      have tB := few_le h7'
      rw [eL] at tB
      have kB := keysL_le v1 hdg LL.length l6
      -- its keys, its trees
      refine ⟨fun σ' Gb => ∃ due : Int, σ' = [some (.ref d), some (.ref pl), some (.ref x), some (.ref sz), y4, y5, y6, some (.ref p), some (.int (0 + (i : Nat))), some (.int due), some (.int (((LL.map (·.2)).map List.length).sum : Nat)), y11, y12, none, none] ∧ (Exist leaf M1 (LL.map (·.2)) → due = ((keysL leaf M1 (LL.map (·.2)) LL.length).sum : Nat)) ∧ (¬ Exist leaf M1 (LL.map (·.2)) → due = -1) ∧ Same Ga Gb, ?_, ?_⟩
      · refine ⟨_, rfl, _, rfl, pl, mk, p, leaf, kvs, M, M1, LL, rfl, ga.epl, ga.emk, ga.hM, hV, hO, hR, l6, fun due Gb hy hn s1 => ?_⟩
        have hR1 := hR.same s1
        refine ⟨_, rfl, p, rfl, ⟨_, hR1.e⟩, fun D hD => ?_⟩
        refine lc_it (g := gName 14) (tt := tYes) (vs := [14]) (walk_tup (K := K) (a := p) (xs := LL.map fun q => V.ref q.1)) (fun j G' => G' D = some (.lst (((LL.take j).map fun q => ((q.2.length : Nat) : Int)).map V.int)) ∧ Same Gb G')
          ⟨upd_same, same_new (Same.refl Gb) hD⟩ (fun j G' _ h => sqT_sm h.2 hR1.e) (fun j u Gx G' hj h hy => ?_) (fun G' h => ?_)
        · obtain ⟨eD, sm⟩ := h
          obtain ⟨rfl, hu⟩ := hy
          have hu : (LL.map fun q => V.ref q.1)[j]? = some u := hu
          rw [List.getElem?_map] at hu
          obtain ⟨q0, hq0, rfl⟩ := Option.map_eq_some_iff.mp hu
          have hs := sqT_sm sm (hR1.t q0 (List.mem_of_getElem? hq0))
          refine ⟨rfl, _, rfl, q0.1, _, rfl, .inr hs, ?_⟩
          rw [List.length_map]
          refine ⟨_, eD, ?_, ?_, fun b o e => by rw [upd_ne (ne_of_none e hD)]; exact sm b o e⟩
          · rw [List.length_map, List.length_map, List.length_take]
            omega
          · rw [upd_same, take_snoc hq0, List.map_append, List.map_append]
            rfl
        · obtain ⟨eD, sm⟩ := h
          rw [List.length_map, List.take_length] at eD
          refine ⟨D, _, rfl, .inl (.inl eD), ?_⟩
          have h1 := len_sum (LL.map (·.2))
          rw [List.map_map] at h1
          rw [show ((LL.map fun q => ((q.2.length : Nat) : Int))).sum = _ from h1]
          exact ⟨_, _, rfl, due, rfl, hy, hn, fun b o e => sm _ _ (s1 _ _ e)⟩
      rintro σ' Gb ⟨due, rfl, hy, hn, s1⟩
      have gb := ga.sm s1
      have hRb := hR.same s1
      clear ga hR s1
      have hdue : due.natAbs < 10 ^ 12 := by
        by_cases c : Exist leaf M1 (LL.map (·.2))
        · rw [hy c, Int.natAbs_natCast]
          have h1 : LL.length * 5103 ≤ 6 * 5103 := Nat.mul_le_mul_right _ l6
          exact Nat.lt_of_le_of_lt (Nat.le_trans kB h1) (by decide)
        · rw [hn c]
          decide
      -- whether it is due
      refine ⟨fun σ' Gc => ∃ b : Bool, σ' = [some (.ref d), some (.ref pl), some (.ref x), some (.ref sz), y4, y5, y6, some (.ref p), some (.int (0 + (i : Nat))), some (.int due), some (.int (((LL.map (·.2)).map List.length).sum : Nat)), some (.bl b), y12, none, none] ∧ (b = true ↔ RowOk leaf M1 (LL.map (·.2))) ∧ Same Gb Gc, ?_, ?_⟩
      · refine ⟨_, rfl, _, _, rfl, rfl, _, rfl, ?_⟩
        by_cases c : Exist leaf M1 (LL.map (·.2))
        · have e0 : (0 : Int) ≤ due := by rw [hy c]; exact Int.natCast_nonneg _
          rw [decide_eq_true e0]
          show (if true = true then _ else _)
          rw [if_pos rfl]
          refine ⟨_, rfl, p, rfl, ⟨_, hRb.e⟩, fun D hD => ?_⟩
          refine lc_it (g := gName 14) (vs := [14]) (walk_tup (K := K) (a := p) (xs := LL.map fun q => V.ref q.1)) (fun j G' => G' D = some (.lst (((LL.take j).filter fun q => decide (3 < q.2.length)).map fun q => V.ref q.1)) ∧ Same Gb G')
            ⟨upd_same, same_new (Same.refl Gb) hD⟩ (fun j G' _ h => sqT_sm h.2 hRb.e) (fun j u Gx G' hj h hy => ?_) (fun G' h => ?_)
          · obtain ⟨eD, sm⟩ := h
            obtain ⟨rfl, hu⟩ := hy
            have hu : (LL.map fun q => V.ref q.1)[j]? = some u := hu
            rw [List.getElem?_map] at hu
            obtain ⟨q0, hq0, rfl⟩ := Option.map_eq_some_iff.mp hu
            have hs := sqT_sm sm (hRb.t q0 (List.mem_of_getElem? hq0))
            refine ⟨rfl, _, rfl, q0.1, _, rfl, .inr hs, _, _, rfl, rfl, _, rfl, ?_⟩
            rw [List.length_map, take_snoc hq0, List.filter_append]
            by_cases c3 : 3 < q0.2.length
            · have e3 : [q0].filter (fun q => decide (3 < q.2.length)) = [q0] := by simp [c3]
              rw [decide_eq_true (show ((3 : Int) < ((q0.2.length : Nat) : Int)) by omega), e3]
              show (if true = true then _ else _)
              rw [if_pos rfl]
              refine ⟨_, rfl, _, eD, ?_, ?_, fun b o e => by rw [upd_ne (ne_of_none e hD)]; exact sm b o e⟩
              · rw [List.length_map]
                have := List.length_filter_le (fun q : Addr × List Str => decide (3 < q.2.length)) (LL.take j)
                rw [List.length_take] at this
                exact Nat.lt_of_le_of_lt (show _ ≤ 6 by omega) (by decide)
              · rw [upd_same, List.map_append]
                rfl
            · have e3 : [q0].filter (fun q => decide (3 < q.2.length)) = [] := by simp [c3]
              rw [decide_eq_false (show ¬ ((3 : Int) < ((q0.2.length : Nat) : Int)) by omega), e3, List.append_nil]
              show (if false = true then _ else _)
              rw [if_neg (by decide)]
              exact ⟨eD, sm⟩
          · obtain ⟨eD, sm⟩ := h
            rw [List.length_map, List.take_length] at eD
            refine ⟨by show 0 ≤ sizeLine; omega, fun l0 nl0 => ?_⟩
            have s2 := same_new (o := .lst []) sm nl0
            have eD2 : (upd G' l0 (.lst [])) D = some (.lst ((LL.filter fun q => decide (3 < q.2.length)).map fun q => V.ref q.1)) := by
              rw [upd_ne (ne_of_none eD nl0)]
              exact eD
            have hT : TxtsAt K (upd G' l0 (.lst [])) (LL.filter fun q => decide (3 < q.2.length)) := fun q hq => (hRb.same s2).t q (List.mem_filter.mp hq).1
            have hsh : ∀ {xs : List PyData}, SeqAt.shaped (.tuple xs) = true → SeqAt.shaped (.list xs) = true := fun h => h
            refine ⟨.list (((LL.filter fun q : Addr × List Str => decide (3 < q.2.length)).map fun q : Addr × List Str => q.2).map fun z => .tuple (tD z)), .list [], .lst (.inl (.inl eD2)) (dp_refs hT), .lst (.inl (.inl upd_same)) .nil, hsh (row_shaped fun q hq => ?_), rfl, ?_⟩
            · obtain ⟨q0, h0, rfl⟩ := List.mem_map.mp hq
              exact good_ok ((loose_facts hL).2.1 _ (List.mem_map.mpr ⟨q0, (List.mem_filter.mp h0).1, rfl⟩))
            rw [PyData.eqv, show PyData.eqvAll (((LL.filter fun q => decide (3 < q.2.length)).map (·.2)).map fun z => PyData.tuple (tD z)) [] = _ from eqv_rows _ []]
            refine ⟨_, rfl, ?_, s2⟩
            rw [decide_eq_true_iff, List.map_eq_nil_iff, List.filter_eq_nil_iff]
            unfold RowOk
            constructor
            · intro h
              refine ⟨hL, by rw [eL]; omega, fun q hq => ?_, c⟩
              obtain ⟨q0, h0, rfl⟩ := List.mem_map.mp hq
              have := h q0 h0
              simpa using this
            · intro h q hq
              have := h.2.2.1 q.2 (List.mem_map.mpr ⟨q, hq, rfl⟩)
              simpa using this
        · rw [hn c]
          rw [show decide ((0 : Int) ≤ -1) = false from rfl]
          show (if false = true then _ else _)
          rw [if_neg (by decide)]
          exact ⟨false, rfl, ⟨fun h => (by cases h), fun h => absurd h.2.2.2 c⟩, Same.refl Gb⟩
      rintro σ' Gc ⟨b, rfl, hb, s2⟩
      have gc := gb.sm s2
      have hRc := hRb.same s2
      clear gb hRb s2
      -- what is told of it
      refine ⟨fun σ' Gd => σ' = [some (.ref d), some (.ref pl), some (.ref x), some (.ref sz), y4, y5, y6, some (.ref p), some (.int (0 + (i : Nat))), some (.int due), some (.int (((LL.map (·.2)).map List.length).sum : Nat)), some (.bl b), y12, none, none] ∧ Same Gc Gd, ?_, ?_⟩
      · refine ⟨_, rfl, _, rfl, x, md, _, leaf, M1, ns, rfl, gc.hK, v1, .inr ⟨p, LL, rfl, hRc, hF, fun b2 G4 hb2 s4 => ?_⟩⟩
        have eb : b2 = b := Bool.eq_iff_iff.mpr (hb2.trans hb.symm)
        refine ⟨_, rfl, _, rfl, x, md, _, leaf, M1, ns, rfl, gc.hK.same s4, v1, .inr ⟨p, LL, rfl, hRc.same s4, hL, fun i2 G5 hy2 hn2 s5 => ?_⟩⟩
        have ei : i2 = due := by
          by_cases c : Exist leaf M1 (LL.map (·.2))
          · rw [hy2 c, hy c]
          · rw [hn2 c, hn c]
        rw [eb, ei]
        refine ⟨_, rfl, p, LL, rfl, (hRc.same s4).same s5, hF, hL, fun G6 s6 => ?_⟩
        have tI : ((((LL.map (·.2)).map List.length).sum : Nat) : Int).natAbs < 10 ^ 12 := by
          rw [Int.natAbs_natCast]
          exact Nat.lt_of_le_of_lt (show _ ≤ 42 by omega) (by decide)
        generalize ((((LL.map (·.2)).map List.length).sum : Nat) : Int) = tr at tI
        have hSm : Sm 126 1 (.list [.bool b, .int due, .int tr]) := Sm.lst (B := 41) (k := 0) (n := 3) (fun e he => by
          simp only [List.mem_cons, List.not_mem_nil, or_false] at he
          rcases he with rfl | rfl | rfl
          · exact Sm.bool b
          · exact Sm.intB hdue (by decide)
          · exact Sm.intB tI (by decide)) (by show 3 ≤ 3; omega) (by decide) (by decide)
        obtain ⟨r1, r2, r3, r4⟩ := hSm.repr (by decide) (by decide)
        have hdp : DpAll K G6 [V.bl b, V.int due, V.int tr] [.bool b, .int due, .int tr] := .cons (.bl b) (.cons (.int due) (.cons (.int tr) .nil))
        refine ⟨by show 3 ≤ sizeLine; omega, fun l1 nl1 => ?_⟩
        have s7 := same_new (o := .lst [V.bl b, V.int due, V.int tr]) (Same.refl G6) nl1
        refine ⟨.ref l1, _, rfl, .lst (.inl (.inl upd_same)) (.cons (.bl b) (.cons (.int due) (.cons (.int tr) .nil))), r1, r2, r3, r4, ?_⟩
        generalize upd G6 l1 (.lst [V.bl b, V.int due, V.int tr]) = G7 at s7
        refine ⟨_, rfl, _, rfl, _, rfl, by show 3 ≤ sizeLine; omega, fun l2 nl2 => ?_⟩
        have s8 := same_new (o := .lst [V.bl b, V.int due, V.int tr]) (Same.refl G7) nl2
        refine ⟨.ref l2, _, rfl, .lst (.inl (.inl upd_same)) (.cons (.bl b) (.cons (.int due) (.cons (.int tr) .nil))), r1, r2, r3, r4, ?_⟩
        generalize upd G7 l2 (.lst [V.bl b, V.int due, V.int tr]) = G8 at s8
        generalize (PyData.list [.bool b, .int due, .int tr]).shown = sh
        refine ⟨rfl, _, rfl, ?_⟩
        show (if (!decide (V.str sh = V.str sh)) = true then _ else _)
        rw [decide_eq_true (rfl : V.str sh = V.str sh), if_neg (by decide)]
        exact ⟨rfl, fun b o e => s8 _ _ (s7 _ _ (s6 _ _ (s5 _ _ (s4 _ _ e))))⟩
      rintro σ' Gd ⟨rfl, s3⟩
      have gd := gc.sm s3
      have hRd := hRc.same s3
      clear gc hRc s3
      -- what is no row
      refine ⟨_, rfl, _, rfl, d, p, LL, rfl, gd.hd, hRd, hL, l6, fun bl us G4 sx hd4 ebl lus hus => ?_⟩
      have g4 := gd.step sx hd4
      refine ⟨bl, rfl, ⟨_, .inl (.inl ebl)⟩, ?_⟩
      refine for_it (walk_list (K := K) (a := bl) (xs := us)) (fun k σ' G' => ∃ (y12 : Option V), σ' = [some (.ref d), some (.ref pl), some (.ref x), some (.ref sz), y4, y5, y6, some (.ref p), some (.int (0 + (i : Nat))), some (.int due), some (.int (((LL.map (·.2)).map List.length).sum : Nat)), some (.bl b), y12, none, none] ∧ Same G4 G')
        ⟨y12, rfl, Same.refl G4⟩ (fun k σ' G' _ h => by obtain ⟨_, _, s⟩ := h; exact .inl (.inl (s _ _ ebl))) (fun k v σ' Gx G' hk h hy => ?_) (fun σ' G' h => ?_)
      · obtain ⟨y12, rfl, s5⟩ := h
        obtain ⟨rfl, hv⟩ := hy
        have hno := (hus v (List.mem_of_getElem? hv)).same s5
        have hK5 := g4.hK.same s5
        refine or_mid (fun b Gx => b = false ∧ Same G' Gx) (fun Q' hQ' => ?_) (fun b Gx hb => ?_)
        · refine ⟨_, rfl, _, rfl, x, md, v, leaf, M1, ns, rfl, hK5, v1, .inl ⟨hno, fun G6 s6 => ?_⟩⟩
          refine ⟨false, false, rfl, rfl, _, rfl, ?_⟩
          show (if (!decide (false = false)) = true then _ else _)
          rw [if_neg (by decide)]
          refine ⟨_, rfl, v, rfl, .inl ⟨hno.same s6, fun G7 s7 => ?_⟩⟩
          refine ⟨false, false, rfl, rfl, _, rfl, ?_⟩
          show (if (!decide (false = false)) = true then _ else _)
          rw [if_neg (by decide)]
          refine ⟨_, rfl, _, rfl, x, md, v, leaf, M1, ns, rfl, (hK5.same s6).same s7, v1, .inl ⟨(hno.same s6).same s7, fun G8 s8 => ?_⟩⟩
          refine ⟨_, _, rfl, rfl, rfl, _, rfl, ?_⟩
          show Q' false _
          exact hQ' _ _ ⟨rfl, fun b o e => s8 _ _ (s7 _ _ (s6 _ _ e))⟩
        obtain ⟨rfl, s6⟩ := hb
        show (if false = true then _ else _)
        rw [if_neg (by decide)]
        exact ⟨_, rfl, fun b o e => s6 _ _ (s5 _ _ e)⟩
      · obtain ⟨y12, rfl, s5⟩ := h
        exact ⟨_, _, _, _, _, _, _, _, _, rfl, g4.sm s5⟩
    rintro σ' G3 ⟨y4, y5, y6, y7, y8, y9, y10, y11, y12, rfl, g3⟩
    exact q _ g3.sx
end
end Kl

set_option maxRecDepth 100000
set_option maxHeartbeats 4000000
namespace Kl
open PySem PySem.Spec PyProof.Rows L2 Gx Mx
/-! ### great rows of ones: the mathematics -/
def onesQ (n : Nat) : List (List Str) := List.replicate n ([("a" : Str)] : List Str)
def pw : Nat → Nat
  | 0 => 1
  | n + 1 => 2 * pw n
theorem pw_two (n : Nat) : pw (n + 2) = 4 * pw n := by
  show 2 * (2 * pw n) = _
  omega
theorem pw_succ (n : Nat) : pw (n + 1) = 2 * pw n := rfl
theorem pw_one : pw (0 + 1) = 1 + 1 := rfl
theorem onesQ_len (n : Nat) : (onesQ n).length = n := List.length_replicate
theorem onesQ_at {n i : Nat} (h : i < n) : dg (onesQ n) i = ([("a" : Str)] : List Str) := by
  unfold dg onesQ
  rw [List.getElem?_replicate, if_pos h]
  rfl
theorem good_one : goodB ["a"] = true := by decide +kernel
theorem onesQ_loose (n : Nat) : looseB (onesQ n) = decide (n ≤ 402) := by
  have e1 : (onesQ n).all goodB = true := List.all_eq_true.mpr fun q hq => by
    rw [(List.mem_replicate.mp hq).2]
    exact good_one
  have e2 : (onesQ n).drop (n - 1) ≠ [[]] := fun h => by
    have hm : ([] : List Str) ∈ (onesQ n).drop (n - 1) := by rw [h]; exact List.mem_singleton.mpr rfl
    have h2 := (List.mem_replicate.mp (List.mem_of_mem_drop hm)).2
    cases h2
  unfold looseB
  rw [onesQ_len, e1, decide_eq_false e2, Bool.and_true]
  show (decide (n ≤ 402) && true) = _
  rw [Bool.and_true]
theorem onesQ_few {n : Nat} (h : n ≤ 1000) : Few (onesQ n) := by
  refine ⟨by rw [onesQ_len]; exact h, fun q hq => ?_⟩
  rw [(List.mem_replicate.mp hq).2]
  refine ⟨by show 1 ≤ 1000; omega, fun z hz => ?_⟩
  rw [List.mem_singleton.mp hz]
  decide +kernel
structure Aa (M : Mak) : Prop where
  v : Vld "a" M
  lk : lookM M "a" = some (["a", "a"] : List Str)
theorem Aa.mem {M : Mak} (h : Aa M) : ∀ r, ("a" : Str) ∈ setR "a" M r
  | 0 => mem_zero.mpr rfl
  | r + 1 => (mem_succ h.v.nd).mpr ⟨_, h.lk, fun p hp => by
    simp only [List.mem_cons, List.not_mem_nil, or_false, or_self] at hp
    rw [hp]
    exact h.mem r⟩
theorem Aa.siz {M : Mak} (h : Aa M) : ∀ r, siz "a" M r "a" = pw r
  | 0 => siz_zero _ _
  | r + 1 => by
    rw [siz_succ h.v.nd h.lk (fun p hp => by
      simp only [List.mem_cons, List.not_mem_nil, or_false, or_self] at hp
      rw [hp]
      exact h.mem r)]
    show Kl.siz "a" M r "a" + (Kl.siz "a" M r "a" + 0) = 2 * pw r
    rw [h.siz r]
    omega
theorem Aa.exist {M : Mak} (h : Aa M) (n : Nat) : Exist "a" M (onesQ n) := fun i z hz => by
  by_cases c : i < n
  · rw [onesQ_at c, List.mem_singleton] at hz
    rw [hz]
    exact h.mem i
  · rw [dg_none (by rw [onesQ_len]; omega)] at hz
    cases hz
theorem Aa.keys {M : Mak} (h : Aa M) (n : Nat) : ∀ j, j ≤ n → (keysL "a" M (onesQ n) j).sum + 1 = pw j
  | 0, _ => rfl
  | j + 1, hj => by
    have ih := h.keys n j (by omega)
    rw [keysL_siz, onesQ_at (by omega)]
    show (keysL "a" M (onesQ n) j).sum + (Kl.siz "a" M j "a" + 0) + 1 = 2 * pw j
    rw [h.siz j]
    omega
theorem Aa.row {M : Mak} (h : Aa M) (n : Nat) : RowOk "a" M (onesQ n) ↔ n ≤ 400 := by
  unfold RowOk
  rw [onesQ_loose, onesQ_len, decide_eq_true_iff]
  refine ⟨fun z => z.2.1, fun z => ⟨by omega, z, fun q hq => ?_, h.exist n⟩⟩
  rw [(List.mem_replicate.mp hq).2]
  show 1 ≤ 3
  omega
theorem onesQ_sum : ∀ n, ((onesQ n).map List.length).sum = n
  | 0 => rfl
  | n + 1 => by
    have ih := onesQ_sum n
    unfold onesQ at ih ⊢
    rw [List.replicate_succ, List.map_cons, List.sum_cons, ih]
    show 1 + n = n + 1
    omega
def toldI (M : Mak) (n : Nat) : Int := if n ≤ 402 then (((keysL "a" M (onesQ n) n).sum : Nat) : Int) else -1
theorem told_400 {M : Mak} (h : Aa M) {o : Nat} (ho : o + 1 = pw 400) : toldI M 400 = (o : Nat) := by
  have h1 := h.keys 400 400 (Nat.le_refl _)
  unfold toldI
  rw [if_pos (by omega)]
  omega
theorem told_402 {M : Mak} (h : Aa M) {o : Nat} (ho : o + 1 = pw 400) : toldI M 402 = 4 * (o : Nat) + 3 := by
  have h1 := h.keys 402 402 (Nat.le_refl _)
  have h2 : pw 402 = 4 * pw 400 := pw_two 400
  unfold toldI
  rw [if_pos (by omega)]
  omega
theorem told_403 (M : Mak) : toldI M 403 = -1 := by
  unfold toldI
  rw [if_neg (by omega)]
/-! ### what stands at the law's end -/
def lastD (u v : Int) : PyData := .list [.int u, .int v, .int (-1), .bool true, .int 0, .int 0, .bool false, .int 402]
theorem last_eqv (u v : Int) : PyData.eqv (lastD u v) (lastD u v) = true := by simp [lastD, PyData.eqv, PyData.eqvAll]
theorem last_shaped (u v : Int) : SeqAt.shaped (lastD u v) = true := by rfl
def midD : PyData := .list [.bool true, .bool true, .bool false, .bool false, .bool false, .bool true, .bool true, .bool false]
theorem mid_eqv : PyData.eqv midD midD = true := by decide +kernel
theorem mid_shaped : SeqAt.shaped midD = true := by decide +kernel
def onesL (a : Addr) (n : Nat) : List (Addr × List Str) := List.replicate n (a, ["a"])
theorem onesL_qs (a : Addr) (n : Nat) : (onesL a n).map (·.2) = onesQ n := List.map_replicate
theorem onesL_len (a : Addr) (n : Nat) : (onesL a n).length = n := List.length_replicate
section
variable {P : Program} {w : World} {K : PySem.W.Frag} {mg : Str → Option Value} {base : Heap}
/-! ### _law_ones -/
def spOnes (K : PySem.W.Frag) : Sp := fun vs H Q _ => ∃ n : Nat, vs = [.int (n : Nat)] ∧ n ≤ 1000 ∧ ∀ (p a1 : Addr) H', Same H H' → RowAt K H' p (onesL a1 n) → Q (.ref p) H'
theorem ok_ones {f : Addr} {fd : FuncData} (F : Fun K "_law_ones" "_law_ones" s_law_ones f fd) (T : Top K mg) : FnOk P w K mg base CX0 1 f fd ["_law_many"] (spOnes K) := by
  refine F.ok sc_law_ones (fun vs H Q E h => ?_) (fun cdv A outer s H vs Q E hr h => ?_)
  · obtain ⟨n, rfl, _⟩ := h
    rfl
  · obtain ⟨n, rfl, hn, q⟩ := h
    refine ⟨_, pss_one (ps_ret (pe_op op_repS (pe_tup (pa_cons (pe_tup (pa_cons pe_str pa_nil)) pa_nil)) (pv 0))), ?_⟩
    refine ⟨by show 1 ≤ sizeLine; decide, fun a1 n1 => ⟨by show 1 ≤ sizeLine; decide, fun t1 nt1 => ?_⟩⟩
    have t2 := same_new (o := .tup [V.str "a"]) (Same.refl H) n1
    have ee1 : (upd H a1 (.tup [V.str "a"])) a1 = some (.tup [V.str "a"]) := upd_same
    generalize upd H a1 (.tup [V.str "a"]) = Ga at t2 ee1 nt1
    have t3 := same_new (o := .tup [V.ref a1]) (Same.refl Ga) nt1
    have et1 : (upd Ga t1 (.tup [V.ref a1])) t1 = some (.tup [V.ref a1]) := upd_same
    generalize upd Ga t1 (.tup [V.ref a1]) = Gb at t3 et1
    refine ⟨_, rfl, t1, n, _, rfl, rfl, .inl (.inl et1), (fun h => by cases h), hn, by show 1 ≤ 1000; omega, fun p Gc t4 hp => ?_⟩
    rw [rep_one] at hp
    refine q p a1 Gc (fun b o e => t4 _ _ (t3 _ _ (t2 _ _ e))) ⟨?_, fun q hq => ?_⟩
    · unfold onesL
      rw [List.map_replicate]
      exact hp
    · rw [(List.mem_replicate.mp hq).2]
      exact .inl (.inl (t4 _ _ (t3 _ _ ee1)))
end
end Kl

set_option maxRecDepth 100000
set_option maxHeartbeats 4000000
namespace Kl
open PySem PySem.Spec PyProof.Rows L2 Gx Mx
section
variable {P : Program} {w : World} {K : PySem.W.Frag} {mg : Str → Option Value} {base : Heap}
/-! ### the law -/
theorem sqL_samex {d a : Addr} {H H' : Hp} {xs : List V} (n : H d = none) (s : SameX d H H') (h : SqL K H a xs) : SqL K H' a xs := by
  rcases h with (h | ⟨o, h⟩) | h
  · exact .inl (.inl (s _ _ (ne_of_none h n) h))
  · exact .inl (.inr ⟨o, s _ _ (ne_of_none h n) h⟩)
  · exact .inr h
abbrev NLW : List Str := ["_law_script", "_law_spot", "_law_kinds", "_law_ones_here", "_law_turn", "_law_told_here", "_law_many"]
def spLaw (K : PySem.W.Frag) : Sp := fun vs H Q _ => ∃ (a : Addr) (ns : List Int), vs = [.ref a] ∧ SqL K H a (ns.map V.int) ∧ ns.length ≤ 63 ∧ ∀ H', Q (.bl true) H'
theorem ok_law {f : Addr} {fd : FuncData} (F : Fun K "law" "law" s_law f fd) (T : Top K mg) : FnG P w K mg base CX0 11 f fd ["_law_script"] (spLaw K) := by
  obtain ⟨C, TC⟩ := T.c_Kinds
  obtain ⟨Co, XO, XC, te⟩ := T.p_InvalidRow
  have kI : CalI P w K mg base C 9 ["self", "leaf", "makings"] (spInit C) := by
    obtain ⟨f, fd, m, F, b⟩ := TC.made
    exact ⟨f, fd, m, (ok_init F T TC).mono (by decide), b⟩
  have ci : Cal P w K mg base 10 "_law_dice" ["_law_script", "_law_spot"] (spDice K) := (T.d_law_dice.cal fun f fd F => ok_dice F T).mono (by decide)
  have cg : CalG P w K mg base 10 "_law_right" ["_law_dice_here"] spRG := T.d_law_right.calG fun f fd F => ok_rg F T
  have cn : Cal P w K mg base 10 "_law_ones" ["_law_many"] (spOnes K) := (T.d_law_ones.cal fun f fd F => ok_ones F T).mono (by decide)
  have co : Cal P w K mg base 10 "is_row" ["kinds", "value"] (spRowN K C) := (T.d_is_row.cal fun f fd F => ok_rowN F T TC).mono (by decide)
  have cl : Cal P w K mg base 10 "is_loose" ["value"] (spLooseN K) := (T.d_is_loose.cal fun f fd F => ok_looseN F T).mono (by decide)
  have cy : Cal P w K mg base 10 "keys_of" ["kinds", "row"] (spKeys K C) := (T.d_keys_of.cal fun f fd F => ok_keys F T TC).mono (by decide)
  have ct : Cal P w K mg base 10 "trees_of" ["row"] (spTrees K) := (T.d_trees_of.cal fun f fd F => ok_trees F T).mono (by decide)
  have cd : CalG P w K mg base 10 "_law_told" ["_law_kinds", "_law_row"] (spTold2 K C) := CalG.up (T.d_law_told.calG fun f fd F => ok_told2 F T TC XO XC te) (by decide)
  refine okG F sc_law (fun vs H Q E h => ?_) (fun cdv A outer s H vs Q E hg hr h => ?_)
  · obtain ⟨a, ns, rfl, _⟩ := h
    rfl
  · obtain ⟨a, ns, rfl, hS, hlen, q⟩ := h
    refine ⟨_, pss_cut (ps_for PassesOwn.never rfl (pi_range1 (by rfl) T.b_range (pa_cons (pe_callB (call_max2 rfl) (by rfl) T.b_max (by decide +kernel) (pa_cons pe_int (pa_cons
          (pe_callB (call_min2 rfl) (by rfl) T.b_min (by decide +kernel) (pa_cons pe_int (pa_cons (pe_callB call_len_seq (by rfl) T.b_len PySem.boot_len (pa_cons (pv 0) pa_nil)) pa_nil))) pa_nil))) pa_nil))
          (pg_name (i := 1) sc_law.nd rfl (.inl rfl))
        (pss_one (ps_if (pt_not (pt_val (pe_calG cg hg hr (by rfl) (pa_cons (pe_cal ci hr (by rfl) (pa_cons (pv 0) (pa_cons (pv 1) pa_nil))) pa_nil)))) (pss_one (ps_ret pe_bl)) pss_nil)))
      (pss_cut (ps_asg (pe_tup (pa_cons (pe_makeC kI hr (by rfl) TC.gC (pa_cons pe_str (pa_cons (pe_disp (pps_cons pe_str (pe_tupZ (pa_cons pe_str (pa_cons pe_str pa_nil))) pps_nil) rfl rfl (by decide) (by decide)) pa_nil))) (pa_cons pe_int pa_nil)))
          (pg_tup (n := 2) rfl (pgs_cons (pg_name (i := 2) sc_law.nd rfl (.inr rfl)) (pgs_cons (pg_name (i := 3) sc_law.nd rfl (.inl rfl)) pgs_nil))))
      (pss_cut (ps_for PassesOwn.never rfl (pi_range1 (by rfl) T.b_range (pa_cons pe_int pa_nil)) (pg_name (i := 4) sc_law.nd rfl (.inl rfl))
        (pss_one (ps_set (i := 3) sc_law.nd rfl (.inl rfl) (pe_op op_add (pe_op op_mul pe_int (pv 3)) pe_int))))
      (pss_cut (ps_setLc (i := 5) (own := [("_law_many", 6)]) (g := gName 6) (tt := tYes) (by rfl) sc_law.nd rfl rfl (sw_true rfl rfl rfl (by decide +kernel)) (pi_tup (pe_tup (pa_cons pe_int (pa_cons pe_int (pa_cons pe_int (pa_cons pe_int (pa_cons pe_int pa_nil)))))))
          (blkOk_by (N := NLW) (sc := defScope s_law) (by decide +kernel)) (fun _ _ _ _ _ => pg_name (i := 6) sc_law.nd rfl (.inl rfl)) (fun _ _ _ _ _ => pts_nil)
          (fun _ _ _ _ _ => pe_cal co hr (by rfl) (pa_cons (pv 2) (pa_cons (pe_cal cn hr (by rfl) (pa_cons (pv 6) pa_nil)) pa_nil))))
      (pss_cut (ps_set (i := 5) sc_law.nd rfl (.inl rfl) (pe_op op_cat (pv 5) (pe_lc (own := [("_law_many", 6)]) (g := gName 6) (tt := tYes) rfl sc_law.nd (pi_tup (pe_tup (pa_cons pe_int (pa_cons pe_int (pa_cons pe_int pa_nil)))))
          (blkOk_by (N := NLW) (sc := defScope s_law) (by decide +kernel)) (fun _ _ _ _ _ => pg_name (i := 6) sc_law.nd rfl (.inl rfl)) (fun _ _ _ _ _ => pts_nil)
          (fun _ _ _ _ _ => pe_cal cl hr (by rfl) (pa_cons (pe_cal cn hr (by rfl) (pa_cons (pv 6) pa_nil)) pa_nil)))))
      (pss_cut (ps_if (pt_cmpR (op_neD hr.units) (pv 5) (pe_lst (pa_cons pe_bl (pa_cons pe_bl (pa_cons pe_bl (pa_cons pe_bl (pa_cons pe_bl (pa_cons pe_bl (pa_cons pe_bl (pa_cons pe_bl pa_nil))))))))) (by rfl)) (pss_one (ps_ret pe_bl)) pss_nil)
      (pss_cut (ps_setLc (i := 5) (own := [("_law_many", 6)]) (g := gName 6) (tt := tYes) (by rfl) sc_law.nd rfl rfl (sw_true rfl rfl rfl (by decide +kernel)) (pi_tup (pe_tup (pa_cons pe_int (pa_cons pe_int (pa_cons pe_int pa_nil)))))
          (blkOk_by (N := NLW) (sc := defScope s_law) (by decide +kernel)) (fun _ _ _ _ _ => pg_name (i := 6) sc_law.nd rfl (.inl rfl)) (fun _ _ _ _ _ => pts_nil)
          (fun _ _ _ _ _ => pe_calG cd hg hr (by rfl) (pa_cons (pv 2) (pa_cons (pe_cal cn hr (by rfl) (pa_cons (pv 6) pa_nil)) pa_nil))))
      (pss_cut (ps_set (i := 5) sc_law.nd rfl (.inl rfl) (pe_op op_cat (pv 5) (pe_lst (pa_cons (pe_cal co hr (by rfl) (pa_cons (pv 2) (pa_cons (pe_tup pa_nil) pa_nil)))
          (pa_cons (pe_cal cy hr (by rfl) (pa_cons (pv 2) (pa_cons (pe_tup pa_nil) pa_nil)))
          (pa_cons (pe_cal ct hr (by rfl) (pa_cons (pe_tup pa_nil) pa_nil))
          (pa_cons (pe_cal co hr (by rfl) (pa_cons (pv 2) (pa_cons (pe_tup (pa_cons (pe_op op_repS (pe_tup (pa_cons pe_str pa_nil)) pe_int) pa_nil)) pa_nil))) pa_nil)))))))
      (pss_cut (ps_expr (pe_bm PySem.F.plainAttrs_list PySem.F.slot_list_append PySem.F.type_list_append mt_append (pv 5) (pa_cons (pe_cal ct hr (by rfl) (pa_cons (pe_cal cn hr (by rfl) (pa_cons pe_int pa_nil)) pa_nil)) pa_nil)))
      (pss_one (ps_ret (pe_cmpR (op_eqD hr.units) (pv 5) (pe_lst (pa_cons (pv 3) (pa_cons (pe_op op_add (pe_op op_mul pe_int (pv 3)) pe_int) (pa_cons (pe_op op_sub pe_int pe_int) (pa_cons pe_bl (pa_cons pe_int (pa_cons pe_int (pa_cons pe_bl (pa_cons pe_int pa_nil))))))))) (by rfl)))))))))))), ?_⟩
    have big : 100000 ≤ sizeLine := by decide
    refine ⟨fun σ' G => ∃ (y1 : Option V), σ' = [some (.ref a), y1, none, none, none, none, none], ?_, ?_⟩
    · refine ⟨_, rfl, a, _, rfl, .inl hS, _, _, rfl, _, _, rfl, _, rfl, ?_, ?_, ?_⟩
      · split <;> split <;> omega
      · split <;> split <;> omega
      refine for_range (lo := 0) (fun i σ' G => ∃ (y1 : Option V), σ' = [some (.ref a), y1, none, none, none, none, none] ∧ SqL K G a (ns.map V.int)) ⟨_, rfl, hS⟩ (fun i σ' G hi hP => ?_) (fun σ' G hP => by obtain ⟨y1, e, _⟩ := hP; exact ⟨y1, e⟩)
      obtain ⟨y1, rfl, hSG⟩ := hP
      refine ⟨_, rfl, _, rfl, a, ns, i, ?_, hSG, hlen, ?_, fun d x0 b0 nd => ?_⟩
      · show [V.ref a, V.int (0 + (i : Int))] = _
        rw [Int.zero_add]
      · have : i < 5 := by
          revert hi
          split <;> split <;> omega
        omega
      refine ⟨d, rfl, ⟨x0, b0, 0, upd_same⟩, fun G2 sx2 => ⟨_, rfl, ?_⟩⟩
      show (if (!true) = true then _ else _)
      rw [if_neg (by decide)]
      exact ⟨_, rfl, sqL_samex nd ((SameX.refl d G).atd.trans sx2) hSG⟩
    rintro σ' G0 ⟨y1, rfl⟩
    -- the kinds
    refine ⟨fun σ' G => ∃ (x md : Addr) (M1 : Mak) (ns : List Str), σ' = [some (.ref a), y1, some (.ref x), some (.int 1), none, none, none] ∧ KindsAt C G x md "a" M1 ns ∧ Aa M1, ?_, ?_⟩
    · refine fun p0 np0 => ⟨by show 2 ≤ sizeLine; omega, fun t0 H0 z0 n0 k0 => ?_⟩
      refine ⟨same_k n0 k0 _ _ upd_same, [(Sum.inr "a", .ref t0)], rfl, by show 1 ≤ 15; omega, ?_⟩
      rw [merge_nil (more := [((Sum.inr "a" : Key), V.ref t0)]) (List.nodup_cons.mpr ⟨List.not_mem_nil, List.nodup_nil⟩)]
      obtain ⟨_, kvs, em, hM⟩ := disp_end (kvs := [((Sum.inr "a" : Key), V.ref t0)]) (M := [("a", ["a", "a"])]) np0 (same_k n0 k0) (.cons ⟨rfl, t0, rfl, z0⟩ .nil)
      generalize upd H0 p0 (.dK [((Sum.inr "a" : Key), V.ref t0)]) = GA at em hM
      have hV : Vld "a" [("a", ["a", "a"])] := by
        refine vld_in ["a"] (fun z hz => ?_) (by show 1 ≤ 6; omega) (List.mem_singleton.mpr rfl) (by simp [keysOf]) (by simp [keysOf]) fun m hm => ?_
        · rw [List.mem_singleton.mp hz]
          decide +kernel
        · rw [List.mem_singleton.mp hm]
          exact ⟨srt2 "a", by simp, by simp, by simp⟩
      refine fun x dx nx ndx nxx => ⟨x, dx, "a", p0, kvs, _, rfl, upd_same, ?_, ?_, hV, fun G2 md M' ks hK hOr hN nmd keep => ⟨rfl, ?_⟩⟩
      · rw [upd_ne (ne_of_none em nx), upd_ne (ne_of_none em ndx)]
        exact em
      · exact hM.same fun a xs h => h.at fun o e => by rw [upd_ne (ne_of_none e nx), upd_ne (ne_of_none e ndx)]; exact e
      refine ⟨by show 2 ≤ sizeLine; omega, fun t nt => ⟨t, _, rfl, .inl (.inl upd_same), rfl, _, _, rfl, _, _, rfl, rfl, ?_⟩⟩
      exact ⟨x, md, M', ks, rfl, hK.same (same_new (Same.refl G2) nt), hOr.vld hV, by rw [hOr.look]; decide +kernel⟩
    rintro σ' G ⟨x, md, M1, ks, rfl, hK, hA⟩
    -- the number of keys
    refine ⟨fun σ' G' => ∃ (y4 : Option V) (o : Nat), σ' = [some (.ref a), y1, some (.ref x), some (.int (o : Nat)), y4, none, none] ∧ o + 1 = pw 400 ∧ KindsAt C G' x md "a" M1 ks, ?_, ?_⟩
    · refine ⟨_, rfl, by decide, by decide, ?_⟩
      refine for_range (lo := 0) (n := 399) (fun i σ' G' => ∃ (y4 : Option V) (o : Nat), σ' = [some (.ref a), y1, some (.ref x), some (.int (o : Nat)), y4, none, none] ∧ o + 1 = pw (i + 1) ∧ KindsAt C G' x md "a" M1 ks)
        ⟨none, 1, rfl, pw_one.symm, hK⟩ (fun i σ' G' hi hP => ?_) (fun σ' G' hP => hP)
      obtain ⟨y4, o, rfl, ho, hK1⟩ := hP
      refine ⟨_, rfl, _, _, rfl, rfl, .inl ⟨by decide, by decide⟩, _, _, rfl, rfl, some (.int (0 + (i : Nat))), 2 * o + 1, ?_, ?_, hK1⟩
      · show [some (V.ref a), y1, some (V.ref x), some (V.int (2 * ((o : Nat) : Int) + 1)), some (V.int (0 + (i : Nat))), none, none] = _
        rw [show 2 * ((o : Nat) : Int) + 1 = ((2 * o + 1 : Nat) : Int) by omega]
      · rw [pw_succ, ← ho]
        omega
    clear hK
    rintro σ' G1 ⟨y4, o, rfl, ho, hK1⟩
    -- rows of ones that are judged
    refine ⟨fun σ' G2 => ∃ D : Addr, σ' = [some (.ref a), y1, some (.ref x), some (.int (o : Nat)), y4, some (.ref D), none] ∧ KindsAt C G2 x md "a" M1 ks ∧ G2 D = some (.lst [.bl true, .bl true, .bl false, .bl false, .bl false]), ?_, ?_⟩
    · refine ⟨by show 5 ≤ sizeLine; omega, fun t nt => ?_⟩
      have hKt := hK1.same (same_new (o := .tup [.int 399, .int 400, .int 401, .int 402, .int 403]) (Same.refl G1) nt)
      have et : (upd G1 t (.tup [.int 399, .int 400, .int 401, .int 402, .int 403])) t = some (.tup (([399, 400, 401, 402, 403] : List Nat).map fun n => V.int (n : Nat))) := upd_same
      generalize upd G1 t (.tup [.int 399, .int 400, .int 401, .int 402, .int 403]) = Gt at hKt et
      refine ⟨t, rfl, ⟨_, .inl (.inl et)⟩, fun D hD => ?_⟩
      refine lc_it (g := gName 6) (tt := tYes) (vs := [6]) (walk_tup (K := K) (a := t) (xs := ([399, 400, 401, 402, 403] : List Nat).map fun n => V.int (n : Nat))) (fun j G' => G' D = some (.lst ((([399, 400, 401, 402, 403] : List Nat).take j).map fun n => V.bl (decide (n ≤ 400)))) ∧ Same Gt G')
        ⟨upd_same, same_new (Same.refl Gt) hD⟩ (fun j G' _ h => .inl (.inl (h.2 _ _ et))) (fun j u Gx G' hj h hy => ?_) (fun G' h => ?_)
      · obtain ⟨eD, sm⟩ := h
        obtain ⟨rfl, hu⟩ := hy
        have hu : (([399, 400, 401, 402, 403] : List Nat).map fun n => V.int (n : Nat))[j]? = some u := hu
        rw [List.getElem?_map] at hu
        obtain ⟨n, hn, rfl⟩ := Option.map_eq_some_iff.mp hu
        have hn3 : n ≤ 403 := by
          have := List.mem_of_getElem? hn
          simp only [List.mem_cons, List.not_mem_nil, or_false] at this
          omega
        refine ⟨rfl, _, rfl, _, rfl, n, rfl, by omega, fun p a1 G3 s3 hR => ?_⟩
        refine ⟨x, md, _, "a", M1, ks, rfl, (hKt.same sm).same s3, hA.v, .inr ⟨p, onesL a1 n, rfl, hR, by rw [onesL_qs]; exact onesQ_few (by omega), fun b G4 hb s4 => ?_⟩⟩
        rw [onesL_qs, hA.row] at hb
        have eb : b = decide (n ≤ 400) := Bool.eq_iff_iff.mpr (hb.trans decide_eq_true_iff.symm)
        rw [eb]
        refine ⟨_, s4 _ _ (s3 _ _ eD), ?_, ?_, fun b o e => by rw [upd_ne (ne_of_none e hD)]; exact s4 _ _ (s3 _ _ (sm b o e))⟩
        · rw [List.length_map, List.length_take]
          exact Nat.lt_of_le_of_lt (Nat.min_le_right _ _) (by decide)
        · rw [upd_same, take_snoc hn, List.map_append]
          rfl
      · obtain ⟨eD, sm⟩ := h
        exact ⟨D, rfl, hKt.same sm, eD⟩
    clear hK1
    rintro σ' G2 ⟨D, rfl, hK2, eD⟩
    refine ⟨fun σ' G3 => ∃ D : Addr, σ' = [some (.ref a), y1, some (.ref x), some (.int (o : Nat)), y4, some (.ref D), none] ∧ KindsAt C G3 x md "a" M1 ks ∧ G3 D = some (.lst [.bl true, .bl true, .bl false, .bl false, .bl false, .bl true, .bl true, .bl false]), ?_, ?_⟩
    · refine ⟨_, rfl, by show 3 ≤ sizeLine; omega, fun t nt => ?_⟩
      have s0 := same_new (o := .tup [.int 400, .int 402, .int 403]) (Same.refl G2) nt
      have et : (upd G2 t (.tup [.int 400, .int 402, .int 403])) t = some (.tup (([400, 402, 403] : List Nat).map fun n => V.int (n : Nat))) := upd_same
      generalize upd G2 t (.tup [.int 400, .int 402, .int 403]) = Gt at s0 et
      refine ⟨t, rfl, ⟨_, .inl (.inl et)⟩, fun D2 hD2 => ?_⟩
      refine lc_it (g := gName 6) (tt := tYes) (vs := [6]) (walk_tup (K := K) (a := t) (xs := ([400, 402, 403] : List Nat).map fun n => V.int (n : Nat))) (fun j G' => G' D2 = some (.lst ((([400, 402, 403] : List Nat).take j).map fun n => V.bl (decide (n ≤ 402)))) ∧ Same Gt G')
        ⟨upd_same, same_new (Same.refl Gt) hD2⟩ (fun j G' _ h => .inl (.inl (h.2 _ _ et))) (fun j u Gx G' hj h hy => ?_) (fun G' h => ?_)
      · obtain ⟨eD2, sm⟩ := h
        obtain ⟨rfl, hu⟩ := hy
        have hu : (([400, 402, 403] : List Nat).map fun n => V.int (n : Nat))[j]? = some u := hu
        rw [List.getElem?_map] at hu
        obtain ⟨n, hn, rfl⟩ := Option.map_eq_some_iff.mp hu
        have hn3 : n ≤ 403 := by
          have := List.mem_of_getElem? hn
          simp only [List.mem_cons, List.not_mem_nil, or_false] at this
          omega
        refine ⟨rfl, _, rfl, n, rfl, by omega, fun p a1 G3 s3 hR => ?_⟩
        refine ⟨_, rfl, .inr ⟨p, onesL a1 n, rfl, hR, by rw [onesL_qs]; exact onesQ_few (by omega), fun G4 s4 => ?_⟩⟩
        rw [onesL_qs, onesQ_loose]
        refine ⟨_, s4 _ _ (s3 _ _ eD2), ?_, ?_, fun b o e => by rw [upd_ne (ne_of_none e hD2)]; exact s4 _ _ (s3 _ _ (sm b o e))⟩
        · rw [List.length_map, List.length_take]
          exact Nat.lt_of_le_of_lt (Nat.min_le_right _ _) (by decide)
        · rw [upd_same, take_snoc hn, List.map_append]
          rfl
      · obtain ⟨eD2, sm⟩ := h
        have s2 : Same G2 G' := fun b o e => sm _ _ (s0 _ _ e)
        refine ⟨D, D2, _, _, rfl, rfl, s2 _ _ eD, eD2, by show 5 + 3 ≤ sizeLine; omega, fun l nl => ?_⟩
        exact ⟨l, rfl, (hK2.same s2).same (same_new (Same.refl G') nl), upd_same⟩
    clear hK2 eD
    rintro σ' G3 ⟨D, rfl, hK3, eD⟩
    -- they are judged rightly
    refine ⟨fun σ' G4 => σ' = [some (.ref a), y1, some (.ref x), some (.int (o : Nat)), y4, some (.ref D), none] ∧ Same G3 G4, ?_, ?_⟩
    · refine ⟨_, rfl, by show 8 ≤ sizeLine; omega, fun l nl => ?_⟩
      have s1 := same_new (o := .lst [.bl true, .bl true, .bl false, .bl false, .bl false, .bl true, .bl true, .bl false]) (Same.refl G3) nl
      refine ⟨midD, midD, .lst (.inl (.inl (s1 _ _ eD))) (.cons (.bl _) (.cons (.bl _) (.cons (.bl _) (.cons (.bl _) (.cons (.bl _) (.cons (.bl _) (.cons (.bl _) (.cons (.bl _) .nil)))))))), .lst (.inl (.inl upd_same)) (.cons (.bl _) (.cons (.bl _) (.cons (.bl _) (.cons (.bl _) (.cons (.bl _) (.cons (.bl _) (.cons (.bl _) (.cons (.bl _) .nil)))))))), mid_shaped, mid_shaped, ?_⟩
      rw [mid_eqv]
      refine ⟨_, rfl, ?_⟩
      show (if (!true) = true then _ else _)
      rw [if_neg (by decide)]
      exact ⟨rfl, s1⟩
    rintro σ' G4 ⟨rfl, s4⟩
    have hK4 := hK3.same s4
    clear hK3 eD s4
    -- rows of ones that are told
    refine ⟨fun σ' G5 => ∃ D : Addr, σ' = [some (.ref a), y1, some (.ref x), some (.int (o : Nat)), y4, some (.ref D), none] ∧ KindsAt C G5 x md "a" M1 ks ∧ G5 D = some (.lst [.int (o : Nat), .int (4 * (o : Nat) + 3), .int (-1)]), ?_, ?_⟩
    · refine ⟨by show 3 ≤ sizeLine; omega, fun t nt => ?_⟩
      have hKt := hK4.same (same_new (o := .tup [.int 400, .int 402, .int 403]) (Same.refl G4) nt)
      have et : (upd G4 t (.tup [.int 400, .int 402, .int 403])) t = some (.tup (([400, 402, 403] : List Nat).map fun n => V.int (n : Nat))) := upd_same
      generalize upd G4 t (.tup [.int 400, .int 402, .int 403]) = Gt at hKt et
      refine ⟨t, rfl, ⟨_, .inl (.inl et)⟩, fun D hD => ?_⟩
      refine lc_it (g := gName 6) (tt := tYes) (vs := [6]) (walk_tup (K := K) (a := t) (xs := ([400, 402, 403] : List Nat).map fun n => V.int (n : Nat))) (fun j G' => G' D = some (.lst ((([400, 402, 403] : List Nat).take j).map fun n => V.int (toldI M1 n))) ∧ Same Gt G')
        ⟨upd_same, same_new (Same.refl Gt) hD⟩ (fun j G' _ h => .inl (.inl (h.2 _ _ et))) (fun j u Gx G' hj h hy => ?_) (fun G' h => ?_)
      · obtain ⟨eD, sm⟩ := h
        obtain ⟨rfl, hu⟩ := hy
        have hu : (([400, 402, 403] : List Nat).map fun n => V.int (n : Nat))[j]? = some u := hu
        rw [List.getElem?_map] at hu
        obtain ⟨n, hn, rfl⟩ := Option.map_eq_some_iff.mp hu
        have hn3 : n ≤ 403 := by
          have := List.mem_of_getElem? hn
          simp only [List.mem_cons, List.not_mem_nil, or_false] at this
          omega
        have lj : ((([400, 402, 403] : List Nat).take j).map fun n => V.int (toldI M1 n)).length < sizeLine := by
          rw [List.length_map, List.length_take]
          exact Nat.lt_of_le_of_lt (Nat.min_le_right _ _) (by decide)
        refine ⟨rfl, _, rfl, _, rfl, n, rfl, by omega, fun p a1 G3 s3 hR => ?_⟩
        by_cases c : n ≤ 402
        · refine ⟨x, md, _, "a", M1, ks, rfl, (hKt.same sm).same s3, hA.v, .inr ⟨p, onesL a1 n, rfl, hR, by rw [onesL_qs, onesQ_loose]; exact decide_eq_true c, fun k G4 hk _ s4 => ?_⟩⟩
          rw [onesL_qs, onesL_len] at hk
          have ek : k = toldI M1 n := by
            unfold toldI
            rw [if_pos c]
            exact hk (hA.exist n)
          rw [ek]
          refine ⟨_, s4 _ _ (s3 _ _ eD), lj, ?_, fun b o e => by rw [upd_ne (ne_of_none e hD)]; exact s4 _ _ (s3 _ _ (sm b o e))⟩
          rw [upd_same, take_snoc hn, List.map_append]
          rfl
        · refine ⟨x, md, _, "a", M1, ks, rfl, (hKt.same sm).same s3, hA.v, .inl ⟨.inr ⟨p, onesL a1 n, rfl, hR, by rw [onesL_qs]; exact onesQ_few (by omega), by rw [onesL_qs, onesQ_loose]; exact decide_eq_false c⟩, fun G4 s4 => ?_⟩⟩
          have ek : (-1 : Int) = toldI M1 n := by
            unfold toldI
            rw [if_neg c]
          rw [ek]
          refine ⟨_, s4 _ _ (s3 _ _ eD), lj, ?_, fun b o e => by rw [upd_ne (ne_of_none e hD)]; exact s4 _ _ (s3 _ _ (sm b o e))⟩
          rw [upd_same, take_snoc hn, List.map_append]
          rfl
      · obtain ⟨eD, sm⟩ := h
        have eD : G' D = some (.lst [.int (toldI M1 400), .int (toldI M1 402), .int (toldI M1 403)]) := eD
        rw [told_400 hA ho, told_402 hA ho, told_403 M1] at eD
        exact ⟨D, rfl, hKt.same sm, eD⟩
    clear hK4
    rintro σ' G5 ⟨D5, rfl, hK5, eD5⟩
    -- the empty row and one of four trees
    refine ⟨fun σ' G6 => ∃ D : Addr, σ' = [some (.ref a), y1, some (.ref x), some (.int (o : Nat)), y4, some (.ref D), none] ∧ G6 D = some (.lst [.int (o : Nat), .int (4 * (o : Nat) + 3), .int (-1), .bl true, .int 0, .int 0, .bl false]), ?_, ?_⟩
    · refine ⟨_, rfl, _, rfl, Nat.zero_le _, fun e1 n1 => ?_⟩
      have t1 := same_new (o := .tup []) (Same.refl G5) n1
      have w1 : RowAt K (upd G5 e1 (.tup [])) e1 [] := ⟨.inl (.inl upd_same), nofun⟩
      generalize upd G5 e1 (.tup []) = Ga at t1 w1
      refine ⟨x, md, _, "a", M1, ks, rfl, hK5.same t1, hA.v, .inr ⟨e1, [], rfl, w1, (loose_few loose_nil).1, fun b1 Gb hb1 t2 => ?_⟩⟩
      have eb1 : b1 = true := hb1.mpr ⟨loose_nil, Nat.zero_le _, nofun, fun i z hz => by
        rw [dg_none (show (List.map (fun x => x.2) ([] : List (Addr × List Str))).length ≤ i from Nat.zero_le _)] at hz
        cases hz⟩
      rw [eb1]
      refine ⟨_, rfl, Nat.zero_le _, fun e2 n2 => ?_⟩
      have t3 := same_new (o := .tup []) (Same.refl Gb) n2
      have w2 : RowAt K (upd Gb e2 (.tup [])) e2 [] := ⟨.inl (.inl upd_same), nofun⟩
      generalize upd Gb e2 (.tup []) = Gc at t3 w2
      refine ⟨x, md, e2, "a", M1, ks, [], rfl, ((hK5.same t1).same t2).same t3, hA.v, w2, loose_nil, fun i z hz => ?_, fun Gd t4 => ?_⟩
      · rw [dg_none (show (List.map (fun x => x.2) ([] : List (Addr × List Str))).length ≤ i from Nat.zero_le _)] at hz
        cases hz
      refine ⟨Nat.zero_le _, fun e3 n3 => ?_⟩
      have t5 := same_new (o := .tup []) (Same.refl Gd) n3
      have w3 : RowAt K (upd Gd e3 (.tup [])) e3 [] := ⟨.inl (.inl upd_same), nofun⟩
      generalize upd Gd e3 (.tup []) = Ge at t5 w3
      refine ⟨e3, [], rfl, w3, (loose_few loose_nil).1, loose_nil, fun Gf t6 => ?_⟩
      refine ⟨_, rfl, by show 1 ≤ sizeLine; omega, fun t nt => ?_⟩
      have t7 := same_new (o := .tup [V.str "a"]) (Same.refl Gf) nt
      have et : (upd Gf t (.tup [V.str "a"])) t = some (.tup [V.str "a"]) := upd_same
      generalize upd Gf t (.tup [V.str "a"]) = Gg at t7 et
      refine ⟨t, 4, _, rfl, rfl, .inl (.inl et), (fun h => by cases h), by omega, by show 1 ≤ 1000; omega, fun p4 Gh t8 hp4 => ?_⟩
      refine ⟨by show 1 ≤ sizeLine; omega, fun u nu => ?_⟩
      have t9 := same_new (o := .tup [V.ref p4]) (Same.refl Gh) nu
      have w4 : RowAt K (upd Gh u (.tup [V.ref p4])) u [(p4, ["a", "a", "a", "a"])] := ⟨.inl (.inl upd_same), fun q hq => by
        rw [List.mem_singleton.mp hq]
        exact sqT_sm t9 hp4⟩
      generalize upd Gh u (.tup [V.ref p4]) = Gi at t9 w4
      have s5 : Same G5 Gi := fun b o e => t9 _ _ (t8 _ _ (t7 _ _ (t6 _ _ (t5 _ _ (t4 _ _ (t3 _ _ (t2 _ _ (t1 _ _ e))))))))
      refine ⟨x, md, _, "a", M1, ks, rfl, hK5.same s5, hA.v, .inr ⟨u, _, rfl, w4, ⟨by show 1 ≤ 1000; omega, fun q hq => ?_⟩, fun b4 Gj hb4 t10 => ?_⟩⟩
      · have hq : q ∈ ([["a", "a", "a", "a"]] : List (List Str)) := hq
        rw [List.mem_singleton.mp hq]
        refine ⟨by show 4 ≤ 1000; omega, fun z hz => ?_⟩
        simp only [List.mem_cons, List.not_mem_nil, or_false, or_self] at hz
        rw [hz]
        decide +kernel
      have eb4 : b4 = false := by
        cases b4 with
        | false => rfl
        | true =>
          have h := (hb4.mp rfl).2.2.1 (["a", "a", "a", "a"] : List Str) (List.mem_singleton.mpr rfl)
          exact absurd h (by decide)
      rw [eb4]
      refine ⟨by show 4 ≤ sizeLine; omega, fun l nl => ?_⟩
      have t11 := same_new (o := .lst [.bl true, .int 0, .int 0, .bl false]) (Same.refl Gj) nl
      refine ⟨D5, l, _, _, rfl, rfl, t11 _ _ (t10 _ _ (s5 _ _ eD5)), upd_same, by show 3 + 4 ≤ sizeLine; omega, fun l2 nl2 => ?_⟩
      exact ⟨l2, rfl, upd_same⟩
    clear hK5 eD5
    rintro σ' G6 ⟨D6, rfl, eD6⟩
    -- the trees of a great row
    refine ⟨fun σ' G7 => σ' = [some (.ref a), y1, some (.ref x), some (.int (o : Nat)), y4, some (.ref D6), none] ∧ G7 D6 = some (.lst [.int (o : Nat), .int (4 * (o : Nat) + 3), .int (-1), .bl true, .int 0, .int 0, .bl false, .int 402]), ?_, ?_⟩
    · refine ⟨_, rfl, ⟨.inl ⟨rfl, _, .inl (.inl eD6)⟩, ?_⟩⟩
      refine ⟨402, rfl, by omega, fun p a1 Ga s1 hR => ⟨p, onesL a1 402, rfl, hR, by rw [onesL_qs]; exact onesQ_few (by omega), by rw [onesL_qs, onesQ_loose]; exact decide_eq_true (Nat.le_refl _), fun Gb s2 => ?_⟩⟩
      rw [onesL_qs, onesQ_sum]
      exact ⟨D6, _, _, rfl, rfl, s2 _ _ (s1 _ _ eD6), by show 7 < sizeLine; omega, rfl, upd_same⟩
    rintro σ' G7 ⟨rfl, eD7⟩
    refine ⟨_, rfl, _, rfl, _, rfl, _, _, rfl, rfl, .inl ⟨by decide, by decide⟩, _, _, rfl, rfl, _, _, rfl, rfl, by show 8 ≤ sizeLine; omega, fun l nl => ?_⟩
    have s8 := same_new (o := .lst [.int (o : Nat), .int (4 * (o : Nat) + 3), .int (0 - 1), .bl true, .int 0, .int 0, .bl false, .int 402]) (Same.refl G7) nl
    refine ⟨lastD (o : Nat) (4 * (o : Nat) + 3), lastD (o : Nat) (4 * (o : Nat) + 3), .lst (.inl (.inl (s8 _ _ eD7))) (.cons (.int _) (.cons (.int _) (.cons (.int _) (.cons (.bl _) (.cons (.int _) (.cons (.int _) (.cons (.bl _) (.cons (.int _) .nil)))))))), .lst (.inl (.inl upd_same)) (.cons (.int _) (.cons (.int _) (.cons (.int _) (.cons (.bl _) (.cons (.int _) (.cons (.int _) (.cons (.bl _) (.cons (.int _) .nil)))))))), last_shaped _ _, last_shaped _ _, ?_⟩
    rw [last_eqv]
    exact q _
end
end Kl

set_option maxRecDepth 100000
set_option maxHeartbeats 4000000
namespace Kl
open PySem PySem.Spec PyProof.Rows L2 Gx
/-! ### the end -/
theorem all_mk {l : PySem.W.OpenLaw} {w : World} {K : PySem.W.Frag} {h : Heap} {mg : Str → Option Value} {fa : Addr} (X : K.In h) (G : h.Ns mainGlobals mg) (hfa : mg "law" = some (.ref fa))
    {Cy0 : Addr} {nmy0 qny0 : Str} {Ny0 : Addr} {bsy0 bmy0 : List Value} {hdy0 : Bool} {sny0 : List Str} {suby0 : List Value} {aby0 : Bool} {coly0 : Option Bool} {ddy0 : Option Addr} {k0y0 k1y0 k2y0 k3y0 k5y0 : Option Value}
    {f0 : Addr} {od0 an0 : Option Addr} {sl0 : Array (Option Value)} {oc0 kV0 dc0 pm0 cd0 ct0 : Value}
    {f1 : Addr} {od1 an1 : Option Addr} {sl1 : Array (Option Value)} {oc1 kV1 dc1 pm1 cd1 ct1 : Value}
    {f2 : Addr} {od2 an2 : Option Addr} {sl2 : Array (Option Value)} {oc2 kV2 dc2 pm2 cd2 ct2 : Value}
    {f3 : Addr} {od3 an3 : Option Addr} {sl3 : Array (Option Value)} {oc3 kV3 dc3 pm3 cd3 ct3 : Value}
    {f4 : Addr} {od4 an4 : Option Addr} {sl4 : Array (Option Value)} {oc4 kV4 dc4 pm4 cd4 ct4 : Value}
    {f5 : Addr} {od5 an5 : Option Addr} {sl5 : Array (Option Value)} {oc5 kV5 dc5 pm5 cd5 ct5 : Value}
    {f6 : Addr} {od6 an6 : Option Addr} {sl6 : Array (Option Value)} {oc6 kV6 dc6 pm6 cd6 ct6 : Value}
    {f7 : Addr} {od7 an7 : Option Addr} {sl7 : Array (Option Value)} {oc7 kV7 dc7 pm7 cd7 ct7 : Value}
    {f8 : Addr} {od8 an8 : Option Addr} {sl8 : Array (Option Value)} {oc8 kV8 dc8 pm8 cd8 ct8 : Value}
    {f9 : Addr} {od9 an9 : Option Addr} {sl9 : Array (Option Value)} {oc9 kV9 dc9 pm9 cd9 ct9 : Value}
    {f10 : Addr} {od10 an10 : Option Addr} {sl10 : Array (Option Value)} {oc10 kV10 dc10 pm10 cd10 ct10 : Value}
    {f11 : Addr} {od11 an11 : Option Addr} {sl11 : Array (Option Value)} {oc11 kV11 dc11 pm11 cd11 ct11 : Value}
    {f12 : Addr} {od12 an12 : Option Addr} {sl12 : Array (Option Value)} {oc12 kV12 dc12 pm12 cd12 ct12 : Value}
    {f13 : Addr} {od13 an13 : Option Addr} {sl13 : Array (Option Value)} {oc13 kV13 dc13 pm13 cd13 ct13 : Value}
    {f14 : Addr} {od14 an14 : Option Addr} {sl14 : Array (Option Value)} {oc14 kV14 dc14 pm14 cd14 ct14 : Value}
    {f15 : Addr} {od15 an15 : Option Addr} {sl15 : Array (Option Value)} {oc15 kV15 dc15 pm15 cd15 ct15 : Value}
    {f16 : Addr} {od16 an16 : Option Addr} {sl16 : Array (Option Value)} {oc16 kV16 dc16 pm16 cd16 ct16 : Value}
    {f17 : Addr} {od17 an17 : Option Addr} {sl17 : Array (Option Value)} {oc17 kV17 dc17 pm17 cd17 ct17 : Value}
    {f18 : Addr} {od18 an18 : Option Addr} {sl18 : Array (Option Value)} {oc18 kV18 dc18 pm18 cd18 ct18 : Value}
    {f19 : Addr} {od19 an19 : Option Addr} {sl19 : Array (Option Value)} {oc19 kV19 dc19 pm19 cd19 ct19 : Value}
    {f20 : Addr} {od20 an20 : Option Addr} {sl20 : Array (Option Value)} {oc20 kV20 dc20 pm20 cd20 ct20 : Value}
    {f21 : Addr} {od21 an21 : Option Addr} {sl21 : Array (Option Value)} {oc21 kV21 dc21 pm21 cd21 ct21 : Value}
    {f22 : Addr} {od22 an22 : Option Addr} {sl22 : Array (Option Value)} {oc22 kV22 dc22 pm22 cd22 ct22 : Value}
    {f23 : Addr} {od23 an23 : Option Addr} {sl23 : Array (Option Value)} {oc23 kV23 dc23 pm23 cd23 ct23 : Value}
    {f24 : Addr} {od24 an24 : Option Addr} {sl24 : Array (Option Value)} {oc24 kV24 dc24 pm24 cd24 ct24 : Value}
    {f25 : Addr} {od25 an25 : Option Addr} {sl25 : Array (Option Value)} {oc25 kV25 dc25 pm25 cd25 ct25 : Value}
    {f26 : Addr} {od26 an26 : Option Addr} {sl26 : Array (Option Value)} {oc26 kV26 dc26 pm26 cd26 ct26 : Value}
    {f27 : Addr} {od27 an27 : Option Addr} {sl27 : Array (Option Value)} {oc27 kV27 dc27 pm27 cd27 ct27 : Value}
    {f28 : Addr} {od28 an28 : Option Addr} {sl28 : Array (Option Value)} {oc28 kV28 dc28 pm28 cd28 ct28 : Value}
    {f29 : Addr} {od29 an29 : Option Addr} {sl29 : Array (Option Value)} {oc29 kV29 dc29 pm29 cd29 ct29 : Value}
    {f30 : Addr} {od30 an30 : Option Addr} {sl30 : Array (Option Value)} {oc30 kV30 dc30 pm30 cd30 ct30 : Value}
    {f31 : Addr} {od31 an31 : Option Addr} {sl31 : Array (Option Value)} {oc31 kV31 dc31 pm31 cd31 ct31 : Value}
    {f32 : Addr} {od32 an32 : Option Addr} {sl32 : Array (Option Value)} {oc32 kV32 dc32 pm32 cd32 ct32 : Value}
    {f33 : Addr} {od33 an33 : Option Addr} {sl33 : Array (Option Value)} {oc33 kV33 dc33 pm33 cd33 ct33 : Value}
    {f34 : Addr} {od34 an34 : Option Addr} {sl34 : Array (Option Value)} {oc34 kV34 dc34 pm34 cd34 ct34 : Value}
    {f35 : Addr} {od35 an35 : Option Addr} {sl35 : Array (Option Value)} {oc35 kV35 dc35 pm35 cd35 ct35 : Value}
    {CoKinds : Addr}
    {fM0Kinds : Addr} {odM0Kinds anM0Kinds : Option Addr} {slM0Kinds : Array (Option Value)} {ocM0Kinds kVM0Kinds dcM0Kinds pmM0Kinds cdM0Kinds ctM0Kinds : Value}
    {fM2Kinds : Addr} {odM2Kinds anM2Kinds : Option Addr} {slM2Kinds : Array (Option Value)} {ocM2Kinds kVM2Kinds dcM2Kinds pmM2Kinds cdM2Kinds ctM2Kinds : Value}
    {qM2Kinds : Addr} {rsM2Kinds : List Value}
    {fM3Kinds : Addr} {odM3Kinds anM3Kinds : Option Addr} {slM3Kinds : Array (Option Value)} {ocM3Kinds kVM3Kinds dcM3Kinds pmM3Kinds cdM3Kinds ctM3Kinds : Value}
    {qM3Kinds : Addr} {rsM3Kinds : List Value}
    {fM4Kinds : Addr} {odM4Kinds anM4Kinds : Option Addr} {slM4Kinds : Array (Option Value)} {ocM4Kinds kVM4Kinds dcM4Kinds pmM4Kinds cdM4Kinds ctM4Kinds : Value}
    {qM4Kinds : Addr} {rsM4Kinds : List Value}
    {fM9Kinds : Addr} {odM9Kinds anM9Kinds : Option Addr} {slM9Kinds : Array (Option Value)} {ocM9Kinds kVM9Kinds dcM9Kinds pmM9Kinds cdM9Kinds ctM9Kinds : Value}
    {fM10Kinds : Addr} {odM10Kinds anM10Kinds : Option Addr} {slM10Kinds : Array (Option Value)} {ocM10Kinds kVM10Kinds dcM10Kinds pmM10Kinds cdM10Kinds ctM10Kinds : Value}
    {fM12Kinds : Addr} {odM12Kinds anM12Kinds : Option Addr} {slM12Kinds : Array (Option Value)} {ocM12Kinds kVM12Kinds dcM12Kinds pmM12Kinds cdM12Kinds ctM12Kinds : Value}
    {fM13Kinds : Addr} {odM13Kinds anM13Kinds : Option Addr} {slM13Kinds : Array (Option Value)} {ocM13Kinds kVM13Kinds dcM13Kinds pmM13Kinds cdM13Kinds ctM13Kinds : Value}
    {fM14Kinds : Addr} {odM14Kinds anM14Kinds : Option Addr} {slM14Kinds : Array (Option Value)} {ocM14Kinds kVM14Kinds dcM14Kinds pmM14Kinds cdM14Kinds ctM14Kinds : Value}
    {t0 : Tok}
    {t1 : Tok}
    {t2 : Tok}
    {t3 : Tok}
    {t4 : Tok}
    {t5 : Tok}
    {t6 : Tok}
    {t7 : Tok}
    (gy0 : PySem.W.nsIn K mainGlobals "InvalidRow" = some (some (.ref Cy0))) (hy0 : K.lookup Cy0 = some (excClassObj nmy0 qny0 Cy0 Ny0 bsy0 bmy0 hdy0 sny0 suby0 aby0 coly0 ddy0 k0y0 k1y0 k2y0 k3y0 k5y0 "ValueError.__new__")) (ty0 : PySem.W.excTail [.type "ValueError", .type "Exception", .type "BaseException", .type "object"] bmy0 = true) (iy0 : PySem.W.findIn K (.ref Cy0) "__init__" = some (some (.builtin "ValueError.__init__"))) (ky0 : PySem.W.keepIn K (.ref Cy0) = true) (by0 : PySem.W.subIn K (.ref Cy0) (.type "BaseException") = some true) (wy0 : PySem.W.typeIn K (.ref Cy0) = some (.type "type")) (xy0 : PySem.W.isClsIn K Cy0 = true) (ry0 : PySem.W.subIn K (.ref Cy0) (.ref Cy0) = some true) (zy0 : xclsB K Cy0 = true)
    (a0 : PySem.W.nsIn K mainGlobals "_wall" = some (some (.ref f0))) (l0 : K.lookup f0 = some ⟨oc0, od0, .func (PySem.W.fnOf "_wall" "_wall" (defArgs s_wall) (defBody s_wall) (defScope s_wall) .none kV0 dc0 pm0 an0 cd0 ct0), sl0⟩) (c0 : PySem.W.codeIn K cd0 "_wall" = true) (k0 : PySem.W.keepIn K (.ref f0) = true)
    (a1 : PySem.W.nsIn K mainGlobals "is_integer" = some (some (.ref f1))) (l1 : K.lookup f1 = some ⟨oc1, od1, .func (PySem.W.fnOf "is_integer" "is_integer" (defArgs s_is_integer) (defBody s_is_integer) (defScope s_is_integer) .none kV1 dc1 pm1 an1 cd1 ct1), sl1⟩) (c1 : PySem.W.codeIn K cd1 "is_integer" = true) (k1 : PySem.W.keepIn K (.ref f1) = true)
    (a2 : PySem.W.nsIn K mainGlobals "is_count" = some (some (.ref f2))) (l2 : K.lookup f2 = some ⟨oc2, od2, .func (PySem.W.fnOf "is_count" "is_count" (defArgs s_is_count) (defBody s_is_count) (defScope s_is_count) .none kV2 dc2 pm2 an2 cd2 ct2), sl2⟩) (c2 : PySem.W.codeIn K cd2 "is_count" = true) (k2 : PySem.W.keepIn K (.ref f2) = true)
    (a3 : PySem.W.nsIn K mainGlobals "is_name" = some (some (.ref f3))) (l3 : K.lookup f3 = some ⟨oc3, od3, .func (PySem.W.fnOf "is_name" "is_name" (defArgs s_is_name) (defBody s_is_name) (defScope s_is_name) .none kV3 dc3 pm3 an3 cd3 ct3), sl3⟩) (c3 : PySem.W.codeIn K cd3 "is_name" = true) (k3 : PySem.W.keepIn K (.ref f3) = true)
    (a4 : PySem.W.nsIn K mainGlobals "is_sorted" = some (some (.ref f4))) (l4 : K.lookup f4 = some ⟨oc4, od4, .func (PySem.W.fnOf "is_sorted" "is_sorted" (defArgs s_is_sorted) (defBody s_is_sorted) (defScope s_is_sorted) .none kV4 dc4 pm4 an4 cd4 ct4), sl4⟩) (c4 : PySem.W.codeIn K cd4 "is_sorted" = true) (k4 : PySem.W.keepIn K (.ref f4) = true)
    (a5 : PySem.W.nsIn K mainGlobals "_is_making" = some (some (.ref f5))) (l5 : K.lookup f5 = some ⟨oc5, od5, .func (PySem.W.fnOf "_is_making" "_is_making" (defArgs s_is_making) (defBody s_is_making) (defScope s_is_making) .none kV5 dc5 pm5 an5 cd5 ct5), sl5⟩) (c5 : PySem.W.codeIn K cd5 "_is_making" = true) (k5 : PySem.W.keepIn K (.ref f5) = true)
    (a6 : PySem.W.nsIn K mainGlobals "_all_names" = some (some (.ref f6))) (l6 : K.lookup f6 = some ⟨oc6, od6, .func (PySem.W.fnOf "_all_names" "_all_names" (defArgs s_all_names) (defBody s_all_names) (defScope s_all_names) .none kV6 dc6 pm6 an6 cd6 ct6), sl6⟩) (c6 : PySem.W.codeIn K cd6 "_all_names" = true) (k6 : PySem.W.keepIn K (.ref f6) = true)
    (a7 : PySem.W.nsIn K mainGlobals "_are_kinds" = some (some (.ref f7))) (l7 : K.lookup f7 = some ⟨oc7, od7, .func (PySem.W.fnOf "_are_kinds" "_are_kinds" (defArgs s_are_kinds) (defBody s_are_kinds) (defScope s_are_kinds) .none kV7 dc7 pm7 an7 cd7 ct7), sl7⟩) (c7 : PySem.W.codeIn K cd7 "_are_kinds" = true) (k7 : PySem.W.keepIn K (.ref f7) = true)
    (a8 : PySem.W.nsIn K mainGlobals "sums_above" = some (some (.ref f8))) (l8 : K.lookup f8 = some ⟨oc8, od8, .func (PySem.W.fnOf "sums_above" "sums_above" (defArgs s_sums_above) (defBody s_sums_above) (defScope s_sums_above) .none kV8 dc8 pm8 an8 cd8 ct8), sl8⟩) (c8 : PySem.W.codeIn K cd8 "sums_above" = true) (k8 : PySem.W.keepIn K (.ref f8) = true)
    (a9 : PySem.W.nsIn K mainGlobals "sums_by_rank" = some (some (.ref f9))) (l9 : K.lookup f9 = some ⟨oc9, od9, .func (PySem.W.fnOf "sums_by_rank" "sums_by_rank" (defArgs s_sums_by_rank) (defBody s_sums_by_rank) (defScope s_sums_by_rank) .none kV9 dc9 pm9 an9 cd9 ct9), sl9⟩) (c9 : PySem.W.codeIn K cd9 "sums_by_rank" = true) (k9 : PySem.W.keepIn K (.ref f9) = true)
    (a10 : PySem.W.nsIn K mainGlobals "are_digits" = some (some (.ref f10))) (l10 : K.lookup f10 = some ⟨oc10, od10, .func (PySem.W.fnOf "are_digits" "are_digits" (defArgs s_are_digits) (defBody s_are_digits) (defScope s_are_digits) .none kV10 dc10 pm10 an10 cd10 ct10), sl10⟩) (c10 : PySem.W.codeIn K cd10 "are_digits" = true) (k10 : PySem.W.keepIn K (.ref f10) = true)
    (a11 : PySem.W.nsIn K mainGlobals "are_loose_digits" = some (some (.ref f11))) (l11 : K.lookup f11 = some ⟨oc11, od11, .func (PySem.W.fnOf "are_loose_digits" "are_loose_digits" (defArgs s_are_loose_digits) (defBody s_are_loose_digits) (defScope s_are_loose_digits) .none kV11 dc11 pm11 an11 cd11 ct11), sl11⟩) (c11 : PySem.W.codeIn K cd11 "are_loose_digits" = true) (k11 : PySem.W.keepIn K (.ref f11) = true)
    (a12 : PySem.W.nsIn K mainGlobals "_check_kinds" = some (some (.ref f12))) (l12 : K.lookup f12 = some ⟨oc12, od12, .func (PySem.W.fnOf "_check_kinds" "_check_kinds" (defArgs s_check_kinds) (defBody s_check_kinds) (defScope s_check_kinds) .none kV12 dc12 pm12 an12 cd12 ct12), sl12⟩) (c12 : PySem.W.codeIn K cd12 "_check_kinds" = true) (k12 : PySem.W.keepIn K (.ref f12) = true)
    (a13 : PySem.W.nsIn K mainGlobals "_check_loose" = some (some (.ref f13))) (l13 : K.lookup f13 = some ⟨oc13, od13, .func (PySem.W.fnOf "_check_loose" "_check_loose" (defArgs s_check_loose) (defBody s_check_loose) (defScope s_check_loose) .none kV13 dc13 pm13 an13 cd13 ct13), sl13⟩) (c13 : PySem.W.codeIn K cd13 "_check_loose" = true) (k13 : PySem.W.keepIn K (.ref f13) = true)
    (a14 : PySem.W.nsIn K mainGlobals "is_digit" = some (some (.ref f14))) (l14 : K.lookup f14 = some ⟨oc14, od14, .func (PySem.W.fnOf "is_digit" "is_digit" (defArgs s_is_digit) (defBody s_is_digit) (defScope s_is_digit) .none kV14 dc14 pm14 an14 cd14 ct14), sl14⟩) (c14 : PySem.W.codeIn K cd14 "is_digit" = true) (k14 : PySem.W.keepIn K (.ref f14) = true)
    (a15 : PySem.W.nsIn K mainGlobals "is_loose" = some (some (.ref f15))) (l15 : K.lookup f15 = some ⟨oc15, od15, .func (PySem.W.fnOf "is_loose" "is_loose" (defArgs s_is_loose) (defBody s_is_loose) (defScope s_is_loose) .none kV15 dc15 pm15 an15 cd15 ct15), sl15⟩) (c15 : PySem.W.codeIn K cd15 "is_loose" = true) (k15 : PySem.W.keepIn K (.ref f15) = true)
    (a16 : PySem.W.nsIn K mainGlobals "is_row" = some (some (.ref f16))) (l16 : K.lookup f16 = some ⟨oc16, od16, .func (PySem.W.fnOf "is_row" "is_row" (defArgs s_is_row) (defBody s_is_row) (defScope s_is_row) .none kV16 dc16 pm16 an16 cd16 ct16), sl16⟩) (c16 : PySem.W.codeIn K cd16 "is_row" = true) (k16 : PySem.W.keepIn K (.ref f16) = true)
    (a17 : PySem.W.nsIn K mainGlobals "keys_of" = some (some (.ref f17))) (l17 : K.lookup f17 = some ⟨oc17, od17, .func (PySem.W.fnOf "keys_of" "keys_of" (defArgs s_keys_of) (defBody s_keys_of) (defScope s_keys_of) .none kV17 dc17 pm17 an17 cd17 ct17), sl17⟩) (c17 : PySem.W.codeIn K cd17 "keys_of" = true) (k17 : PySem.W.keepIn K (.ref f17) = true)
    (a18 : PySem.W.nsIn K mainGlobals "trees_of" = some (some (.ref f18))) (l18 : K.lookup f18 = some ⟨oc18, od18, .func (PySem.W.fnOf "trees_of" "trees_of" (defArgs s_trees_of) (defBody s_trees_of) (defScope s_trees_of) .none kV18 dc18 pm18 an18 cd18 ct18), sl18⟩) (c18 : PySem.W.codeIn K cd18 "trees_of" = true) (k18 : PySem.W.keepIn K (.ref f18) = true)
    (a19 : PySem.W.nsIn K mainGlobals "_law_dice" = some (some (.ref f19))) (l19 : K.lookup f19 = some ⟨oc19, od19, .func (PySem.W.fnOf "_law_dice" "_law_dice" (defArgs s_law_dice) (defBody s_law_dice) (defScope s_law_dice) .none kV19 dc19 pm19 an19 cd19 ct19), sl19⟩) (c19 : PySem.W.codeIn K cd19 "_law_dice" = true) (k19 : PySem.W.keepIn K (.ref f19) = true)
    (a20 : PySem.W.nsIn K mainGlobals "_law_roll" = some (some (.ref f20))) (l20 : K.lookup f20 = some ⟨oc20, od20, .func (PySem.W.fnOf "_law_roll" "_law_roll" (defArgs s_law_roll) (defBody s_law_roll) (defScope s_law_roll) .none kV20 dc20 pm20 an20 cd20 ct20), sl20⟩) (c20 : PySem.W.codeIn K cd20 "_law_roll" = true) (k20 : PySem.W.keepIn K (.ref f20) = true)
    (a21 : PySem.W.nsIn K mainGlobals "_law_pick" = some (some (.ref f21))) (l21 : K.lookup f21 = some ⟨oc21, od21, .func (PySem.W.fnOf "_law_pick" "_law_pick" (defArgs s_law_pick) (defBody s_law_pick) (defScope s_law_pick) .none kV21 dc21 pm21 an21 cd21 ct21), sl21⟩) (c21 : PySem.W.codeIn K cd21 "_law_pick" = true) (k21 : PySem.W.keepIn K (.ref f21) = true)
    (a22 : PySem.W.nsIn K mainGlobals "_law_mixed" = some (some (.ref f22))) (l22 : K.lookup f22 = some ⟨oc22, od22, .func (PySem.W.fnOf "_law_mixed" "_law_mixed" (defArgs s_law_mixed) (defBody s_law_mixed) (defScope s_law_mixed) .none kV22 dc22 pm22 an22 cd22 ct22), sl22⟩) (c22 : PySem.W.codeIn K cd22 "_law_mixed" = true) (k22 : PySem.W.keepIn K (.ref f22) = true)
    (a23 : PySem.W.nsIn K mainGlobals "_law_made_kinds" = some (some (.ref f23))) (l23 : K.lookup f23 = some ⟨oc23, od23, .func (PySem.W.fnOf "_law_made_kinds" "_law_made_kinds" (defArgs s_law_made_kinds) (defBody s_law_made_kinds) (defScope s_law_made_kinds) .none kV23 dc23 pm23 an23 cd23 ct23), sl23⟩) (c23 : PySem.W.codeIn K cd23 "_law_made_kinds" = true) (k23 : PySem.W.keepIn K (.ref f23) = true)
    (a24 : PySem.W.nsIn K mainGlobals "_law_sizes" = some (some (.ref f24))) (l24 : K.lookup f24 = some ⟨oc24, od24, .func (PySem.W.fnOf "_law_sizes" "_law_sizes" (defArgs s_law_sizes) (defBody s_law_sizes) (defScope s_law_sizes) .none kV24 dc24 pm24 an24 cd24 ct24), sl24⟩) (c24 : PySem.W.codeIn K cd24 "_law_sizes" = true) (k24 : PySem.W.keepIn K (.ref f24) = true)
    (a25 : PySem.W.nsIn K mainGlobals "_law_pool_names" = some (some (.ref f25))) (l25 : K.lookup f25 = some ⟨oc25, od25, .func (PySem.W.fnOf "_law_pool_names" "_law_pool_names" (defArgs s_law_pool_names) (defBody s_law_pool_names) (defScope s_law_pool_names) .none kV25 dc25 pm25 an25 cd25 ct25), sl25⟩) (c25 : PySem.W.codeIn K cd25 "_law_pool_names" = true) (k25 : PySem.W.keepIn K (.ref f25) = true)
    (a26 : PySem.W.nsIn K mainGlobals "_law_drawn_digit" = some (some (.ref f26))) (l26 : K.lookup f26 = some ⟨oc26, od26, .func (PySem.W.fnOf "_law_drawn_digit" "_law_drawn_digit" (defArgs s_law_drawn_digit) (defBody s_law_drawn_digit) (defScope s_law_drawn_digit) .none kV26 dc26 pm26 an26 cd26 ct26), sl26⟩) (c26 : PySem.W.codeIn K cd26 "_law_drawn_digit" = true) (k26 : PySem.W.keepIn K (.ref f26) = true)
    (a27 : PySem.W.nsIn K mainGlobals "_law_drawn_makings" = some (some (.ref f27))) (l27 : K.lookup f27 = some ⟨oc27, od27, .func (PySem.W.fnOf "_law_drawn_makings" "_law_drawn_makings" (defArgs s_law_drawn_makings) (defBody s_law_drawn_makings) (defScope s_law_drawn_makings) .none kV27 dc27 pm27 an27 cd27 ct27), sl27⟩) (c27 : PySem.W.codeIn K cd27 "_law_drawn_makings" = true) (k27 : PySem.W.keepIn K (.ref f27) = true)
    (a28 : PySem.W.nsIn K mainGlobals "_law_tree_size" = some (some (.ref f28))) (l28 : K.lookup f28 = some ⟨oc28, od28, .func (PySem.W.fnOf "_law_tree_size" "_law_tree_size" (defArgs s_law_tree_size) (defBody s_law_tree_size) (defScope s_law_tree_size) .none kV28 dc28 pm28 an28 cd28 ct28), sl28⟩) (c28 : PySem.W.codeIn K cd28 "_law_tree_size" = true) (k28 : PySem.W.keepIn K (.ref f28) = true)
    (a29 : PySem.W.nsIn K mainGlobals "_law_drawn_row" = some (some (.ref f29))) (l29 : K.lookup f29 = some ⟨oc29, od29, .func (PySem.W.fnOf "_law_drawn_row" "_law_drawn_row" (defArgs s_law_drawn_row) (defBody s_law_drawn_row) (defScope s_law_drawn_row) .none kV29 dc29 pm29 an29 cd29 ct29), sl29⟩) (c29 : PySem.W.codeIn K cd29 "_law_drawn_row" = true) (k29 : PySem.W.keepIn K (.ref f29) = true)
    (a30 : PySem.W.nsIn K mainGlobals "_law_keys_by_trees" = some (some (.ref f30))) (l30 : K.lookup f30 = some ⟨oc30, od30, .func (PySem.W.fnOf "_law_keys_by_trees" "_law_keys_by_trees" (defArgs s_law_keys_by_trees) (defBody s_law_keys_by_trees) (defScope s_law_keys_by_trees) .none kV30 dc30 pm30 an30 cd30 ct30), sl30⟩) (c30 : PySem.W.codeIn K cd30 "_law_keys_by_trees" = true) (k30 : PySem.W.keepIn K (.ref f30) = true)
    (a31 : PySem.W.nsIn K mainGlobals "_law_told" = some (some (.ref f31))) (l31 : K.lookup f31 = some ⟨oc31, od31, .func (PySem.W.fnOf "_law_told" "_law_told" (defArgs s_law_told) (defBody s_law_told) (defScope s_law_told) .none kV31 dc31 pm31 an31 cd31 ct31), sl31⟩) (c31 : PySem.W.codeIn K cd31 "_law_told" = true) (k31 : PySem.W.keepIn K (.ref f31) = true)
    (a32 : PySem.W.nsIn K mainGlobals "_law_bent_rows" = some (some (.ref f32))) (l32 : K.lookup f32 = some ⟨oc32, od32, .func (PySem.W.fnOf "_law_bent_rows" "_law_bent_rows" (defArgs s_law_bent_rows) (defBody s_law_bent_rows) (defScope s_law_bent_rows) .none kV32 dc32 pm32 an32 cd32 ct32), sl32⟩) (c32 : PySem.W.codeIn K cd32 "_law_bent_rows" = true) (k32 : PySem.W.keepIn K (.ref f32) = true)
    (a33 : PySem.W.nsIn K mainGlobals "_law_right" = some (some (.ref f33))) (l33 : K.lookup f33 = some ⟨oc33, od33, .func (PySem.W.fnOf "_law_right" "_law_right" (defArgs s_law_right) (defBody s_law_right) (defScope s_law_right) .none kV33 dc33 pm33 an33 cd33 ct33), sl33⟩) (c33 : PySem.W.codeIn K cd33 "_law_right" = true) (k33 : PySem.W.keepIn K (.ref f33) = true)
    (a34 : PySem.W.nsIn K mainGlobals "_law_ones" = some (some (.ref f34))) (l34 : K.lookup f34 = some ⟨oc34, od34, .func (PySem.W.fnOf "_law_ones" "_law_ones" (defArgs s_law_ones) (defBody s_law_ones) (defScope s_law_ones) .none kV34 dc34 pm34 an34 cd34 ct34), sl34⟩) (c34 : PySem.W.codeIn K cd34 "_law_ones" = true) (k34 : PySem.W.keepIn K (.ref f34) = true)
    (a35 : PySem.W.nsIn K mainGlobals "law" = some (some (.ref f35))) (l35 : K.lookup f35 = some ⟨oc35, od35, .func (PySem.W.fnOf "law" "law" (defArgs s_law) (defBody s_law) (defScope s_law) .none kV35 dc35 pm35 an35 cd35 ct35), sl35⟩) (c35 : PySem.W.codeIn K cd35 "law" = true) (k35 : PySem.W.keepIn K (.ref f35) = true)
    (goKinds : PySem.W.nsIn K mainGlobals "Kinds" = some (some (.ref CoKinds)))
    (pgoKinds : PySem.W.plainGet K CoKinds Str.empty = true)
    (hdoKinds : PySem.W.hasDictIn K CoKinds = true)
    (pooKinds : PySem.W.plainOver K CoKinds = true)
    (saoKinds : PySem.W.findIn K (.ref CoKinds) "__setattr__" = some (some (.builtin "object.__setattr__")))
    (mkoKinds : PySem.W.makesIn K CoKinds = true)
    (kcoKinds : PySem.W.keepIn K (.ref CoKinds) = true)
    (neoKinds : PySem.W.findIn K (.ref CoKinds) "__ne__" = some (some (.builtin "object.__ne__")))
    (oboKinds : PySem.W.mroIn K CoKinds (.type "object") = some true)
    (kioKinds : PySem.W.kitOne K (.ref CoKinds) (.ref CoKinds) = some true)
    (ktoKinds : PySem.W.kitOne K (.type "tuple") (.ref CoKinds) = some false)
    (kdoKinds : PySem.W.kitOne K (.type "dict") (.ref CoKinds) = some false)
    (caoKinds : PySem.W.findIn K (.ref CoKinds) "__class__" = some (some (.builtin "object.__class__")))
    (cgoKinds : PySem.W.specialIn K (.builtin "object.__class__") "__get__" = some (some (.builtin "getset_descriptor.__get__")))
    (ctoKinds : PySem.W.takesIn K (.builtin "object.__class__") = some true)
    (n_leafoKinds : PySem.W.findIn K (.ref CoKinds) "_leaf" = some none)
    (n_makingsoKinds : PySem.W.findIn K (.ref CoKinds) "_makings" = some none)
    (n_namesoKinds : PySem.W.findIn K (.ref CoKinds) "_names" = some none)
    (atM0Kinds : PySem.W.findIn K (.ref CoKinds) "__init__" = some (some (.ref fM0Kinds)))
    (ifM0Kinds : PySem.W.isFn K (.ref fM0Kinds) = true)
    (lM0Kinds : K.lookup fM0Kinds = some ⟨ocM0Kinds, odM0Kinds, .func (PySem.W.fnOf "__init__" "Kinds.__init__" (defArgs s_Kinds_init) (defBody s_Kinds_init) (defScope s_Kinds_init) .none kVM0Kinds dcM0Kinds pmM0Kinds anM0Kinds cdM0Kinds ctM0Kinds), slM0Kinds⟩)
    (cM0Kinds : PySem.W.codeIn K cdM0Kinds "Kinds.__init__" = true)
    (kM0Kinds : PySem.W.keepIn K (.ref fM0Kinds) = true)
    (atM2Kinds : PySem.W.findIn K (.ref CoKinds) "leaf" = some (some (.ref qM2Kinds)))
    (geM2Kinds : PySem.W.specialIn K (.ref qM2Kinds) "__get__" = some (some (.builtin "property.__get__")))
    (taM2Kinds : PySem.W.takesIn K (.ref qM2Kinds) = some true)
    (reM2Kinds : PySem.W.recIn K qM2Kinds "property" = some (.ref fM2Kinds :: rsM2Kinds))
    (lM2Kinds : K.lookup fM2Kinds = some ⟨ocM2Kinds, odM2Kinds, .func (PySem.W.fnOf "leaf" "Kinds.leaf" (defArgs s_Kinds_leaf) (defBody s_Kinds_leaf) (defScope s_Kinds_leaf) .none kVM2Kinds dcM2Kinds pmM2Kinds anM2Kinds cdM2Kinds ctM2Kinds), slM2Kinds⟩)
    (cM2Kinds : PySem.W.codeIn K cdM2Kinds "Kinds.leaf" = true)
    (kM2Kinds : PySem.W.keepIn K (.ref fM2Kinds) = true)
    (atM3Kinds : PySem.W.findIn K (.ref CoKinds) "makings" = some (some (.ref qM3Kinds)))
    (geM3Kinds : PySem.W.specialIn K (.ref qM3Kinds) "__get__" = some (some (.builtin "property.__get__")))
    (taM3Kinds : PySem.W.takesIn K (.ref qM3Kinds) = some true)
    (reM3Kinds : PySem.W.recIn K qM3Kinds "property" = some (.ref fM3Kinds :: rsM3Kinds))
    (lM3Kinds : K.lookup fM3Kinds = some ⟨ocM3Kinds, odM3Kinds, .func (PySem.W.fnOf "makings" "Kinds.makings" (defArgs s_Kinds_makings) (defBody s_Kinds_makings) (defScope s_Kinds_makings) .none kVM3Kinds dcM3Kinds pmM3Kinds anM3Kinds cdM3Kinds ctM3Kinds), slM3Kinds⟩)
    (cM3Kinds : PySem.W.codeIn K cdM3Kinds "Kinds.makings" = true)
    (kM3Kinds : PySem.W.keepIn K (.ref fM3Kinds) = true)
    (atM4Kinds : PySem.W.findIn K (.ref CoKinds) "names" = some (some (.ref qM4Kinds)))
    (geM4Kinds : PySem.W.specialIn K (.ref qM4Kinds) "__get__" = some (some (.builtin "property.__get__")))
    (taM4Kinds : PySem.W.takesIn K (.ref qM4Kinds) = some true)
    (reM4Kinds : PySem.W.recIn K qM4Kinds "property" = some (.ref fM4Kinds :: rsM4Kinds))
    (lM4Kinds : K.lookup fM4Kinds = some ⟨ocM4Kinds, odM4Kinds, .func (PySem.W.fnOf "names" "Kinds.names" (defArgs s_Kinds_names) (defBody s_Kinds_names) (defScope s_Kinds_names) .none kVM4Kinds dcM4Kinds pmM4Kinds anM4Kinds cdM4Kinds ctM4Kinds), slM4Kinds⟩)
    (cM4Kinds : PySem.W.codeIn K cdM4Kinds "Kinds.names" = true)
    (kM4Kinds : PySem.W.keepIn K (.ref fM4Kinds) = true)
    (atM9Kinds : PySem.W.findIn K (.ref CoKinds) "__contains__" = some (some (.ref fM9Kinds)))
    (ifM9Kinds : PySem.W.isFn K (.ref fM9Kinds) = true)
    (lM9Kinds : K.lookup fM9Kinds = some ⟨ocM9Kinds, odM9Kinds, .func (PySem.W.fnOf "__contains__" "Kinds.__contains__" (defArgs s_Kinds_contains) (defBody s_Kinds_contains) (defScope s_Kinds_contains) .none kVM9Kinds dcM9Kinds pmM9Kinds anM9Kinds cdM9Kinds ctM9Kinds), slM9Kinds⟩)
    (cM9Kinds : PySem.W.codeIn K cdM9Kinds "Kinds.__contains__" = true)
    (kM9Kinds : PySem.W.keepIn K (.ref fM9Kinds) = true)
    (atM10Kinds : PySem.W.findIn K (.ref CoKinds) "__getitem__" = some (some (.ref fM10Kinds)))
    (ifM10Kinds : PySem.W.isFn K (.ref fM10Kinds) = true)
    (lM10Kinds : K.lookup fM10Kinds = some ⟨ocM10Kinds, odM10Kinds, .func (PySem.W.fnOf "__getitem__" "Kinds.__getitem__" (defArgs s_Kinds_getitem) (defBody s_Kinds_getitem) (defScope s_Kinds_getitem) .none kVM10Kinds dcM10Kinds pmM10Kinds anM10Kinds cdM10Kinds ctM10Kinds), slM10Kinds⟩)
    (cM10Kinds : PySem.W.codeIn K cdM10Kinds "Kinds.__getitem__" = true)
    (kM10Kinds : PySem.W.keepIn K (.ref fM10Kinds) = true)
    (atM12Kinds : PySem.W.findIn K (.ref CoKinds) "__len__" = some (some (.ref fM12Kinds)))
    (ifM12Kinds : PySem.W.isFn K (.ref fM12Kinds) = true)
    (lM12Kinds : K.lookup fM12Kinds = some ⟨ocM12Kinds, odM12Kinds, .func (PySem.W.fnOf "__len__" "Kinds.__len__" (defArgs s_Kinds_len) (defBody s_Kinds_len) (defScope s_Kinds_len) .none kVM12Kinds dcM12Kinds pmM12Kinds anM12Kinds cdM12Kinds ctM12Kinds), slM12Kinds⟩)
    (cM12Kinds : PySem.W.codeIn K cdM12Kinds "Kinds.__len__" = true)
    (kM12Kinds : PySem.W.keepIn K (.ref fM12Kinds) = true)
    (atM13Kinds : PySem.W.findIn K (.ref CoKinds) "__eq__" = some (some (.ref fM13Kinds)))
    (ifM13Kinds : PySem.W.isFn K (.ref fM13Kinds) = true)
    (lM13Kinds : K.lookup fM13Kinds = some ⟨ocM13Kinds, odM13Kinds, .func (PySem.W.fnOf "__eq__" "Kinds.__eq__" (defArgs s_Kinds_eq) (defBody s_Kinds_eq) (defScope s_Kinds_eq) .none kVM13Kinds dcM13Kinds pmM13Kinds anM13Kinds cdM13Kinds ctM13Kinds), slM13Kinds⟩)
    (cM13Kinds : PySem.W.codeIn K cdM13Kinds "Kinds.__eq__" = true)
    (kM13Kinds : PySem.W.keepIn K (.ref fM13Kinds) = true)
    (atM14Kinds : PySem.W.findIn K (.ref CoKinds) "__str__" = some (some (.ref fM14Kinds)))
    (ifM14Kinds : PySem.W.isFn K (.ref fM14Kinds) = true)
    (lM14Kinds : K.lookup fM14Kinds = some ⟨ocM14Kinds, odM14Kinds, .func (PySem.W.fnOf "__str__" "Kinds.__str__" (defArgs s_Kinds_str) (defBody s_Kinds_str) (defScope s_Kinds_str) .none kVM14Kinds dcM14Kinds pmM14Kinds anM14Kinds cdM14Kinds ctM14Kinds), slM14Kinds⟩)
    (cM14Kinds : PySem.W.codeIn K cdM14Kinds "Kinds.__str__" = true)
    (kM14Kinds : PySem.W.keepIn K (.ref fM14Kinds) = true)
    (m0 : PySem.W.nsIn K mainGlobals "MAX_LETTERS" = some (some (.int 8 t0)))
    (m1 : PySem.W.nsIn K mainGlobals "_TOO_LONG" = some (some (.int 1000000000000000000000000000000000000000000000000000000000000 t1)))
    (m2 : PySem.W.nsIn K mainGlobals "MAX_KINDS" = some (some (.int 6 t2)))
    (m3 : PySem.W.nsIn K mainGlobals "MAX_PARTS" = some (some (.int 3 t3)))
    (m4 : PySem.W.nsIn K mainGlobals "MAX_DIGIT" = some (some (.int 3 t4)))
    (m5 : PySem.W.nsIn K mainGlobals "MAX_RANKS" = some (some (.int 400 t5)))
    (m6 : PySem.W.nsIn K mainGlobals "LOOSE_DIGIT" = some (some (.int 20 t6)))
    (m7 : PySem.W.nsIn K mainGlobals "_LOOSE_RANKS" = some (some (.int 402 t7)))
    (z0 : PySem.W.nsIn K mainGlobals "IndexError" = some none)
    (z1 : PySem.W.nsIn K mainGlobals "KeyError" = some none)
    (z2 : PySem.W.nsIn K mainGlobals "TypeError" = some none)
    (z3 : PySem.W.nsIn K mainGlobals "ValueError" = some none)
    (z4 : PySem.W.nsIn K mainGlobals "abs" = some none)
    (z5 : PySem.W.nsIn K mainGlobals "all" = some none)
    (z6 : PySem.W.nsIn K mainGlobals "bool" = some none)
    (z7 : PySem.W.nsIn K mainGlobals "classmethod" = some none)
    (z8 : PySem.W.nsIn K mainGlobals "dict" = some none)
    (z9 : PySem.W.nsIn K mainGlobals "enumerate" = some none)
    (z10 : PySem.W.nsIn K mainGlobals "int" = some none)
    (z11 : PySem.W.nsIn K mainGlobals "isinstance" = some none)
    (z12 : PySem.W.nsIn K mainGlobals "len" = some none)
    (z13 : PySem.W.nsIn K mainGlobals "list" = some none)
    (z14 : PySem.W.nsIn K mainGlobals "max" = some none)
    (z15 : PySem.W.nsIn K mainGlobals "min" = some none)
    (z16 : PySem.W.nsIn K mainGlobals "property" = some none)
    (z17 : PySem.W.nsIn K mainGlobals "range" = some none)
    (z18 : PySem.W.nsIn K mainGlobals "repr" = some none)
    (z19 : PySem.W.nsIn K mainGlobals "set" = some none)
    (z20 : PySem.W.nsIn K mainGlobals "sorted" = some none)
    (z21 : PySem.W.nsIn K mainGlobals "str" = some none)
    (z22 : PySem.W.nsIn K mainGlobals "sum" = some none)
    (z23 : PySem.W.nsIn K mainGlobals "tuple" = some none)
    (z24 : PySem.W.nsIn K mainGlobals "zip" = some none) :
    ∃ fd : FuncData, (∀ (s : Shared) (v : Value), BindsTo s fd ⟨[v], []⟩ [("_law_script", v)]) ∧ ∀ base : Heap, K.In base → base.Ns mainGlobals mg → FnG l.prog w K mg base CX0 11 fa fd ["_law_script"] (spLaw K) := by
  have e := hfa.symm.trans (PySem.W.mg_of X G a35)
  cases e
  have T : Top K mg := {
    p_InvalidRow := ⟨Cy0, ⟨PySem.W.mg_of X G gy0, ⟨_, _, _, _, _, _, _, _, _, _, _, _, _, _, _, _, hy0, ty0⟩, iy0, ky0⟩, xclsB_ok zy0, exm_own by0 xy0 wy0 ry0⟩
    d_wall := ⟨_, _, fun_mk l0 c0 k0, (fun_mk (st := s_wall) l0 c0 k0).binds (ps := ["k"]) fun _ _ _ _ _ _ us hl => match us, hl with | [_], _ => rfl, PySem.W.mg_of X G a0⟩
    d_is_integer := ⟨_, _, fun_mk l1 c1 k1, (fun_mk (st := s_is_integer) l1 c1 k1).binds (ps := ["value"]) fun _ _ _ _ _ _ us hl => match us, hl with | [_], _ => rfl, PySem.W.mg_of X G a1⟩
    d_is_count := ⟨_, _, fun_mk l2 c2 k2, (fun_mk (st := s_is_count) l2 c2 k2).binds (ps := ["value"]) fun _ _ _ _ _ _ us hl => match us, hl with | [_], _ => rfl, PySem.W.mg_of X G a2⟩
    d_is_name := ⟨_, _, fun_mk l3 c3 k3, (fun_mk (st := s_is_name) l3 c3 k3).binds (ps := ["value"]) fun _ _ _ _ _ _ us hl => match us, hl with | [_], _ => rfl, PySem.W.mg_of X G a3⟩
    d_is_sorted := ⟨_, _, fun_mk l4 c4 k4, kbn_of fun us ws h1 h2 => match us, ws, h1, h2 with | [_], [_], _, _ => by first | rfl | with_unfolding_all rfl, PySem.W.mg_of X G a4⟩
    d_is_making := ⟨_, _, fun_mk l5 c5 k5, (fun_mk (st := s_is_making) l5 c5 k5).binds (ps := ["value"]) fun _ _ _ _ _ _ us hl => match us, hl with | [_], _ => rfl, PySem.W.mg_of X G a5⟩
    d_all_names := ⟨_, _, fun_mk l6 c6 k6, (fun_mk (st := s_all_names) l6 c6 k6).binds (ps := ["leaf", "makings"]) fun _ _ _ _ _ _ us hl => match us, hl with | [_, _], _ => rfl, PySem.W.mg_of X G a6⟩
    d_are_kinds := ⟨_, _, fun_mk l7 c7 k7, (fun_mk (st := s_are_kinds) l7 c7 k7).binds (ps := ["leaf", "makings"]) fun _ _ _ _ _ _ us hl => match us, hl with | [_, _], _ => rfl, PySem.W.mg_of X G a7⟩
    d_sums_above := ⟨_, _, fun_mk l8 c8 k8, (fun_mk (st := s_sums_above) l8 c8 k8).binds (ps := ["parts_of", "below"]) fun _ _ _ _ _ _ us hl => match us, hl with | [_, _], _ => rfl, PySem.W.mg_of X G a8⟩
    d_sums_by_rank := ⟨_, _, fun_mk l9 c9 k9, (fun_mk (st := s_sums_by_rank) l9 c9 k9).binds (ps := ["leaf", "parts_of", "ranks"]) fun _ _ _ _ _ _ us hl => match us, hl with | [_, _, _], _ => rfl, PySem.W.mg_of X G a9⟩
    d_are_digits := ⟨_, _, fun_mk l10 c10 k10, (fun_mk (st := s_are_digits) l10 c10 k10).binds (ps := ["value"]) fun _ _ _ _ _ _ us hl => match us, hl with | [_], _ => rfl, PySem.W.mg_of X G a10⟩
    d_are_loose_digits := ⟨_, _, fun_mk l11 c11 k11, (fun_mk (st := s_are_loose_digits) l11 c11 k11).binds (ps := ["value"]) fun _ _ _ _ _ _ us hl => match us, hl with | [_], _ => rfl, PySem.W.mg_of X G a11⟩
    d_check_kinds := ⟨_, _, fun_mk l12 c12 k12, (fun_mk (st := s_check_kinds) l12 c12 k12).binds (ps := ["kinds"]) fun _ _ _ _ _ _ us hl => match us, hl with | [_], _ => rfl, PySem.W.mg_of X G a12⟩
    d_check_loose := ⟨_, _, fun_mk l13 c13 k13, (fun_mk (st := s_check_loose) l13 c13 k13).binds (ps := ["row"]) fun _ _ _ _ _ _ us hl => match us, hl with | [_], _ => rfl, PySem.W.mg_of X G a13⟩
    d_is_digit := ⟨_, _, fun_mk l14 c14 k14, (fun_mk (st := s_is_digit) l14 c14 k14).binds (ps := ["value"]) fun _ _ _ _ _ _ us hl => match us, hl with | [_], _ => rfl, PySem.W.mg_of X G a14⟩
    d_is_loose := ⟨_, _, fun_mk l15 c15 k15, (fun_mk (st := s_is_loose) l15 c15 k15).binds (ps := ["value"]) fun _ _ _ _ _ _ us hl => match us, hl with | [_], _ => rfl, PySem.W.mg_of X G a15⟩
    d_is_row := ⟨_, _, fun_mk l16 c16 k16, (fun_mk (st := s_is_row) l16 c16 k16).binds (ps := ["kinds", "value"]) fun _ _ _ _ _ _ us hl => match us, hl with | [_, _], _ => rfl, PySem.W.mg_of X G a16⟩
    d_keys_of := ⟨_, _, fun_mk l17 c17 k17, (fun_mk (st := s_keys_of) l17 c17 k17).binds (ps := ["kinds", "row"]) fun _ _ _ _ _ _ us hl => match us, hl with | [_, _], _ => rfl, PySem.W.mg_of X G a17⟩
    d_trees_of := ⟨_, _, fun_mk l18 c18 k18, (fun_mk (st := s_trees_of) l18 c18 k18).binds (ps := ["row"]) fun _ _ _ _ _ _ us hl => match us, hl with | [_], _ => rfl, PySem.W.mg_of X G a18⟩
    d_law_dice := ⟨_, _, fun_mk l19 c19 k19, (fun_mk (st := s_law_dice) l19 c19 k19).binds (ps := ["_law_script", "_law_spot"]) fun _ _ _ _ _ _ us hl => match us, hl with | [_, _], _ => rfl, PySem.W.mg_of X G a19⟩
    d_law_roll := ⟨_, _, fun_mk l20 c20 k20, (fun_mk (st := s_law_roll) l20 c20 k20).binds (ps := ["_law_dice_here", "_law_total"]) fun _ _ _ _ _ _ us hl => match us, hl with | [_, _], _ => rfl, PySem.W.mg_of X G a20⟩
    d_law_pick := ⟨_, _, fun_mk l21 c21 k21, (fun_mk (st := s_law_pick) l21 c21 k21).binds (ps := ["_law_dice_here", "_law_items"]) fun _ _ _ _ _ _ us hl => match us, hl with | [_, _], _ => rfl, PySem.W.mg_of X G a21⟩
    d_law_mixed := ⟨_, _, fun_mk l22 c22 k22, (fun_mk (st := s_law_mixed) l22 c22 k22).binds (ps := ["_law_dice_here", "_law_items"]) fun _ _ _ _ _ _ us hl => match us, hl with | [_, _], _ => rfl, PySem.W.mg_of X G a22⟩
    d_law_made_kinds := ⟨_, _, fun_mk l23 c23 k23, (fun_mk (st := s_law_made_kinds) l23 c23 k23).binds (ps := ["_law_plain"]) fun _ _ _ _ _ _ us hl => match us, hl with | [_], _ => rfl, PySem.W.mg_of X G a23⟩
    d_law_sizes := ⟨_, _, fun_mk l24 c24 k24, (fun_mk (st := s_law_sizes) l24 c24 k24).binds (ps := ["_law_plain", "_law_bound"]) fun _ _ _ _ _ _ us hl => match us, hl with | [_, _], _ => rfl, PySem.W.mg_of X G a24⟩
    d_law_pool_names := ⟨_, _, fun_mk l25 c25 k25, (fun_mk (st := s_law_pool_names) l25 c25 k25).binds (ps := ["_law_dice_here", "_law_many"]) fun _ _ _ _ _ _ us hl => match us, hl with | [_, _], _ => rfl, PySem.W.mg_of X G a25⟩
    d_law_drawn_digit := ⟨_, _, fun_mk l26 c26 k26, (fun_mk (st := s_law_drawn_digit) l26 c26 k26).binds (ps := ["_law_dice_here", "_law_names", "_law_most"]) fun _ _ _ _ _ _ us hl => match us, hl with | [_, _, _], _ => rfl, PySem.W.mg_of X G a26⟩
    d_law_drawn_makings := ⟨_, _, fun_mk l27 c27 k27, (fun_mk (st := s_law_drawn_makings) l27 c27 k27).binds (ps := ["_law_dice_here"]) fun _ _ _ _ _ _ us hl => match us, hl with | [_], _ => rfl, PySem.W.mg_of X G a27⟩
    d_law_tree_size := ⟨_, _, fun_mk l28 c28 k28, (fun_mk (st := s_law_tree_size) l28 c28 k28).binds (ps := ["_law_plain", "_law_kind", "_law_rank"]) fun _ _ _ _ _ _ us hl => match us, hl with | [_, _, _], _ => rfl, PySem.W.mg_of X G a28⟩
    d_law_drawn_row := ⟨_, _, fun_mk l29 c29 k29, (fun_mk (st := s_law_drawn_row) l29 c29 k29).binds (ps := ["_law_dice_here", "_law_plain", "_law_most"]) fun _ _ _ _ _ _ us hl => match us, hl with | [_, _, _], _ => rfl, PySem.W.mg_of X G a29⟩
    d_law_keys_by_trees := ⟨_, _, fun_mk l30 c30 k30, (fun_mk (st := s_law_keys_by_trees) l30 c30 k30).binds (ps := ["_law_plain", "_law_row"]) fun _ _ _ _ _ _ us hl => match us, hl with | [_, _], _ => rfl, PySem.W.mg_of X G a30⟩
    d_law_told := ⟨_, _, fun_mk l31 c31 k31, (fun_mk (st := s_law_told) l31 c31 k31).binds (ps := ["_law_kinds", "_law_row"]) fun _ _ _ _ _ _ us hl => match us, hl with | [_, _], _ => rfl, PySem.W.mg_of X G a31⟩
    d_law_bent_rows := ⟨_, _, fun_mk l32 c32 k32, (fun_mk (st := s_law_bent_rows) l32 c32 k32).binds (ps := ["_law_dice_here", "_law_row"]) fun _ _ _ _ _ _ us hl => match us, hl with | [_, _], _ => rfl, PySem.W.mg_of X G a32⟩
    d_law_right := ⟨_, _, fun_mk l33 c33 k33, (fun_mk (st := s_law_right) l33 c33 k33).binds (ps := ["_law_dice_here"]) fun _ _ _ _ _ _ us hl => match us, hl with | [_], _ => rfl, PySem.W.mg_of X G a33⟩
    d_law_ones := ⟨_, _, fun_mk l34 c34 k34, (fun_mk (st := s_law_ones) l34 c34 k34).binds (ps := ["_law_many"]) fun _ _ _ _ _ _ us hl => match us, hl with | [_], _ => rfl, PySem.W.mg_of X G a34⟩
    c_Kinds := ⟨CoKinds, { gC := PySem.W.mg_of X G goKinds, cl := ⟨pgoKinds, hdoKinds, pooKinds, saoKinds⟩, ne := neoKinds, ob := oboKinds, kit := kioKinds, kitT := ktoKinds, kitD := kdoKinds, ca := caoKinds, cg := cgoKinds, ct := ctoKinds, n_leaf := n_leafoKinds, n_makings := n_makingsoKinds, n_names := n_namesoKinds, made := ⟨_, _, ⟨mkoKinds, atM0Kinds, ifM0Kinds, kcoKinds⟩, fun_mk (st := s_Kinds_init) lM0Kinds cM0Kinds kM0Kinds, (fun_mk (st := s_Kinds_init) lM0Kinds cM0Kinds kM0Kinds).binds (ps := ["self", "leaf", "makings"]) fun _ _ _ _ _ _ us hl => match us, hl with | [_, _, _], _ => rfl⟩, p_leaf := ⟨_, _, _, ⟨atM2Kinds, geM2Kinds, taM2Kinds, ⟨_, reM2Kinds⟩⟩, fun_mk (st := s_Kinds_leaf) lM2Kinds cM2Kinds kM2Kinds, (fun_mk (st := s_Kinds_leaf) lM2Kinds cM2Kinds kM2Kinds).binds (ps := ["self"]) fun _ _ _ _ _ _ us hl => match us, hl with | [_], _ => rfl⟩, p_makings := ⟨_, _, _, ⟨atM3Kinds, geM3Kinds, taM3Kinds, ⟨_, reM3Kinds⟩⟩, fun_mk (st := s_Kinds_makings) lM3Kinds cM3Kinds kM3Kinds, (fun_mk (st := s_Kinds_makings) lM3Kinds cM3Kinds kM3Kinds).binds (ps := ["self"]) fun _ _ _ _ _ _ us hl => match us, hl with | [_], _ => rfl⟩, p_names := ⟨_, _, _, ⟨atM4Kinds, geM4Kinds, taM4Kinds, ⟨_, reM4Kinds⟩⟩, fun_mk (st := s_Kinds_names) lM4Kinds cM4Kinds kM4Kinds, (fun_mk (st := s_Kinds_names) lM4Kinds cM4Kinds kM4Kinds).binds (ps := ["self"]) fun _ _ _ _ _ _ us hl => match us, hl with | [_], _ => rfl⟩, m_contains := ⟨_, _, fun_mk (st := s_Kinds_contains) lM9Kinds cM9Kinds kM9Kinds, ⟨atM9Kinds, ifM9Kinds, kM9Kinds⟩, ((fun_mk (st := s_Kinds_contains) lM9Kinds cM9Kinds kM9Kinds).binds (ps := ["self", "value"]) fun _ _ _ _ _ _ us hl => match us, hl with | [_, _], _ => rfl), fn_in lM9Kinds⟩, m_getitem := ⟨_, _, fun_mk (st := s_Kinds_getitem) lM10Kinds cM10Kinds kM10Kinds, ⟨atM10Kinds, ifM10Kinds, kM10Kinds⟩, ((fun_mk (st := s_Kinds_getitem) lM10Kinds cM10Kinds kM10Kinds).binds (ps := ["self", "name"]) fun _ _ _ _ _ _ us hl => match us, hl with | [_, _], _ => rfl), fn_in lM10Kinds⟩, m_len := ⟨_, _, fun_mk (st := s_Kinds_len) lM12Kinds cM12Kinds kM12Kinds, ⟨atM12Kinds, ifM12Kinds, kM12Kinds⟩, ((fun_mk (st := s_Kinds_len) lM12Kinds cM12Kinds kM12Kinds).binds (ps := ["self"]) fun _ _ _ _ _ _ us hl => match us, hl with | [_], _ => rfl), fn_in lM12Kinds⟩, m_eq := ⟨_, _, fun_mk (st := s_Kinds_eq) lM13Kinds cM13Kinds kM13Kinds, ⟨atM13Kinds, ifM13Kinds, kM13Kinds⟩, ((fun_mk (st := s_Kinds_eq) lM13Kinds cM13Kinds kM13Kinds).binds (ps := ["self", "other"]) fun _ _ _ _ _ _ us hl => match us, hl with | [_, _], _ => rfl), fn_in lM13Kinds⟩, m_str := ⟨_, _, fun_mk (st := s_Kinds_str) lM14Kinds cM14Kinds kM14Kinds, ⟨atM14Kinds, ifM14Kinds, kM14Kinds⟩, ((fun_mk (st := s_Kinds_str) lM14Kinds cM14Kinds kM14Kinds).binds (ps := ["self"]) fun _ _ _ _ _ _ us hl => match us, hl with | [_], _ => rfl), fn_in lM14Kinds⟩ }⟩
    g_MAX_LETTERS := ⟨_, PySem.W.mg_of X G m0⟩
    g__TOO_LONG := ⟨_, PySem.W.mg_of X G m1⟩
    g_MAX_KINDS := ⟨_, PySem.W.mg_of X G m2⟩
    g_MAX_PARTS := ⟨_, PySem.W.mg_of X G m3⟩
    g_MAX_DIGIT := ⟨_, PySem.W.mg_of X G m4⟩
    g_MAX_RANKS := ⟨_, PySem.W.mg_of X G m5⟩
    g_LOOSE_DIGIT := ⟨_, PySem.W.mg_of X G m6⟩
    g__LOOSE_RANKS := ⟨_, PySem.W.mg_of X G m7⟩
    b_IndexError := PySem.W.mg_none_of X G z0
    b_KeyError := PySem.W.mg_none_of X G z1
    b_TypeError := PySem.W.mg_none_of X G z2
    b_ValueError := PySem.W.mg_none_of X G z3
    b_abs := PySem.W.mg_none_of X G z4
    b_all := PySem.W.mg_none_of X G z5
    b_bool := PySem.W.mg_none_of X G z6
    b_classmethod := PySem.W.mg_none_of X G z7
    b_dict := PySem.W.mg_none_of X G z8
    b_enumerate := PySem.W.mg_none_of X G z9
    b_int := PySem.W.mg_none_of X G z10
    b_isinstance := PySem.W.mg_none_of X G z11
    b_len := PySem.W.mg_none_of X G z12
    b_list := PySem.W.mg_none_of X G z13
    b_max := PySem.W.mg_none_of X G z14
    b_min := PySem.W.mg_none_of X G z15
    b_property := PySem.W.mg_none_of X G z16
    b_range := PySem.W.mg_none_of X G z17
    b_repr := PySem.W.mg_none_of X G z18
    b_set := PySem.W.mg_none_of X G z19
    b_sorted := PySem.W.mg_none_of X G z20
    b_str := PySem.W.mg_none_of X G z21
    b_sum := PySem.W.mg_none_of X G z22
    b_tuple := PySem.W.mg_none_of X G z23
    b_zip := PySem.W.mg_none_of X G z24 }
  exact ⟨PySem.W.fnOf "law" "law" (defArgs s_law) (defBody s_law) (defScope s_law) .none kV35 dc35 pm35 an35 cd35 ct35, fun s v => .of_eq rfl, fun base _ _ => ok_law (fun_mk (st := s_law) l35 c35 k35) T⟩
end Kl
open PySem PySem.W PyProof.Rows
set_option maxHeartbeats 0 in
theorem PySem.Challenge.cw_linkbooks_k14_whole_rows_judged_by_trees_holds : PySem.Challenge.rw_linkbooks_k14_whole_rows_judged_by_trees.Holds := by
  w_on; o_law; k_head; (case hw => w_witness2)
  k_fill
  refine Gx.walkG (l := PySem.Challenge.rw_linkbooks_k14_whole_rows_judged_by_trees) (n := 63) (k := 11) (x := "_law_script") (CX := fun _ => L2.CX0) (sp := fun w => Kl.spLaw _) rfl (by decide) rfl ⟨rfl, by decide, by decide⟩ (fun w h Y => PySem.W.kIn_of Y) ?F (fun _ _ a ns hl _ hS => ⟨a, ns, rfl, hS, hl, fun _ => rfl⟩) (fun _ _ _ _ _ h => h)
  case F =>
    intro w mg fa h KX G hmg
    refine' Kl.all_mk KX G hmg ?gy0 ?hy0 ?ty0 ?iy0 ?ky0 ?by0 ?wy0 ?xy0 ?ry0 ?zy0 ?a0 ?l0 ?c0 ?k0 ?a1 ?l1 ?c1 ?k1 ?a2 ?l2 ?c2 ?k2 ?a3 ?l3 ?c3 ?k3 ?a4 ?l4 ?c4 ?k4 ?a5 ?l5 ?c5 ?k5 ?a6 ?l6 ?c6 ?k6 ?a7 ?l7 ?c7 ?k7 ?a8 ?l8 ?c8 ?k8 ?a9 ?l9 ?c9 ?k9 ?a10 ?l10 ?c10 ?k10 ?a11 ?l11 ?c11 ?k11 ?a12 ?l12 ?c12 ?k12 ?a13 ?l13 ?c13 ?k13 ?a14 ?l14 ?c14 ?k14 ?a15 ?l15 ?c15 ?k15 ?a16 ?l16 ?c16 ?k16 ?a17 ?l17 ?c17 ?k17 ?a18 ?l18 ?c18 ?k18 ?a19 ?l19 ?c19 ?k19 ?a20 ?l20 ?c20 ?k20 ?a21 ?l21 ?c21 ?k21 ?a22 ?l22 ?c22 ?k22 ?a23 ?l23 ?c23 ?k23 ?a24 ?l24 ?c24 ?k24 ?a25 ?l25 ?c25 ?k25 ?a26 ?l26 ?c26 ?k26 ?a27 ?l27 ?c27 ?k27 ?a28 ?l28 ?c28 ?k28 ?a29 ?l29 ?c29 ?k29 ?a30 ?l30 ?c30 ?k30 ?a31 ?l31 ?c31 ?k31 ?a32 ?l32 ?c32 ?k32 ?a33 ?l33 ?c33 ?k33 ?a34 ?l34 ?c34 ?k34 ?a35 ?l35 ?c35 ?k35 ?goKinds ?pgoKinds ?hdoKinds ?pooKinds ?saoKinds ?mkoKinds ?kcoKinds ?neoKinds ?oboKinds ?kioKinds ?ktoKinds ?kdoKinds ?caoKinds ?cgoKinds ?ctoKinds ?n_leafoKinds ?n_makingsoKinds ?n_namesoKinds ?atM0Kinds ?ifM0Kinds ?lM0Kinds ?cM0Kinds ?kM0Kinds ?atM2Kinds ?geM2Kinds ?taM2Kinds ?reM2Kinds ?lM2Kinds ?cM2Kinds ?kM2Kinds ?atM3Kinds ?geM3Kinds ?taM3Kinds ?reM3Kinds ?lM3Kinds ?cM3Kinds ?kM3Kinds ?atM4Kinds ?geM4Kinds ?taM4Kinds ?reM4Kinds ?lM4Kinds ?cM4Kinds ?kM4Kinds ?atM9Kinds ?ifM9Kinds ?lM9Kinds ?cM9Kinds ?kM9Kinds ?atM10Kinds ?ifM10Kinds ?lM10Kinds ?cM10Kinds ?kM10Kinds ?atM12Kinds ?ifM12Kinds ?lM12Kinds ?cM12Kinds ?kM12Kinds ?atM13Kinds ?ifM13Kinds ?lM13Kinds ?cM13Kinds ?kM13Kinds ?atM14Kinds ?ifM14Kinds ?lM14Kinds ?cM14Kinds ?kM14Kinds ?m0 ?m1 ?m2 ?m3 ?m4 ?m5 ?m6 ?m7 ?z0 ?z1 ?z2 ?z3 ?z4 ?z5 ?z6 ?z7 ?z8 ?z9 ?z10 ?z11 ?z12 ?z13 ?z14 ?z15 ?z16 ?z17 ?z18 ?z19 ?z20 ?z21 ?z22 ?z23 ?z24
    (case gy0 => k_is); (case hy0 => k_is); (case ty0 => decide +kernel); (case iy0 => k_is); (case ky0 => k_is); (case by0 => k_is); (case wy0 => k_is); (case xy0 => k_is); (case ry0 => first | rfl | k_is); (case zy0 => kernel_rfl); (case a0 => k_is); (case l0 => k_is); (case c0 => k_is); (case k0 => k_is); (case a1 => k_is); (case l1 => k_is); (case c1 => k_is); (case k1 => k_is); (case a2 => k_is); (case l2 => k_is); (case c2 => k_is); (case k2 => k_is); (case a3 => k_is); (case l3 => k_is); (case c3 => k_is); (case k3 => k_is); (case a4 => k_is); (case l4 => k_is); (case c4 => k_is); (case k4 => k_is); (case a5 => k_is); (case l5 => k_is); (case c5 => k_is); (case k5 => k_is); (case a6 => k_is); (case l6 => k_is); (case c6 => k_is); (case k6 => k_is); (case a7 => k_is); (case l7 => k_is); (case c7 => k_is); (case k7 => k_is); (case a8 => k_is); (case l8 => k_is); (case c8 => k_is); (case k8 => k_is); (case a9 => k_is); (case l9 => k_is); (case c9 => k_is); (case k9 => k_is); (case a10 => k_is); (case l10 => k_is); (case c10 => k_is); (case k10 => k_is); (case a11 => k_is); (case l11 => k_is); (case c11 => k_is); (case k11 => k_is); (case a12 => k_is); (case l12 => k_is); (case c12 => k_is); (case k12 => k_is); (case a13 => k_is); (case l13 => k_is); (case c13 => k_is); (case k13 => k_is); (case a14 => k_is); (case l14 => k_is); (case c14 => k_is); (case k14 => k_is); (case a15 => k_is); (case l15 => k_is); (case c15 => k_is); (case k15 => k_is); (case a16 => k_is); (case l16 => k_is); (case c16 => k_is); (case k16 => k_is); (case a17 => k_is); (case l17 => k_is); (case c17 => k_is); (case k17 => k_is); (case a18 => k_is); (case l18 => k_is); (case c18 => k_is); (case k18 => k_is); (case a19 => k_is); (case l19 => k_is); (case c19 => k_is); (case k19 => k_is); (case a20 => k_is); (case l20 => k_is); (case c20 => k_is); (case k20 => k_is); (case a21 => k_is); (case l21 => k_is); (case c21 => k_is); (case k21 => k_is); (case a22 => k_is); (case l22 => k_is); (case c22 => k_is); (case k22 => k_is); (case a23 => k_is); (case l23 => k_is); (case c23 => k_is); (case k23 => k_is); (case a24 => k_is); (case l24 => k_is); (case c24 => k_is); (case k24 => k_is); (case a25 => k_is); (case l25 => k_is); (case c25 => k_is); (case k25 => k_is); (case a26 => k_is); (case l26 => k_is); (case c26 => k_is); (case k26 => k_is); (case a27 => k_is); (case l27 => k_is); (case c27 => k_is); (case k27 => k_is); (case a28 => k_is); (case l28 => k_is); (case c28 => k_is); (case k28 => k_is); (case a29 => k_is); (case l29 => k_is); (case c29 => k_is); (case k29 => k_is); (case a30 => k_is); (case l30 => k_is); (case c30 => k_is); (case k30 => k_is); (case a31 => k_is); (case l31 => k_is); (case c31 => k_is); (case k31 => k_is); (case a32 => k_is); (case l32 => k_is); (case c32 => k_is); (case k32 => k_is); (case a33 => k_is); (case l33 => k_is); (case c33 => k_is); (case k33 => k_is); (case a34 => k_is); (case l34 => k_is); (case c34 => k_is); (case k34 => k_is); (case a35 => k_is); (case l35 => k_is); (case c35 => k_is); (case k35 => k_is); (case goKinds => k_is); (case pgoKinds => k_is); (case hdoKinds => k_is); (case pooKinds => k_is); (case saoKinds => k_is); (case mkoKinds => k_is); (case kcoKinds => k_is); (case neoKinds => k_is); (case oboKinds => k_is); (case kioKinds => first | rfl | k_is); (case ktoKinds => first | rfl | k_is); (case kdoKinds => first | rfl | k_is); (case caoKinds => k_is); (case cgoKinds => k_is); (case ctoKinds => k_is); (case n_leafoKinds => k_is); (case n_makingsoKinds => k_is); (case n_namesoKinds => k_is); (case atM0Kinds => k_is); (case ifM0Kinds => k_is); (case lM0Kinds => k_is); (case cM0Kinds => k_is); (case kM0Kinds => k_is); (case atM2Kinds => k_is); (case geM2Kinds => k_is); (case taM2Kinds => k_is); (case reM2Kinds => k_is); (case lM2Kinds => k_is); (case cM2Kinds => k_is); (case kM2Kinds => k_is); (case atM3Kinds => k_is); (case geM3Kinds => k_is); (case taM3Kinds => k_is); (case reM3Kinds => k_is); (case lM3Kinds => k_is); (case cM3Kinds => k_is); (case kM3Kinds => k_is); (case atM4Kinds => k_is); (case geM4Kinds => k_is); (case taM4Kinds => k_is); (case reM4Kinds => k_is); (case lM4Kinds => k_is); (case cM4Kinds => k_is); (case kM4Kinds => k_is); (case atM9Kinds => k_is); (case ifM9Kinds => k_is); (case lM9Kinds => k_is); (case cM9Kinds => k_is); (case kM9Kinds => k_is); (case atM10Kinds => k_is); (case ifM10Kinds => k_is); (case lM10Kinds => k_is); (case cM10Kinds => k_is); (case kM10Kinds => k_is); (case atM12Kinds => k_is); (case ifM12Kinds => k_is); (case lM12Kinds => k_is); (case cM12Kinds => k_is); (case kM12Kinds => k_is); (case atM13Kinds => k_is); (case ifM13Kinds => k_is); (case lM13Kinds => k_is); (case cM13Kinds => k_is); (case kM13Kinds => k_is); (case atM14Kinds => k_is); (case ifM14Kinds => k_is); (case lM14Kinds => k_is); (case cM14Kinds => k_is); (case kM14Kinds => k_is); (case m0 => k_is); (case m1 => k_is); (case m2 => k_is); (case m3 => k_is); (case m4 => k_is); (case m5 => k_is); (case m6 => k_is); (case m7 => k_is); (case z0 => k_is); (case z1 => k_is); (case z2 => k_is); (case z3 => k_is); (case z4 => k_is); (case z5 => k_is); (case z6 => k_is); (case z7 => k_is); (case z8 => k_is); (case z9 => k_is); (case z10 => k_is); (case z11 => k_is); (case z12 => k_is); (case z13 => k_is); (case z14 => k_is); (case z15 => k_is); (case z16 => k_is); (case z17 => k_is); (case z18 => k_is); (case z19 => k_is); (case z20 => k_is); (case z21 => k_is); (case z22 => k_is); (case z23 => k_is); (case z24 => k_is)
