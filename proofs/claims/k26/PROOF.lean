import PyProof.Rows.All
import Wide.All
import OpenK.AllK
import Wide.FinOn
import KE.KCallOwn
import KE.KEqDict
import PyProof.InstEq
import HandS.Base
import HandS.Call
import HandS.List
import HandS.Dict
import HandS.More
import HandS.Comp
import HandS.Words
import HandS.Property
import HandS.IsInst
import PyProof.Rows.SortShellAny
import PyProof.Rows.SetFrom
import HandS.Set
import PyProof.Rows.StrCountLaw
import HandS.ForMost
import HandS.Wide
import HandS.StrMore
import HandS.Style
import PyProof.ReprReads
import HandS.Ends
import PyProof.ReprRoads
import PyProof.TupleOfSeq
import KE.KExcInit
import HandS.ForExc
import HandS.TryMany
import HandS.Defaults
import HandS.Deep
import HandS.ExcValue
import KE.KExcMake
import KE.KExcIs
import HandS.ClsMeth
import HandS.Lambda
import HandS.EndBits
import KE.KNest
import HandS.Star
import HandS.CallLocal
import HandS.Walk
import HandS.FStr
import HandS.DictComp
import HandS.ListItems
import HandS.TupAny
import HandS.Strs
import HandS.SetFor
import PyProof.Rows.StrSplitCount
import PyProof.Rows.StrSplitJoin
import HandS.RaiseMore
import HandS.ReCall
import HandS.SetBool
import PyProof.SetRoads
import HandS.Iter
import KE.KDictKeyed
import KE.KDictWalk
import HandS.TupSets
import KE.SortData
import KE.KSortTup
import HandS.DictTup
import HandS.Conv
import KE.KDictCopyH
import KE.SortKeyHeap
import KE.SortCalls
import HandS.TryOnly
import PyProof.Rows.RegFStrParts
import HandS.Small
import HandS.DictEq
import HandS.Flow
import HandS.Sort
import PyProof.ListRange
import PyProof.StrOps2
import HandS.Zip
import KE.GoesEnum
import KE.KDictList
import HandS.TupMul
import KE.KNestM
import KE.KExcLine
import PySem.Challenge.RW_linkbooks_k26_whole_machines_run
set_option Elab.async false
set_option linter.all false
set_option maxRecDepth 100000
set_option maxHeartbeats 4000000
namespace Gx
open PySem PySem.Spec PySem.Calls PyProof.Rows L2
theorem rel_ref (a : Addr) : RelV (V.ref a) (Value.ref a) := rfl
/-- a method of the class at C that keeps the promise sp, by at most level k -/
def CalM (P : Program) (w : World) (K : PySem.W.Frag) (mg : Str → Option Value) (base : Heap) (C : Addr) (m : Str) (k : Nat) (ps : List Str) (sp : Sp) : Prop :=
  ∃ (f : Addr) (fd : FuncData), FnOk P w K mg base CX0 k f fd ps sp ∧ Meth K C m f ∧ Binds K fd ps [] ∧ PySem.W.fnIn K f = true
theorem CalM.mono {P : Program} {w : World} {K : PySem.W.Frag} {mg : Str → Option Value} {base : Heap} {C : Addr} {m : Str} {j k : Nat} {ps : List Str} {sp : Sp} (c : CalM P w K mg base C m j ps sp) (h : j ≤ k) : CalM P w K mg base C m k ps sp := by
  obtain ⟨f, fd, F, more⟩ := c
  exact ⟨f, fd, F.mono h, more⟩
section
variable {X : Cx} {C : Addr} {k : Nat} {ps : List Str} {sp : Sp} {m : Str}
/-- the method runs, somewhere below the body -/
theorem run_below {f : Addr} {fd : FuncData} {A : Around} {pins : List (Addr × Obj)} {σ : L2.St} {H : Hp} {s : Shared} {us : List Value} {vs : List V} {Q : VK} {E : Value → Shared → Prop} (F : FnOk X.prog X.w X.K X.mg X.base CX0 k f fd ps sp) (room : Room k A) (fr : A.frames = X.A.frames) (b : Binds X.K fd ps [])
    (I : Inv X pins σ H s) (r : Vals vs us) (want : sp vs H Q E0) : wpAny (model X.prog X.w) A (call (.ref f) us) (EP X pins σ Q) E s := by
  have e0 : Env0 X.prog X.w X.K X.mg X.base A X.stack s H := by
    have e := I.env0
    exact ⟨by rw [fr]; exact e.frames, e.mod, e.bs, e.bsz, e.funs, e.frf, e.hok, e.bare⟩
  have hl : us.length = ps.length := r.length.symm.trans (F.len _ _ _ _ want)
  have bt : BindsTo s fd ⟨us, []⟩ (ps.zip us) := by
    have q := b s us I.kIn (by rw [List.append_nil]; exact hl)
    rw [List.append_nil] at q
    exact q
  refine wpAny_call (codeAny_mono (F.run A X.stack s H ⟨us, []⟩ us vs Q E0 room e0 bt r want) fun res s' hres => ?_)
  match res, hres with
  | .error e, hres => exact hres.elim
  | .ok (.ret u), hres => exact I.after hres
/-- x in o, x not in o -/
def rInM (C : Addr) (sp : Sp) (neg : Bool) : R2 := fun x y H Q => ∃ a dx fs, y = .ref a ∧ H a = some (.ins C dx fs) ∧ sp [.ref a, x] H (fun v H' => ∃ b, v = .bl b ∧ Q (.bl (if neg then !b else b)) H') E0
theorem op_inM (c : CalM X.prog X.w X.K X.mg X.base C "__contains__" k ps sp) (hr : Room k X.A) : OpR X (compareOp .In) (rInM C sp false) := by
  intro pins s σ H x y v u Q I rx ry h
  obtain ⟨f, fd, F, me, b, _⟩ := c
  obtain ⟨a, dx, fs, rfl, ea, q⟩ := h
  obtain rfl : u = Value.ref a := ry
  obtain ⟨mA, O, _⟩ := ins_get I.hok ea
  obtain ⟨od, J, _⟩ := O.look
  obtain ⟨mm, hF⟩ := I.fr
  refine PySem.W.in_K hF I.ok.mod.kin J me.at_ me.fn (wpAny_mono (run_below F hr rfl b I (.cons (rel_ref a) (.cons rx .nil)) q) (fun r s' z => ?_) fun _ _ e => e)
  obtain ⟨v', H', I', rv, t, rfl, q'⟩ := z
  cases rv
  exact wpAny_truthy_bool ⟨.bl t, H', I', rfl, q'⟩
/-- o[x] -/
def rIxM (C : Addr) (sp : Sp) : R2 := fun x y H Q => ∃ a dx fs, x = .ref a ∧ H a = some (.ins C dx fs) ∧ sp [.ref a, y] H Q E0
theorem pe_ixM {a b : Expr} {ta tb : TE} {pos : Pos} (c : CalM X.prog X.w X.K X.mg X.base C "__getitem__" k ps sp) (hr : Room (k + 1) X.A) (ha : PE X a ta) (hb : PE X b tb)
    (hs : ∀ v u, subscripted b true v u = runValue (.builtin "lifetime.subscript" ⟨[v, u], []⟩)) : PE X (.Subscript a b pos) (tOp (rIxM C sp) ta tb) := by
  obtain ⟨f, fd, F, me, bi, fi⟩ := c
  refine ⟨fun pins s σ H Q I h => ?_⟩
  refine Subscript_ (binT ha hb I h fun v u s2 x y H2 I2 rx ry q => ?_)
  obtain ⟨p, dx, fs, rfl, ea, q⟩ := q
  obtain rfl : v = Value.ref p := rx
  obtain ⟨mA, O, _⟩ := ins_get I2.hok ea
  obtain ⟨od, J, _⟩ := O.look
  obtain ⟨mm, hF⟩ := I2.fr
  exact PySem.W.sub_K hF I2.ok.mod.kin J me.at_ fi me.fn (run_below F hr.in1 rfl bi I2 (.cons (rel_ref _) (.cons ry .nil)) q) (hs _ _)
/-- what an instance of the class at C may be compared with: another one, a tuple, a dict -/
inductive Oth (K : PySem.W.Frag) (H : Hp) (C : Addr) : V → Value → Prop
  | ins {a dx : Addr} {fs : List (Str × V)} (e : H a = some (.ins C dx fs)) : Oth K H C (.ref a) (.ref C)
  | tup {a : Addr} {xs : List V} (e : SqT K H a xs) : Oth K H C (.ref a) (.type "tuple")
  | dict {a : Addr} {kvs : List (Key × V)} (e : H a = some (.dK kvs)) : Oth K H C (.ref a) (.type "dict")
theorem sub_tuple_own {K : PySem.W.Frag} {C : Addr} : PySem.W.subIn K (.type "tuple") (.ref C) = some false := by
  have e : fastBuiltinMro "tuple" = some [.type "tuple", .type "object"] := by decide +kernel
  show (fastBuiltinMro "tuple").map (·.contains (.ref C)) = some false
  rw [e]
  first
    | rfl
    | simp
theorem sub_dict_own {K : PySem.W.Frag} {C : Addr} : PySem.W.subIn K (.type "dict") (.ref C) = some false := by
  have e : fastBuiltinMro "dict" = some [.type "dict", .type "object"] := by decide +kernel
  show (fastBuiltinMro "dict").map (·.contains (.ref C)) = some false
  rw [e]
  first
    | rfl
    | simp
theorem Oth.looks {M : Model} {pins : List (Addr × Obj)} {σ : L2.St} {H : Hp} {s : Shared} {y : V} {u t : Value} (I : Inv X pins σ H s) (o : Oth X.K H C y t) (r : RelV y u) :
    PySem.W.Looks M s.heap (typeOf u) t ∧ PySem.W.notFirst X.K C t = true := by
  cases o with
  | @ins a dx fs e =>
    obtain rfl : u = Value.ref a := r
    obtain ⟨mA, O, _⟩ := ins_get I.hok e
    obtain ⟨od, J, _⟩ := O.look
    exact ⟨J.type, by simp [PySem.W.notFirst]⟩
  | @tup a xs e =>
    obtain rfl : u = Value.ref a := r
    obtain ⟨its, rv, ⟨ob, ho, hc, _⟩, _⟩ := I.tuple e
    refine ⟨?_, by simp [PySem.W.notFirst, sub_tuple_own]⟩
    intro A Q E s' kp q
    exact wpAny_typeOf (T := "tuple") ⟨ob, kp _ _ ho, hc⟩ q
  | @dict a kvs e =>
    obtain rfl : u = Value.ref a := r
    obtain ⟨_, _, vs, _, dd⟩ := dk_of I.hok e
    refine ⟨?_, by simp [PySem.W.notFirst, sub_dict_own]⟩
    intro A Q E s' kp q
    obtain ⟨ob, ho, hc⟩ := dd.typeIs
    exact wpAny_typeOf (T := "dict") ⟨ob, kp _ _ ho, hc⟩ q
end
section
variable {X : Cx} {C : Addr} {k : Nat} {ps : List Str} {sp : Sp}
def tStarD (te : TE) (t : TA) : TA := fun σ H Q => te σ H fun x H1 => ∃ p kvs, x = V.ref p ∧ H1 p = some (.dK kvs) ∧ t σ H1 fun ys H2 => Q ((kvs.map fun kv => kV kv.1) ++ ys) H2
theorem star_dict {pins : List (Addr × Obj)} {σ : L2.St} {H : Hp} {s : Shared} (hc : X.calm = true) {a : Addr} {kvs : List (Key × V)} {E : Value → Shared → Prop} {Q : List Value → Shared → Prop} (I : Inv X pins σ H s) (h : H a = some (.dK kvs)) (hQ : ∀ us s', Inv X pins σ H s' → Vals (kvs.map fun kv => kV kv.1) us → Q us s') :
    PySem.W.StarOf (model X.prog X.w) X.A E (.ref a) Q s := by
  obtain ⟨z, lo, vs, rel, dd⟩ := dk_of I.hok h
  obtain ⟨ep, hat⟩ := dd.dictAt
  have hT : s.TypeIs (.ref a) "dict" := dd.typeIs
  have z2 : vs.length ≤ sizeLine := by rw [← rel.length]; exact z
  have ek : (kvs.map fun kv => kV kv.1) = vs.map fun p => kV p.1 := by
    have e := congrArg (List.map kV) rel.keys
    rw [List.map_map, List.map_map] at e
    exact e
  have g : wpAny (model X.prog X.w) X.A (collect (.ref a)) Q E s := by
    refine PySem.W.kdu_collect (PySem.W.kdl_dict (knd := mixKind X.prog X.w) (kvs := vs) (ep := ep) lo) (I.ok.hd hc) hat z2 fun h' tk acc hk hacc => ?_
    have hv : Vals (vs.map fun p => kV p.1) acc.toList := keys_at (by rw [Array.length_toList]; exact hacc.1) fun j v e => hacc.2 j v (by rw [← Array.getElem?_toList]; exact e)
    exact hQ _ _ (I.kept (t' := tk) hk) (by rw [ek]; exact hv)
  unfold PySem.W.StarOf notIterableAtAll
  exact wpAny_bind (wpAny_specialOf hT PySem.F.slot_dict_iter.lookup (wpAny_pure ⟨rfl, g⟩))
theorem pa_starD {e : Expr} {es : List Expr} {te : TE} {t : TA} {p : Pos} (hc : X.calm = true) (he : PE X e te) (hr : PA X es t) (hs : starEach (.Starred e p :: es) X.env = (true, eval e X.env) :: starEach es X.env := by rfl) : PA X (.Starred e p :: es) (tStarD te t) := by
  refine ⟨fun pos pins s σ H Q I h => ?_⟩
  refine PySem.W.items_star (thn (he.run pins s σ H _ I h) fun v s1 ⟨y, H1, I1, ry, a, kvs, ey, hx, q⟩ => ?_) hs
  subst ey
  obtain rfl : v = Value.ref a := ry
  refine star_dict hc I1 hx fun us s2 I2 rv => ?_
  exact thn (hr.run pos pins s2 σ H1 _ I2 q) fun ws s3 ⟨vs, H3, I3, r3, q3⟩ => ⟨_, H3, I3, rv.append r3, q3⟩
end
end Gx
set_option maxRecDepth 100000
set_option maxHeartbeats 4000000
namespace Gx
open PySem PySem.Spec PyProof.Rows L2
theorem fn_in {K : PySem.W.Frag} {f : Addr} {oc : Value} {od : Option Addr} {fd : FuncData} {sl : Array (Option Value)} (l : K.lookup f = some ⟨oc, od, .func fd, sl⟩) : PySem.W.fnIn K f = true := by
  unfold PySem.W.fnIn
  rw [l]
/-- the class at C has the def st as its property m -/
def PropD (K : PySem.W.Frag) (C : Addr) (m qual : Str) (st : Stmt) : Prop := ∃ (p f : Addr) (fd : FuncData), PropOf K C m p f ∧ Fun K m qual st f fd ∧ Binds K fd ["self"] []
/-- .. as its method m -/
def DefM (K : PySem.W.Frag) (C : Addr) (m qual : Str) (st : Stmt) (ps : List Str) : Prop := ∃ (f : Addr) (fd : FuncData), Fun K m qual st f fd ∧ Meth K C m f ∧ Binds K fd ps [] ∧ PySem.W.fnIn K f = true
/-- a property that keeps the promise sp -/
def CalP (P : Program) (w : World) (K : PySem.W.Frag) (mg : Str → Option Value) (base : Heap) (C : Addr) (m : Str) (k : Nat) (sp : Sp) : Prop :=
  ∃ (p f : Addr) (fd : FuncData), PropOf K C m p f ∧ FnOk P w K mg base CX0 k f fd ["self"] sp ∧ Binds K fd ["self"] []
/-- C(..) by its __init__'s promise -/
def CalI (P : Program) (w : World) (K : PySem.W.Frag) (mg : Str → Option Value) (base : Heap) (C : Addr) (k : Nat) (ps : List Str) (sp : Sp) : Prop :=
  ∃ (f : Addr) (fd : FuncData), Mk K C f ∧ FnOk P w K mg base CX0 k f fd ps sp ∧ Binds K fd ps []
section
variable {P : Program} {w : World} {K : PySem.W.Frag} {mg : Str → Option Value} {base : Heap} {C : Addr} {m qual : Str} {st : Stmt} {k : Nat} {ps : List Str} {sp : Sp}
theorem DefM.cal (d : DefM K C m qual st ps) (h : ∀ f fd, Fun K m qual st f fd → FnOk P w K mg base CX0 k f fd ps sp) : CalM P w K mg base C m k ps sp := by
  obtain ⟨f, fd, F, me, b, fi⟩ := d
  exact ⟨f, fd, h f fd F, me, b, fi⟩
theorem PropD.cal (d : PropD K C m qual st) (h : ∀ f fd, Fun K m qual st f fd → FnOk P w K mg base CX0 k f fd ["self"] sp) : CalP P w K mg base C m k sp := by
  obtain ⟨p, f, fd, pr, F, b⟩ := d
  exact ⟨p, f, fd, pr, h f fd F, b⟩
theorem CalP.mono {j : Nat} (c : CalP P w K mg base C m j sp) (h : j ≤ k) : CalP P w K mg base C m k sp := by
  obtain ⟨p, f, fd, pr, F, b⟩ := c
  exact ⟨p, f, fd, pr, F.mono h, b⟩
theorem CalI.mono {j : Nat} (c : CalI P w K mg base C j ps sp) (h : j ≤ k) : CalI P w K mg base C k ps sp := by
  obtain ⟨f, fd, M, F, b⟩ := c
  exact ⟨f, fd, M, F.mono h, b⟩
end
section
variable {X : Cx} {C : Addr} {m x : Str} {k : Nat} {ps : List Str} {sp : Sp} {ta : TE} {t : TA} {o e : Expr} {es : List Expr} {pos apos p : Pos}
/-- o.m, a property -/
def tPropC (C : Addr) (sp : Sp) (ta : TE) : TE := fun σ H Q => ta σ H fun x H1 => ∃ a dx fs, x = .ref a ∧ H1 a = some (.ins C dx fs) ∧ sp [.ref a] H1 Q E0
theorem pe_propC (he : PE X o ta) (cl : Cls X.K C) (c : CalP X.prog X.w X.K X.mg X.base C m k sp) (hr : Room (k + 1) X.A) (hab : attributeBase o m X.env (eval o X.env) = eval o X.env := by rfl) : PE X (.Attribute o m pos) (tPropC C sp ta) := by
  obtain ⟨p, f, fd, pr, F, b⟩ := c
  have h := pe_prop (pos := pos) (E := E0) he cl pr F hr b .nil pass0 hab
  exact h
/-- o.m(..) -/
def tMethC (C : Addr) (m : Str) (sp : Sp) (ta : TE) (t : TA) : TE := fun σ H Q => ta σ H fun x H1 => ∃ a dx fs, x = .ref a ∧ H1 a = some (.ins C dx fs) ∧ fs.lookup m = none ∧ t σ H1 fun vs H2 => sp (x :: vs) H2 Q E0
theorem tMethC_eq : tMeth C m sp [] E0 ta t = tMethC C m sp ta t := by
  funext σ H Q
  show ta σ H _ = ta σ H _
  congr 1
  funext x H1
  simp only [List.append_nil]
theorem pe_methC {pl : Sem Bool} (he : PE X o ta) (cl : Cls X.K C) (c : CalM X.prog X.w X.K X.mg X.base C m k ps sp) (hr : Room k X.A) (ha : PA X (e :: es) t)
    (hst : starEach (e :: es) X.env = (false, eval e X.env) :: starEach es X.env := by rfl) (hpl : (backTo pos (starEach es X.env)).any (·.1) = false := by rfl)
    (ht : eval (.Call (.Attribute o m apos) (e :: es) [] pos) X.env = (do
      let ov ← eval o X.env
      standAt apos.atName
      let (f, first) ← holding [ov] (getMethod ov m pl)
      callWith pos f first (backTo pos (starEach (e :: es) X.env)) (backToKw pos (keywordEach [] X.env))) := by rfl) :
    PE X (.Call (.Attribute o m apos) (e :: es) [] pos) (tMethC C m sp ta t) := by
  obtain ⟨f, fd, F, me, b, fi⟩ := c
  rw [← tMethC_eq]
  exact pe_meth (pl := pl) he cl me F hr b .nil pass0 ha hst hpl ht
/-- C(..) -/
def tMakeC (C : Addr) (sp : Sp) (t : TA) : TE := fun σ H Q => t σ H fun vs H1 => ∀ x dx, H1 x = none → H1 dx = none → dx ≠ x →
  sp (.ref x :: vs) (upd (upd H1 dx (.own x)) x (.ins C dx [])) (fun v H2 => v = .non ∧ Q (.ref x) H2) E0
theorem tMakeC_eq : tMake C sp [] E0 t = tMakeC C sp t := by
  funext σ H Q
  show t σ H _ = t σ H _
  congr 1
  funext vs H1
  simp only [List.append_nil]
theorem pe_makeC (c : CalI X.prog X.w X.K X.mg X.base C k ps sp) (hr : Room (k + 1) X.A) (hg : Gl X x) (hm : X.mg x = some (.ref C)) (ha : PA X (e :: es) t)
    (hdb : (x == ("__debug__" : Str)) = false := by decide) (he : starEach (e :: es) X.env = (false, eval e X.env) :: starEach es X.env := by rfl) (hpl : (backTo pos (starEach es X.env)).any (·.1) = false := by rfl) :
    PE X (.Call (.Name x p) (e :: es) [] pos) (tMakeC C sp t) := by
  obtain ⟨f, fd, M, F, b⟩ := c
  rw [← tMakeC_eq]
  exact pe_make M F hr hg hm b .nil pass0 ha hdb he hpl
end
theorem same_unlock {H H' : Hp} {d : Addr} {u : HO} {o : Obj} (e : H d = some u) (s : Same (upd H d (.frz o u)) H') : Same H (upd H' d u) := by
  intro b ob h
  by_cases n : b = d
  · subst n
    rw [upd_same]
    exact e.symm.trans h
  · rw [upd_ne n]
    exact s b ob (by rw [upd_ne n]; exact h)
end Gx
set_option maxRecDepth 100000
set_option maxHeartbeats 4000000
namespace Gx
open PySem PySem.Spec PyProof.Rows L2
/-- a member's text -/
def txE (m : Int × Value) : Str :=
  match m.2 with
  | .str z _ => z
  | _ => Str.empty
def TxE (P : Program) (w : World) (m : Int × Value) : Prop := ∃ z tk, m.2 = Value.str z tk ∧ m.1 = (PySem.strKind P w).hash z
/-- at a stands the set of the texts of L, some of which may be there twice; its table can be walked -/
def SetX (P : Program) (w : World) (h : Heap) (a : Addr) (L : List Str) : Prop :=
  ∃ ob ms ep tb, h.get? a = some ob ∧ ob.ExactSet ∧ ob.data = .set ms ep tb ∧ (∀ m ∈ ms.toList, TxE P w m) ∧ (ms.toList.map txE).Nodup ∧ (∀ z, z ∈ L ↔ z ∈ ms.toList.map txE) ∧
    ms.size < scanBound ∧ tb.fits ms.size = true ∧ ms.size ≤ L.length ∧ Ris tb.place.toList ∧ (w.params.followText "set-order" = true ∨ tb.led = true)
section
variable {P : Program} {w : World} {h h' : Heap} {a : Addr} {L : List Str}
theorem SetX.at (R : SetX P w h a L) (k : ∀ o, h.get? a = some o → h'.get? a = some o) : SetX P w h' a L := by
  obtain ⟨ob, ms, ep, tb, here, more⟩ := R
  exact ⟨ob, ms, ep, tb, k ob here, more⟩
theorem SetX.same {L' : List Str} (R : SetX P w h a L) (e : ∀ z, z ∈ L' ↔ z ∈ L) (hl : L.length ≤ L'.length) : SetX P w h a L' := by
  obtain ⟨ob, ms, ep, tb, here, ex, dt, gd, nd, mem, bd, ft, le, more⟩ := R
  exact ⟨ob, ms, ep, tb, here, ex, dt, gd, nd, fun z => (e z).trans (mem z), bd, ft, Nat.le_trans le hl, more⟩
theorem tx_elems {l : List (Int × Value)} (gd : ∀ m ∈ l, TxE P w m) : ElemsOf (PySem.strKind P w) l := by
  intro m hm
  obtain ⟨z, tk, e1, e2⟩ := gd m hm
  refine ⟨⟨z, ?_, e2⟩, ?_⟩
  · rw [e1]
    exact strKind_is P w z tk
  · rw [e1]
    rfl
theorem tx_is {m : Int × Value} (gd : TxE P w m) (z : Str) : (PySem.strKind P w).is z m.2 = true ↔ txE m = z := by
  obtain ⟨y, tk, e1, _⟩ := gd
  have e3 : txE m = y := by unfold txE; rw [e1]
  rw [e3, e1]
  constructor
  · intro q
    obtain ⟨t, q⟩ := Value.isStrOf_shape (show Value.isStrOf z (.str y tk) = true from q)
    cases q
    rfl
  · rintro rfl
    exact strKind_is P w y tk
theorem tx_mem {l : List (Int × Value)} (gd : ∀ m ∈ l, TxE P w m) (z : Str) : z ∈ l.map txE ↔ ∃ m ∈ l, (PySem.strKind P w).is z m.2 = true := by
  rw [List.mem_map]
  exact ⟨fun ⟨m, hm, q⟩ => ⟨m, hm, (tx_is (gd m hm) z).2 q⟩, fun ⟨m, hm, q⟩ => ⟨m, hm, (tx_is (gd m hm) z).1 q⟩⟩
end
section
variable {P : Program} {w : World} {A : Around} {E : Value → Shared → Prop} {s : Shared} {a : Addr} {L : List Str}
theorem setX_tail {g : Bool → Sem Unit} (hg : ∀ (b : Bool) (s₁ : Shared) (Q' : Unit → Shared → Prop), Q' () s₁ → wpAny (model P w) A (g b) Q' E s₁)
    {ob : Obj} {ms : Array (Int × Value)} {ep : Nat} {tb : SetTable} (here : s.heap.get? a = some ob) (ex : ob.ExactSet) (dt : ob.data = .set ms ep tb)
    {ms1 : Array (Int × Value)} {tb2 : SetTable} {L' : List Str} (g1 : ∀ m ∈ ms1.toList, TxE P w m) (nd1 : (ms1.toList.map txE).Nodup) (m1 : ∀ z, z ∈ L' ↔ z ∈ ms1.toList.map txE)
    (bd1 : ms1.size < scanBound) (ft2 : tb2.fits ms1.size = true) (le1 : ms1.size ≤ L'.length) (ri : Ris tb2.place.toList) (ld : w.params.followText "set-order" = true ∨ tb2.led = true) {dummy : Bool} {R : Option Bool → Shared → Prop}
    (hR : ∀ h', Heap.SameBut a s.heap h' → SetX P w h' a L' → R (some true) { s with heap := h' }) :
    wpAny (model P w) A (do
        storeSet a ms1 tb2
        if (!dummy && tb2.tooFull) = true then do
            g (relayAll tb2 ms1 (SetTable.grown ms1.size)).2.2
            storeSet a (relayAll tb2 ms1 (SetTable.grown ms1.size)).1 (relayAll tb2 ms1 (SetTable.grown ms1.size)).2.1
            pure (some true)
          else pure (some true)) R E s := by
  refine wpAny_bind (wpAny_storeSet_of here dt ?_ (fits_of_scanBound bd1))
  have at1 := store_at (es' := ms1) (t' := tb2) here dt
  have but1 := Heap.SameBut.update s.heap a (Obj.putSet ms1 tb2)
  split
  · have perm2 := relayAll_perm tb2 ms1 (SetTable.grown ms1.size)
    have ft3 := relayAll_fits tb2 ms1 (SetTable.grown ms1.size)
    have ri3 := relayAll_ris tb2 ms1 (SetTable.grown ms1.size)
    have ld3 := relayAll_led tb2 ms1 (SetTable.grown ms1.size)
    generalize relayAll tb2 ms1 (SetTable.grown ms1.size) = laid at perm2 ft3 ri3 ld3 ⊢
    obtain ⟨ms2, tb3, gave⟩ := laid
    dsimp only at perm2 ft3 ri3 ld3 ⊢
    have sz2 : ms2.size = ms1.size := by rw [← Array.length_toList, perm2.length_eq, Array.length_toList]
    have bd2 : ms2.size < scanBound := sz2 ▸ bd1
    refine wpAny_bind (hg _ _ _ ?_)
    refine wpAny_bind (wpAny_storeSet_of at1 rfl ?_ (fits_of_scanBound bd2))
    have at2 := store_at (es' := ms2) (t' := tb3) at1 rfl
    refine wpAny_pure (hR _ (but1.trans (Heap.SameBut.update _ a _)) ⟨_, ms2, _, tb3, at2, ex, rfl, fun m hm => g1 m (perm2.mem_iff.mp hm), (perm2.map txE).nodup_iff.mpr nd1, fun z => (m1 z).trans (perm2.map txE).mem_iff.symm, bd2, ?_, by rw [sz2]; exact le1, ri3, ?_⟩)
    · exact ft3
    · exact ld.imp id fun z => by rw [ld3]; exact z
  · exact wpAny_pure (hR _ but1 ⟨_, ms1, _, tb2, at1, ex, rfl, g1, nd1, m1, bd1, ft2, le1, ri, ld⟩)
theorem setX_add {z : Str} {tk : Tok} {Q : Bool → Shared → Prop} (R : SetX P w s.heap a L) (room : L.length + 1 < scanBound)
    (hQ : ∀ h' b, Heap.SameBut a s.heap h' → SetX P w h' a (L ++ [z]) → Q b { s with heap := h' }) :
    wpAny (model P w) A (setAddHashed a (.str z tk) ((PySem.strKind P w).hash z)) Q E s := by
  obtain ⟨ob, ms, ep, tb, here, ex, dt, gd, nd, mem, bd, ft, le, ri, ld⟩ := R
  have isz : (PySem.strKind P w).is z (.str z tk) = true := strKind_is P w z tk
  have scz : (Value.str z tk).scannable = true := rfl
  have els : ElemsOf (PySem.strKind P w) ms.toList := tx_elems gd
  unfold setAddHashed setAddHashedIn
  refine wpAny_holding (wpAny_bind (wpAny_setState_of here dt ft ?_))
  dsimp only
  rw [byScan_of scz bd els]
  simp only [↓reduceIte]
  unfold setAddByScan
  refine wpAny_bind ?_
  refine wpAny_bind (wpAny_rule ?_)
  refine wpAny_bind (wpAny_setScan_of isz here dt ft els ?_)
  cases hfi : List.findIdx? (fun m => (PySem.strKind P w).is z m.2) ms.toList with
  | some j =>
    dsimp only
    obtain ⟨hj, pj, _⟩ := List.findIdx?_eq_some_iff_getElem.mp hfi
    have inL : z ∈ L := (mem z).2 ((tx_mem (P := P) (w := w) gd z).2 ⟨ms.toList[j], List.getElem_mem hj, pj⟩)
    refine wpAny_pure (wpAny_pure ?_)
    refine hQ s.heap _ (Heap.SameBut.refl a s.heap) ⟨ob, ms, ep, tb, here, ex, dt, gd, nd, fun y => ?_, bd, ft, by rw [List.length_append]; omega, ri, ld⟩
    rw [← mem y, List.mem_append, List.mem_singleton]
    exact ⟨fun q => q.elim id fun e => e ▸ inL, .inl⟩
  | none =>
    dsimp only
    have notIn : z ∉ ms.toList.map txE := by
      intro q
      obtain ⟨m, hm, q⟩ := (tx_mem (P := P) (w := w) gd z).1 q
      have c := List.findIdx?_eq_none_iff.mp hfi m hm
      rw [q] at c
      cases c
    have way : ∀ (b : Bool) {s₁ : Shared} {Q' : Unit → Shared → Prop}, Q' () s₁ → wpAny (model P w) A (match b with | true => rule "set.scan.the-table-gave-way" | false => pure ()) Q' E s₁ := by
      intro b s₁ Q' q
      cases b
      · exact wpAny_pure q
      · exact wpAny_rule q
    have perm1 := layNew_perm tb ms ((PySem.strKind P w).hash z) (.str z tk)
    have ft1 := layNew_fits tb ms ((PySem.strKind P w).hash z) (.str z tk)
    have ri1 := layNew_ris tb ms ((PySem.strKind P w).hash z) (.str z tk) ri
    have ld1 := layNew_led tb ms ((PySem.strKind P w).hash z) (.str z tk)
    generalize layNew tb ms ((PySem.strKind P w).hash z) (.str z tk) = laid at perm1 ft1 ri1 ld1 ⊢
    obtain ⟨ms1, tb1, dummy, gave⟩ := laid
    dsimp only at perm1 ft1 ri1 ld1 ⊢
    rw [Array.toList_push] at perm1
    have permC : ms1.toList.Perm (((PySem.strKind P w).hash z, Value.str z tk) :: ms.toList) := perm1.trans (List.perm_append_singleton _ _)
    have permK : (ms1.toList.map txE).Perm (z :: ms.toList.map txE) := permC.map txE
    have g1 : ∀ m ∈ ms1.toList, TxE P w m := by
      intro m hm
      rcases List.mem_cons.mp (permC.mem_iff.mp hm) with q | q
      · rw [q]
        exact ⟨z, tk, rfl, rfl⟩
      · exact gd m q
    have nd1 : (ms1.toList.map txE).Nodup := permK.nodup_iff.mpr (List.nodup_cons.mpr ⟨notIn, nd⟩)
    have m1 : ∀ y, y ∈ L ++ [z] ↔ y ∈ ms1.toList.map txE := by
      intro y
      rw [List.mem_append, List.mem_singleton, mem y, permK.mem_iff, List.mem_cons]
      exact Or.comm
    have sz1 : ms1.size = ms.size + 1 := by rw [← Array.length_toList, permC.length_eq, List.length_cons, Array.length_toList]
    have bd1 : ms1.size < scanBound := by omega
    have le1 : ms1.size ≤ (L ++ [z]).length := by rw [List.length_append, List.length_singleton]; omega
    have led1 : w.params.followText "set-order" = true ∨ tb1.led = true := ld.imp id fun q => by rw [ld1]; exact q
    refine wpAny_bind (way _ ?_)
    split
    · refine wpAny_bind ?_
      rw [hashByValue_scannable 8 scz]
      refine wpAny_pure ?_
      refine setX_tail ?_ here ex dt g1 nd1 m1 bd1 ?_ le1 ?_ ?_ ?_
      · intro b s₁ Q' q
        cases b <;> first | exact wpAny_pure q | exact wpAny_rule q
      · first | (split <;> first | exact ft1 | exact SetTable.fits_plain_off ft1) | exact ft1
      · first | (split <;> exact ri1) | exact ri1
      · first | (split <;> exact led1) | exact led1
      · intro h' sb r
        dsimp only
        exact wpAny_pure (hQ h' _ sb r)
    · refine wpAny_bind (wpAny_pure ?_)
      simp only [↓reduceIte]
      refine setX_tail ?_ here ex dt g1 nd1 m1 bd1 ft1 le1 ri1 led1 ?_
      · intro b s₁ Q' q
        cases b <;> first | exact wpAny_pure q | exact wpAny_rule q
      · intro h' sb r
        dsimp only
        exact wpAny_pure (hQ h' _ sb r)
end
/-- the texts of a list of values, by place -/
theorem texts_at : ∀ {us : List Value} {xs : List Str}, StrsAre us xs → ∀ (i : Nat) (v : Value), us[i]? = some v → ∃ x t, xs[i]? = some x ∧ v = .str x t
  | _, _, .nil, i, v, h => by cases h
  | _, _, .cons n t r, 0, v, h => by
    cases h
    exact ⟨n, t, rfl, rfl⟩
  | _, _, .cons n t r, i + 1, v, h => texts_at r i v h
section
variable {prog : Program} {w : World} {A : Around} {R : Result → Shared → Prop} {I : Addr} {fp wr : List Addr} {G : Array GenState → Array GenState → Prop} {n : Nat} {P : Nat → Value → Prop} {St : Nat → Shared → Prop}
/-- all texts of an iterator put into the set at S -/
theorem setX_loop (W : WalksS prog w A.in1 I fp wr G n P St) (S : Addr) (off : S ∉ fp) (xs : List Str) (len : xs.length = n) (few : n + 1 < scanBound)
    (val : ∀ i v, P i v → ∃ x t, xs[i]? = some x ∧ v = .str x t) : ∀ (k i : Nat) (s : Shared), n - i = k → i ≤ n → St i s → SetX prog w s.heap S (xs.take i) →
      (∀ s', Moved (S :: wr) G s s' → SetX prog w s'.heap S xs → R (.ok (.ret .none)) s') →
      codeAny (model prog w) A (.builtin "set.update.loop" ⟨[.ref S, .ref I], []⟩) R s := by
  have offW : S ∉ wr := fun z => off (W.sub _ z)
  have sub : ∀ b ∈ wr, b ∈ S :: wr := fun b hb => List.mem_cons_of_mem _ hb
  intro k
  induction k with
  | zero =>
    intro i s hk hi st hS hR
    obtain rfl : i = n := by omega
    rw [← len, List.take_length] at hS
    refine codeAny_builtin PyProof.Rows.F.entry_set_update_loop ?_
    rw [Around.under_plainId PyProof.Rows.F.plain_set_update_loop _]
    show wpAny _ A.in1 (pyNext (.ref I) >>= _) _ _ s
    refine wpAny_bind (W.done s _ _ st fun s' mv => ?_)
    show wpAny _ A.in1 (ret Value.none) _ _ s'
    exact wpAny_pure (hR s' (mv.mono sub) (hS.at fun o e => mv.heap S _ offW e))
  | succ k ih =>
    intro i s hk hi st hS hR
    have lt : i < n := by omega
    refine codeAny_builtin PyProof.Rows.F.entry_set_update_loop ?_
    rw [Around.under_plainId PyProof.Rows.F.plain_set_update_loop _]
    show wpAny _ A.in1 (pyNext (.ref I) >>= _) _ _ s
    refine wpAny_bind (W.item i s _ _ lt st fun v s' hP st' mv => ?_)
    obtain ⟨x, t, hx, rfl⟩ := val i v hP
    have hS' : SetX prog w s'.heap S (xs.take i) := hS.at fun o e => mv.heap S _ offW e
    show wpAny _ A.in1 (holding [Value.str x t] (setAdd S (.str x t)) >>= _) _ _ s'
    refine wpAny_bind (wpAny_holding ?_)
    unfold setAdd
    refine wpAny_holding ?_
    refine wpAny_bind ((PySem.strKind prog w).pyHash (k := x) (strKind_is _ _ _ _) ?_)
    refine setX_add (s := { s' with toks := s'.toks + 1 }) hS' (by rw [List.length_take]; omega) fun h' b sb hS2 => ?_
    have hS3 : SetX prog w h' S (xs.take (i + 1)) := by
      have e : xs.take (i + 1) = xs.take i ++ [x] := by rw [List.take_add_one, hx]; rfl
      rw [e]
      exact hS2
    refine wpAny_pure ⟨plainId_quiet PyProof.Rows.F.plain_set_update_loop _, ih (i + 1) _ (by omega) lt (W.frame _ s' _ _ st' (Nat.le_succ _) fun b hb o e => ?_) hS3 fun s'' mv2 hS4 => ?_⟩
    · rw [sb.2 b (fun z : b = S => off (z ▸ hb))]
      exact e
    · refine hR s'' (Moved.trans W.gtrans ((mv.mono sub).then_heap (Nat.le_succ _) fun b o hb e => ?_) mv2) hS4
      rw [sb.2 b (fun z : b = S => hb (by rw [z]; exact List.mem_cons_self))]
      exact e
end
section
variable {P : Program} {w : World} {A : Around} {E : Value → Shared → Prop} {s : Shared}
theorem code_setX {x : Value} {Q₁ : Value → Shared → Prop}
    (h : Q₁ (.ref s.heap.objs.size) { s with heap := s.heap.push { cls := .type "set", dict := none, data := .set #[] 0 (.fresh 0 0 (!w.params.followText "set-order")) } }) :
    codeAny (model P w) A (.call (.builtin "set.__new__") ⟨[.type "set", x], []⟩) (wants Q₁ E) s := by
  refine codeAny_of_tree ?_
  show wpAny _ A.in1 (do checkBuiltinCall "set.__new__" ⟨[.type "set", x], []⟩; again (.builtin "set.__new__" ⟨[.type "set", x], []⟩)) _ _ s
  refine wpAny_bind (wpAny_of_eq (PySem.F.newCall_set_1 x) (wpAny_pure ⟨plainId_quiet F.plain_set_new _, codeAny_builtin F.entry_set_new ?_⟩))
  rw [Around.under_plainId F.plain_set_new _]
  unfold Builtin.«set.__new__» Builtin.Frozenset.newClass
  have hsub := sub_set_self
  obtain ⟨hp, g, d, tk, os⟩ := s
  dsimp only
  wp_walk
  refine wpAny_askSetting (wpAny_pure ?_)
  dsimp only
  simp only [newObj]
  exact wpAny_bind (wpAny_alloc (wpAny_pure (wpAny_pure h)))
theorem setX_fresh {h : Heap} : SetX P w (h.push { cls := .type "set", dict := none, data := .set #[] 0 (.fresh 0 0 (!w.params.followText "set-order")) }) h.objs.size [] := by
  refine ⟨_, #[], 0, _, Heap.get?_push_size _ rfl, ⟨rfl, rfl, rfl⟩, rfl, (fun m hm => by simp at hm), (by simp), (fun z => by simp), (by decide), (by rfl), (Nat.zero_le _), List.Pairwise.nil, ?_⟩
  show _ ∨ (!w.params.followText "set-order") = true
  cases w.params.followText "set-order"
  · exact .inr rfl
  · exact .inl rfl
set_option maxHeartbeats 6400000 in
/-- set(list of texts) -/
theorem call_setX {l : Addr} {items : Array Value} {xs : List Str} {Q : Value → Shared → Prop} (hh : A.handled = none) (hl : s.heap.IsList l items) (hi : StrsAre items.toList xs) (few : xs.length + 1 < scanBound)
    (h : ∀ (h' : Heap) (tk : Nat), SetX P w h' s.heap.objs.size xs → (∀ b o, b < s.heap.objs.size → s.heap.get? b = some o → h'.get? b = some o) → Q (.ref s.heap.objs.size) { s with heap := h', toks := tk }) :
    wpAny (model P w) A (call (.type "set") [.ref l]) Q E s := by
  obtain ⟨c, tl, hmro⟩ := PySem.F.called_set.mro
  have hmade := PySem.F.called_set.made
  have hsub := PySem.F.called_set.sub
  refine wpAny_call (codeAny_of_tree ?_)
  show wpAny _ _ (callAny (.type "set") _) _ _ _
  refine wpAny_pure ⟨Code.quiet_builtin _ (by decide +kernel), codeAny_builtin PySem.F.entry_type_call ?_⟩
  rw [Around.under_plain (weight_type_call_type "set" [.ref l] []) rfl]
  have h1 := PySem.F.called_set.notType
  have h2 := PySem.F.called_set.canCreate
  have hct := PySem.F.typeCall_set_1 (.ref l)
  repeat (any_goals (first | assumption | wp_step))
  have R0 : SetX P w (s.heap.push { cls := .type "set", dict := none, data := .set #[] 0 (.fresh 0 0 (!w.params.followText "set-order")) }) s.heap.objs.size [] := setX_fresh
  refine codeAny_mono (code_setX (x := .ref l) (E := E) (Q₁ := fun obj s₁ => obj = .ref s.heap.objs.size ∧ s₁ = { s with heap := s.heap.push { cls := .type "set", dict := none, data := .set #[] 0 (.fresh 0 0 (!w.params.followText "set-order")) } }) ⟨rfl, rfl⟩) fun r s₁ hr => ?_
  have hS : (s.heap.push { cls := .type "set", dict := none, data := .set #[] 0 (.fresh 0 0 (!w.params.followText "set-order")) }).get? s.heap.objs.size = some { cls := .type "set", dict := none, data := .set #[] 0 (.fresh 0 0 (!w.params.followText "set-order")) } := Heap.get?_push_size _ rfl
  cases r with
  | error e => exact hr
  | ok fl =>
    cases fl with
    | ret obj =>
      obtain ⟨rfl, rfl⟩ := hr
      have hT : Shared.TypeIs { s with heap := s.heap.push ({ cls := .type "set", dict := none, data := .set #[] 0 (.fresh 0 0 (!w.params.followText "set-order")) } : Obj) } (.ref s.heap.objs.size) "set" := ⟨_, hS, rfl⟩
      have hli := PySem.F.called_set.init.lookup
      have hbi := PySem.F.called_set.init.bind (.ref s.heap.objs.size)
      repeat (any_goals (first | assumption | wp_step))
      refine codeAny_mono (codeAny_call_builtin (R := wants (fun r s₂ => r = .none ∧ ∃ h' tk, s₂ = { s with heap := h', toks := tk } ∧ SetX P w h' s.heap.objs.size xs ∧
          (∀ b o, b < s.heap.objs.size → s.heap.get? b = some o → h'.get? b = some o)) E) PySem.F.called_set.init.plain PySem.F.entry_set_init (check_set_init_1 hT ?_)) fun r₂ s₂ hr₂ => ?_
      · obtain ⟨ol, hol, hcl, nl, hdl⟩ := hl
        obtain ⟨ocls, odict, odata, oslots⟩ := ol
        simp only at hcl hdl
        subst hcl; subst hdl
        have hol' : (s.heap.push ({ cls := .type "set", dict := none, data := .set #[] 0 (.fresh 0 0 (!w.params.followText "set-order")) } : Obj)).get? l = some { cls := .type "list", dict := odict, data := .seq items nl, slots := oslots } := Heap.get?_push_of_some _ hol
        have hsls := PySem.F.sub_list_set
        have hslf := PySem.F.sub_list_frozenset
        have hne : (Value.type "list" == Value.type "dict") = false := by decide
        have hl1 : (s.heap.push ({ cls := .type "set", dict := none, data := .set #[] 0 (.fresh 0 0 (!w.params.followText "set-order")) } : Obj)).IsList l items := ⟨_, hol', rfl, nl, rfl⟩
        unfold Builtin.«set.__init__» noKeywords Builtin.Frozenset.updateFrom
        generalize hPI : pyIter = PI
        wp_walk
        subst hPI
        refine wpAny_pyIter_list hl1 ?_
        refine wpAny_bind (wpAny_runValue ?_)
        have hlS : l < s.heap.objs.size := Heap.lt_size hol
        have hh3 : A.in1.in1.in1.handled = none := by simp [hh]
        have szp : (s.heap.push ({ cls := .type "set", dict := none, data := .set #[] 0 (.fresh 0 0 (!w.params.followText "set-order")) } : Obj)).objs.size = s.heap.objs.size + 1 := Heap.size_push _ _
        have hneI : l ≠ (s.heap.push ({ cls := .type "set", dict := none, data := .set #[] 0 (.fresh 0 0 (!w.params.followText "set-order")) } : Obj)).objs.size := by rw [szp]; exact Nat.ne_of_lt (Nat.lt_succ_of_lt hlS)
        have hSf : s.heap.objs.size ∉ [(s.heap.push ({ cls := .type "set", dict := none, data := .set #[] 0 (.fresh 0 0 (!w.params.followText "set-order")) } : Obj)).objs.size, l] := by
          rw [szp]
          simp only [List.mem_cons, List.not_mem_nil, or_false, not_or]
          exact ⟨Nat.ne_of_lt (Nat.lt_succ_self _), Nat.ne_of_gt hlS⟩
        have hsz : xs.length = items.size := by rw [← StrsAre.len_eq hi, Array.length_toList]
        refine setX_loop ((Walks.list hh3 _ l hneI items).toS) s.heap.objs.size hSf xs hsz (by rw [← hsz]; exact few) (fun i v hv => texts_at hi i v (by rw [Array.getElem?_toList]; exact hv))
          (items.size - 0) 0 _ (by omega) (Nat.zero_le _) ⟨⟨_, Heap.get?_push_size _ rfl, rfl, rfl⟩, (hl1.push _)⟩ ?hS0 ?hR
        case hS0 => exact R0.at fun o e => Heap.get?_push_of_some _ e
        case hR =>
          intro s' hm hS'
          obtain ⟨h', g', d', tk', os'⟩ := s'
          obtain rfl : g' = s.gens := hm.gens
          obtain rfl : d' = s.drawn := hm.drawn
          obtain rfl : os' = s.os := hm.os
          show wpAny _ _ _ _ _ _
          refine wpAny_pure ?_
          show wpAny _ _ (ret Value.none) _ _ _
          refine wpAny_pure ⟨rfl, h', tk', rfl, hS', fun b o hb e => hm.heap b o ?_ (Heap.get?_push_of_some _ (Heap.get?_push_of_some _ e))⟩
          rw [szp]
          simp only [List.mem_cons, List.not_mem_nil, or_false, not_or]
          exact ⟨Nat.ne_of_lt hb, Nat.ne_of_lt (Nat.lt_succ_of_lt hb)⟩
      · cases r₂ with
        | error e => exact hr₂
        | ok fl₂ =>
          cases fl₂ with
          | ret r =>
            obtain ⟨rfl, h', tk, rfl, hS', hk'⟩ := hr₂
            repeat (any_goals (first | assumption | wp_step))
            exact h _ _ hS' hk'
          | _ => exact hr₂.elim
    | _ => exact hr.elim
theorem strs_of : ∀ (l : List Value), (∀ v ∈ l, ∃ z tk, v = Value.str z tk) → ∃ xs, StrsAre l xs ∧ xs = l.map fun v => txE (0, v)
  | [], _ => ⟨[], .nil, rfl⟩
  | v :: l, h => by
    obtain ⟨z, tk, rfl⟩ := h v List.mem_cons_self
    obtain ⟨xs, h1, rfl⟩ := strs_of l fun u hu => h u (List.mem_cons_of_mem _ hu)
    exact ⟨_, .cons z tk h1, rfl⟩
/-- sorted(set of texts) -/
theorem sorted_setX {a : Addr} {L : List Str} {Q : Value → Shared → Prop} (R : SetX P w s.heap a L) (hh : A.handled = none)
    (hQ : ∀ s' p (out : Array Value) (c : Nat) (ys : List Str), (∀ b o, s.heap.get? b = some o → s'.heap.get? b = some o) → s'.gens = s.gens → s'.os = s.os → s.heap.objs.size ≤ p →
      s'.heap.get? p = some (seqObj "list" out c) → StrsAre out.toList ys → sortedS ys = true → ys.Nodup → (∀ z, z ∈ ys ↔ z ∈ L) → Q (.ref p) s') :
    wpAny (model P w) A (call (.builtin "sorted") [.ref a]) Q E s := by
  obtain ⟨ob, ms, ep, tb, here, ex, dt, gd, nd, mem, bd, ft, le, ri, ld⟩ := R
  refine Calls.call_function_entry kind_sorted plain_sorted entry_sorted (args_sorted1 _) ?_
  unfold Builtin.«sorted»
  refine wpAny_bind (m := checkCount "sorted" 1 1 _) (wpAny_pure ?_)
  refine wpAny_bind (collect_set (A := A.in1) hh ⟨ob, here, ex.1, dt⟩ ft bd ri ld fun s1 vs k1 hz g1 o1 pm => ?_)
  have lenV : vs.length = ms.size := by rw [pm.length_eq, List.length_map, Array.length_toList]
  obtain ⟨xs, hS, exs⟩ := strs_of vs fun v hv => by
    obtain ⟨m, hm, q⟩ := List.mem_map.mp (pm.mem_iff.mp hv)
    obtain ⟨z, tk, e1, _⟩ := gd m hm
    exact ⟨z, tk, by rw [← q]; exact e1⟩
  have permX : xs.Perm (ms.toList.map txE) := by
    have q := pm.map fun v => txE (0, v)
    rw [List.map_map] at q
    rw [exs]
    exact q
  have lineV : vs.length ≤ sizeLine := by rw [lenV]; exact fits_of_scanBound bd
  refine wpAny_bind (wpAny_newList ?_ lineV)
  have hoL : (s1.heap.push (seqObj "list" vs.toArray 0)).get? s1.heap.objs.size = some (seqObj "list" vs.toArray 0) := Heap.get?_push_size _ rfl
  refine wpAny_bind (wpAny_holding (wpAny_call_entry slot_list_sort ⟨_, hoL, rfl⟩ entry_list_sort
    (list_sort_treeKAny strKind_oneLt (s := { s1 with heap := s1.heap.push (seqObj "list" vs.toArray 0) }) hoL hS.keysOf (fun v₁ v₂ rest e => keyKind_strs (by rw [← e]; exact hS)) lineV fun st' hp hs => ⟨_, rfl, ?_⟩) (args_list_sort _)))
  obtain ⟨ys, y1, y2, y3⟩ := sorted_out_str hS hp hs
  obtain ⟨c, hc⟩ := sortedHeap_at (vs := vs) (out := (arrOf st').map (·.2)) hoL
  have permY : ys.Perm (ms.toList.map txE) := y2.trans permX
  refine wpAny_pure ⟨_, rfl, hQ _ s1.heap.objs.size ((arrOf st').map (·.2)) c ys (fun b u e => ?_) g1 o1 hz hc y1 y3 (permY.nodup_iff.mpr nd) fun z => by rw [permY.mem_iff, ← mem z]⟩
  have q := k1 b u e
  have lt := Heap.lt_size q
  show (sortedHeap (s1.heap.push (seqObj "list" vs.toArray 0)) s1.heap.objs.size vs ((arrOf st').map (·.2))).get? b = some u
  rw [sortedHeap_old (Nat.ne_of_lt lt) (by rw [size_push']; exact Nat.lt_succ_of_lt lt)]
  exact Heap.get?_push_of_some _ q
end
/-- the set of the texts of L at a -/
def SetO' (P : Program) (w : World) (a : Addr) (L : List Str) : HO := .ext fun h => SetX P w h a L
section
variable {X : Cx}
def rSetX (K : PySem.W.Frag) (P : Program) (w : World) : List V → Hp → VK → Prop := fun vs H Q => ∃ (l : Addr) (xs : List Str), vs = [V.ref l] ∧ SqL K H l (xs.map V.str) ∧ xs.length ≤ 1000 ∧ ∀ p, H p = none → Q (.ref p) (upd H p (SetO' P w p xs))
theorem cr_setX (hc : X.calm = true) : CallR X (.type "set") (rSetX X.K X.prog X.w) := by
  intro pins s σ H vs us Q I r h
  obtain ⟨l, xs, rfl, hq, few, q⟩ := h
  rw [Vals.ref1 r]
  obtain ⟨its, rv, pl, hz⟩ := I.list hq
  refine call_setX (I.ok.hd hc) pl.isList (by simpa using rv.strs) (Nat.lt_of_le_of_lt (Nat.succ_le_succ few) (by decide)) fun h' tk hS hk => ?_
  have kp : ∀ b o, s.heap.get? b = some o → h'.get? b = some o := fun b o e => hk b o (Heap.lt_size e) e
  obtain ⟨ob, ms, ep, tb, here, more⟩ := id hS
  exact ⟨.ref s.heap.objs.size, _, I.laid (t' := tk) kp (Nat.le_refl _) (show ObjOk X.prog X.w _ h' _ (SetO' X.prog X.w s.heap.objs.size xs) from ⟨hS, ⟨ob, here⟩, fun h1 h2 p k => SetX.at p k⟩), rfl, q _ (I.hok.fresh (Nat.le_refl _))⟩
def rSortedX (P : Program) (w : World) : List V → Hp → VK → Prop := fun vs H Q => ∃ (a : Addr) (L : List Str), vs = [V.ref a] ∧ H a = some (SetO' P w a L) ∧ L.length ≤ 1000 ∧
  ∀ (ys : List Str) (p : Addr), sortedS ys = true → ys.Nodup → (∀ z, z ∈ ys ↔ z ∈ L) → H p = none → Q (.ref p) (upd H p (.lst (ys.map V.str)))
theorem vals_texts : ∀ {us : List Value} {xs : List Str}, StrsAre us xs → Vals (xs.map V.str) us
  | _, _, .nil => .nil
  | _, _, .cons n t r => .cons ⟨t, rfl⟩ (vals_texts r)
theorem cr_sortedX (hc : X.calm = true) : CallR X (.builtin "sorted") (rSortedX X.prog X.w) := by
  intro pins s σ H vs us Q I r h
  obtain ⟨a, L, rfl, ha, few, q⟩ := h
  rw [Vals.ref1 r]
  have hX : SetX X.prog X.w s.heap a L := (I.hok a _ ha).1
  refine sorted_setX hX (I.ok.hd hc) fun s' p out c ys k g o hp hg hi hs nd hm => ?_
  have lt : ys.length ≤ L.length := List.Nodup.length_le_of_subset nd fun z hz => (hm z).1 hz
  have hlen : (ys.map V.str).length ≤ sizeLine := by rw [List.length_map]; exact Nat.le_trans (Nat.le_trans lt few) (by decide)
  have hn : H p = none := I.hok.fresh hp
  have J : Inv X pins σ (upd H p (.lst (ys.map V.str))) { s with heap := s'.heap, gens := s'.gens, drawn := s'.drawn, toks := s'.toks } :=
    I.call (ch := []) (Un.laid k hp hn) (I.hok.laid k hp ⟨hlen, out.toList, c, vals_texts hi, hg⟩) (by rw [g]; exact I.bare) (fun _ z => nomatch z)
  obtain ⟨h', g', d', t', o'⟩ := s'
  obtain rfl : o' = s.os := o
  exact ⟨.ref p, _, J, rfl, q ys p hs nd hm hn⟩
end
end Gx
set_option maxRecDepth 100000
set_option maxHeartbeats 4000000
namespace Gx
open PySem PySem.Spec PyProof.Rows L2
section
variable {X : Cx}
/-- the signs of a text, a text each -/
def signV (x : Str) : List V := x.cps.toList.map fun c => V.str ⟨#[c]⟩
end
/-- the def st stands at the top under its name -/
def Def (K : PySem.W.Frag) (mg : Str → Option Value) (x qual : Str) (st : Stmt) (ps : List Str) : Prop :=
  ∃ (f : Addr) (fd : FuncData), Fun K x qual st f fd ∧ Binds K fd ps [] ∧ mg x = some (.ref f)
/-- the name x is a def that keeps the promise sp, by at most level k -/
def Cal (P : Program) (w : World) (K : PySem.W.Frag) (mg : Str → Option Value) (base : Heap) (k : Nat) (x : Str) (ps : List Str) (sp : Sp) : Prop :=
  ∃ (f : Addr) (fd : FuncData), FnOk P w K mg base CX0 k f fd ps sp ∧ PySem.W.keepIn K (.ref f) = true ∧ Binds K fd ps [] ∧ mg x = some (.ref f)
section
variable {P : Program} {w : World} {K : PySem.W.Frag} {mg : Str → Option Value} {base : Heap}
theorem Cal.mono {j k : Nat} {x : Str} {ps : List Str} {sp : Sp} (c : Cal P w K mg base j x ps sp) (h : j ≤ k) : Cal P w K mg base k x ps sp := by
  obtain ⟨f, fd, F, kp, b, g⟩ := c
  exact ⟨f, fd, F.mono h, kp, b, g⟩
theorem Cal.imp {k : Nat} {x : Str} {ps : List Str} {sp sp' : Sp} (c : Cal P w K mg base k x ps sp) (h : ∀ vs H Q E, sp' vs H Q E → sp vs H Q E) : Cal P w K mg base k x ps sp' := by
  obtain ⟨f, fd, F, kp, b, g⟩ := c
  exact ⟨f, fd, F.imp h, kp, b, g⟩
theorem Def.cal {x qual : Str} {st : Stmt} {ps : List Str} (d : Def K mg x qual st ps) {k : Nat} {sp : Sp} (h : ∀ f fd, Fun K x qual st f fd → FnOk P w K mg base CX0 k f fd ps sp) : Cal P w K mg base k x ps sp := by
  obtain ⟨f, fd, F, b, g⟩ := d
  exact ⟨f, fd, h f fd F, F.kp, b, g⟩
end
section
variable {X : Cx}
/-- f(..), without the empty list of defaults -/
def tCl (sp : Sp) (t : TA) : TE := fun σ H Q => t σ H fun vs H1 => sp vs H1 Q E0
theorem tCl_eq (sp : Sp) (t : TA) : tCall sp [] E0 t = tCl sp t := by
  funext σ H Q
  show t σ H _ = t σ H _
  congr 1
  funext vs H1
  rw [List.append_nil]
theorem pe_cal {x : Str} {ps : List Str} {sp : Sp} {k : Nat} {e : Expr} {es : List Expr} {t : TA} {p pos : Pos} (c : Cal X.prog X.w X.K X.mg X.base k x ps sp) (hr : Room k X.A) (hg : Gl X x) (h : PA X (e :: es) t)
    (hdb : (x == ("__debug__" : Str)) = false := by decide) (he : starEach (e :: es) X.env = (false, eval e X.env) :: starEach es X.env := by rfl) (hpl : (backTo pos (starEach es X.env)).any (·.1) = false := by rfl) :
    PE X (.Call (.Name x p) (e :: es) [] pos) (tCl sp t) := by
  obtain ⟨f, fd, F, kp, b, g⟩ := c
  rw [← tCl_eq]
  exact pe_call F hr hg g kp b .nil pass0 h hdb he hpl
theorem pe_cal0 {x : Str} {ps : List Str} {sp : Sp} {k : Nat} {p pos : Pos} (c : Cal X.prog X.w X.K X.mg X.base k x ps sp) (hr : Room k X.A) (hg : Gl X x)
    (hdb : (x == ("__debug__" : Str)) = false := by decide) : PE X (.Call (.Name x p) [] [] pos) (tCl sp tNil) := by
  obtain ⟨f, fd, F, kp, b, g⟩ := c
  rw [← tCl_eq]
  exact pe_call0 F hr hg g kp b .nil pass0 hdb
end
/-- a statement, then the rest, with a word between them: what follows is shown once -/
def tCut (t u : TS) : TS := fun D σ H => ∃ Mid : L2.St → Hp → Prop, t { D with nx := Mid } σ H ∧ ∀ σ' H', Mid σ' H' → u D σ' H'
section
variable {X : Cx}
theorem pss_cut {st : Stmt} {rest : List Stmt} {t u : TS} (h1 : PS X st t) (h2 : PSs X rest u) : PSs X (st :: rest) (tCut t u) := by
  refine ⟨fun pins s σ H D I h => ?_⟩
  obtain ⟨Mid, hm, hu⟩ := h
  refine wpAny_execs_cons (thn (h1.run pins s σ H { D with nx := Mid } I hm) fun f s1 q => ?_)
  cases f with
  | next =>
    obtain ⟨σ', H', I', q⟩ := q
    exact h2.run pins s1 σ' H' D I' (hu σ' H' q)
  | ret v => exact q
  | brk => exact q
  | cont => exact q
end
theorem sqL_ne {K : PySem.W.Frag} {H : Hp} {a d : Addr} {o : HO} {xs : List V} (n : a ≠ d) (h : SqL K H a xs) : SqL K (upd H d o) a xs := by
  rcases h with (h | ⟨u, h⟩) | h
  · exact .inl (.inl (by rw [upd_ne n]; exact h))
  · exact .inl (.inr ⟨u, by rw [upd_ne n]; exact h⟩)
  · exact .inr h
theorem sqT_ne {K : PySem.W.Frag} {H : Hp} {a d : Addr} {o : HO} {xs : List V} (n : a ≠ d) (h : SqT K H a xs) : SqT K (upd H d o) a xs := by
  rcases h with (h | ⟨u, h⟩) | h
  · exact .inl (.inl (by rw [upd_ne n]; exact h))
  · exact .inl (.inr ⟨u, by rw [upd_ne n]; exact h⟩)
  · exact .inr h
theorem atI_int {α : Type} {xs : List α} {r : Int} (h0 : 0 ≤ r) (h1 : r < xs.length) : ∃ v, v ∈ xs ∧ atI xs r = some v := by
  obtain ⟨k, rfl⟩ := Int.eq_ofNat_of_zero_le h0
  have hk : k < xs.length := by omega
  exact ⟨xs[k], List.getElem_mem hk, atI_nat (List.getElem?_eq_getElem hk)⟩
theorem signV_len (z : Str) : (signV z).length = z.length := by
  unfold signV
  rw [List.length_map, Array.length_toList]
  rfl
/-- the three numbers of some dice -/
def DiceAt (H : Hp) (d : Addr) : Prop := ∃ x b c : Int, H d = some (.lst [.int x, .int b, .int c])
end Gx
set_option maxRecDepth 100000
set_option maxHeartbeats 4000000
namespace Gx
open PySem PySem.Spec PyProof.Rows L2
/-- no repr is under way -/
abbrev Gd (A : Around) : Prop := A.guards = some []
structure FnG (P : Program) (w : World) (K : PySem.W.Frag) (mg : Str → Option Value) (base : Heap) (CX : CXT) (k : Nat) (f : Addr) (fd : FuncData) (ps : List Str) (sp : Sp) : Prop where
  len : ∀ vs H Q E, sp vs H Q E → vs.length = ps.length
  run : ∀ (A : Around) (outer : List Env) (s : Shared) (H : Hp) (args : Args) (us : List Value) (vs : List V) (Q : VK) (E : XK),
    Gd A → Room k A → Env0 P w K mg base A outer s H → BindsTo s fd args (ps.zip us) → Vals vs us → sp vs H Q E →
      codeAny (model P w) A (.call (.ref f) args) (CR CX outer P w H s Q E) s
section
variable {P : Program} {w : World} {K : PySem.W.Frag} {mg : Str → Option Value} {base : Heap} {CX : CXT} {k : Nat} {f : Addr} {fd : FuncData} {ps : List Str} {sp : Sp}
theorem fnG_of (F : FnOk P w K mg base CX k f fd ps sp) : FnG P w K mg base CX k f fd ps sp := ⟨F.len, fun A outer s H args us vs Q E _ => F.run A outer s H args us vs Q E⟩
theorem FnG.up {j : Nat} (F : FnG P w K mg base CX j f fd ps sp) (h : j ≤ k) : FnG P w K mg base CX k f fd ps sp :=
  ⟨F.len, fun A outer s H args us vs Q E g hr => F.run A outer s H args us vs Q E g (hr.mono h)⟩
end
/-- a def by its body, where no repr is under way -/
theorem fnG_body {CX : CXT} {P : Program} {w : World} {K : PySem.W.Frag} {mg : Str → Option Value} {base : Heap} {k : Nat} {f : Addr} {nm ql : Str} {prm : Arguments} {bd : List Stmt} {sc : Scope}
    {dv kv dc pm cd ct oc : Value} {an od : Option Addr} {sl : Array (Option Value)} {N ps : List Str} {sp : Sp}
    (look : K.lookup f = some ⟨oc, od, .func (PySem.W.fnOf nm ql prm bd sc dv kv dc pm an cd ct), sl⟩) (hcode : PySem.W.codeIn K cd ql = true) (S : FnScope N ps sc)
    (hlen : ∀ vs H Q E, sp vs H Q E → vs.length = ps.length)
    (hb : ∀ (A : Around) (outer : List Env) (s : Shared) (H : Hp) (vs : List V) (Q : VK) (E : XK), Gd A → Room k (A.deeper (envOfC ql sc s.heap.objs.size f cd)) → sp vs H Q E →
      ∃ t, PSs (cxOf CX P w K mg base N ql sc f cd A outer s H E) bd t ∧ t { nx := fun _ H' => Q .non H', rt := Q } (start N vs) H) :
    FnG P w K mg base CX (k + 1) f (PySem.W.fnOf nm ql prm bd sc dv kv dc pm an cd ct) ps sp := by
  constructor
  · exact hlen
  · intro A outer s H args us vs Q E g room env bind rel want
    have inS : K.In s.heap := env.mod.kin.keeps fun b o e => (env.bs b o e).1
    have noLim : s.heap.NoLimit := env.mod.nolimit.keeps fun b o e => (env.bs b o e).1
    have kinds : ∀ y ∈ ps.zip us, sc.names.lookup y.1 = some .local ∨ (sc.names.lookup y.1 = some .cell ∧ ((cellsFrom (s.heap.objs.size + 1) sc.names []).lookup y.1).isSome = true) := by
      rintro ⟨n, v⟩ hy
      rcases S.par n (List.of_mem_zip hy).1 with q | q
      · exact Or.inl q
      · exact Or.inr ⟨q, PySem.W.cellsFrom_some _ _ _ (Or.inl q)⟩
    refine codeAny_call_function room.depth (inS _ _ look) rfl S.co S.gen rfl (PySem.W.codeRec_of inS hcode)
      (bind _ _ _ _ (wpAny_newFunctionEnv_cells S.kind kinds fun env' he s1 made => ?_))
    subst he
    refine ⟨noLim.keeps made.toInCall.keep, codeAny_func ?_⟩
    obtain ⟨t, ht, hq⟩ := hb A outer s H vs Q E g (room.deeper _) want
    have I0 := inv_start (CX := CX) (E := E) (N := N) S room.hd env (hlen _ _ _ _ want) rel made
    refine wpAny_mono (ht.run [] s1 (start N vs) H _ I0 hq) ?_ (fun e s' hs => hs)
    intro fl s' hs
    cases fl with
    | brk =>
      obtain ⟨_, _, _, no⟩ := hs
      exact no.elim
    | cont =>
      obtain ⟨_, _, _, no⟩ := hs
      exact no.elim
    | next =>
      obtain ⟨σ', H', J, q⟩ := hs
      exact ⟨V.non, H', J.os, J.bare, J.base, J.hok, rfl, q⟩
    | ret u =>
      obtain ⟨v, σ', H', J, rv, q⟩ := hs
      exact ⟨v, H', J.os, J.bare, J.base, J.hok, rv, q⟩
section
variable {P : Program} {w : World} {K : PySem.W.Frag} {mg : Str → Option Value} {base : Heap}
/-- .. of the text -/
theorem okG {x qual : Str} {st : Stmt} {f : Addr} {fd : FuncData} {N ps : List Str} {k : Nat} {sp : Sp} (F : Fun K x qual st f fd) (S : FnScope N ps (defScope st)) (hlen : ∀ vs H Q E, sp vs H Q E → vs.length = ps.length)
    (hb : ∀ (cdv : Value) (A : Around) (outer : List Env) (s : Shared) (H : Hp) (vs : List V) (Q : VK) (E : XK), Gd (A.deeper (envOfC qual (defScope st) s.heap.objs.size f cdv)) → Room k (A.deeper (envOfC qual (defScope st) s.heap.objs.size f cdv)) → sp vs H Q E →
      ∃ t, PSs (cxOf CX0 P w K mg base N qual (defScope st) f cdv A outer s H E).nox (defBody st) t ∧ t { nx := fun _ H' => Q .non H', rt := Q } (start N vs) H) : FnG P w K mg base CX0 (k + 1) f fd ps sp := by
  obtain ⟨oc, od, kV, doc, pm, an, cdv, ct, osl, rfl, lk, hcd⟩ := F.ex
  refine fnG_body lk hcd S hlen fun A outer s H vs Q E g hr want => ?_
  obtain ⟨t, h, q⟩ := hb cdv A outer s H vs Q E g hr want
  exact ⟨t, h.nox, q⟩
/-- the name x is a def that keeps the promise sp where no repr is under way -/
def CalG (P : Program) (w : World) (K : PySem.W.Frag) (mg : Str → Option Value) (base : Heap) (k : Nat) (x : Str) (ps : List Str) (sp : Sp) : Prop :=
  ∃ (f : Addr) (fd : FuncData), FnG P w K mg base CX0 k f fd ps sp ∧ PySem.W.keepIn K (.ref f) = true ∧ Binds K fd ps [] ∧ mg x = some (.ref f)
theorem Cal.g {k : Nat} {x : Str} {ps : List Str} {sp : Sp} (c : Cal P w K mg base k x ps sp) : CalG P w K mg base k x ps sp := by
  obtain ⟨f, fd, F, r⟩ := c
  exact ⟨f, fd, fnG_of F, r⟩
theorem CalG.up {j k : Nat} {x : Str} {ps : List Str} {sp : Sp} (c : CalG P w K mg base j x ps sp) (h : j ≤ k) : CalG P w K mg base k x ps sp := by
  obtain ⟨f, fd, F, r⟩ := c
  exact ⟨f, fd, F.up h, r⟩
theorem Def.calG {x qual : Str} {st : Stmt} {ps : List Str} (d : Def K mg x qual st ps) {k : Nat} {sp : Sp} (h : ∀ f fd, Fun K x qual st f fd → FnG P w K mg base CX0 k f fd ps sp) : CalG P w K mg base k x ps sp := by
  obtain ⟨f, fd, F, b, g⟩ := d
  exact ⟨f, fd, h f fd F, F.kp, b, g⟩
end
section
variable {X : Cx}
/-- the callee runs -/
theorem runG {CX : CXT} {k : Nat} {f : Addr} {fd : FuncData} {ps : List Str} {sp : Sp} {E : XK} {ds : List Value} {dvs : List V} {pins : List (Addr × Obj)} {σ : L2.St} {H : Hp} {s : Shared} {Q : VK} {us : List Value} {vs : List V}
    (F : FnG X.prog X.w X.K X.mg X.base CX k f fd ps sp) (g : Gd X.A) (room : Room k X.A) (hb : Binds X.K fd ps ds) (hd : Vals dvs ds) (hx : Passes CX X E)
    (I : Inv X pins σ H s) (r : Vals vs us) (want : sp (vs ++ dvs) H Q E) : wpAny (model X.prog X.w) X.A (call (.ref f) us) (EP X pins σ Q) X.xe s := by
  have rel := r.append hd
  have hl : (us ++ ds).length = ps.length := rel.length.symm.trans (F.len _ _ _ _ want)
  have hc := F.run X.A X.stack s H ⟨us, []⟩ (us ++ ds) (vs ++ dvs) Q E g room I.env0 (hb s us I.kIn hl) rel want
  refine wpAny_call (codeAny_mono hc ?_)
  intro res s' hres
  match res, hres with
  | .error e, hres => exact hx pins σ H s e s' I hres
  | .ok (.ret u), hres => exact I.after hres
theorem pe_calG {x : Str} {ps : List Str} {sp : Sp} {k : Nat} {e : Expr} {es : List Expr} {t : TA} {p pos : Pos} (c : CalG X.prog X.w X.K X.mg X.base k x ps sp) (g : Gd X.A) (room : Room k X.A) (hg : Gl X x) (h : PA X (e :: es) t)
    (hdb : (x == ("__debug__" : Str)) = false := by decide) (hst : starEach (e :: es) X.env = (false, eval e X.env) :: starEach es X.env := by rfl) (hpl : (backTo pos (starEach es X.env)).any (·.1) = false := by rfl) :
    PE X (.Call (.Name x p) (e :: es) [] pos) (tCl sp t) := by
  obtain ⟨f, fd, F, kp, b, hm⟩ := c
  rw [← tCl_eq]
  refine ⟨fun pins s σ H Q I want => wpAny_Call_Name_kw (ld_glob I hg hm ?_ hdb)⟩
  exact PySem.W.callWith_K (h₀ := X.base) I.ok.mod.kin kp (thn (h.run pos pins s σ H _ I want) fun us s1 ⟨vs, H1, I1, r, q⟩ => ⟨I1.kIn, runG F g room b .nil pass0 I1 r q⟩) hst hpl
end
theorem repr_ref {prog : Program} {w : World} {A : Around} {E : Value → Shared → Prop} {s : Shared} {Q : Value → Shared → Prop} {a : Addr} {d : PyData} {as : List Addr}
    (r : Reads s.heap (.ref a) d as) (hs : d.showable = true) (hsm : d.hasDict = true → sysModules ∉ as) (hsz : d.shown.length ≤ sizeLine) (g : Gd A) (hu : A.units + 1 + d.depth < cLine)
    (h : ∀ h' u tk, (∀ b o, s.heap.get? b = some o → h'.get? b = some o) → Q (.str d.shown u) { s with heap := h', toks := tk }) : wpAny (model prog w) A (call (.builtin "repr") [.ref a]) Q E s := by
  obtain ⟨T, idr, B⟩ := showsBy_of_reads (prog := prog) (w := w) r hs hsm hsz
  have hT := B.typeIs s fun _ _ e => e
  refine Calls.call_function_entry F.kind_repr F.plain_repr F.entry_repr (F.args_repr1 _) ?_
  unfold Builtin.«repr»
  refine wpAny_bind (m := oneArg "repr" _) (wpAny_pure ?_)
  refine wpAny_bind (wpAny_cRoomFor (by show A.units + 1 < cLine; omega) ?_)
  refine wpAny_bind (wpAny_specialOf (name := Str.ofString "__repr__") hT B.slotRepr.lookup ?_)
  refine wpAny_bind (m := callSpecialIfBound? (.ref a) (Str.ofString "__repr__")) (wpAny_callSpecialIfBound?_slotG (name := Str.ofString "__repr__") hT B.slotRepr (B.call _ _ s _ g (by show A.units + 1 + _ < cLine; omega) (fun _ _ e => e) fun h' u tk hk => ?_))
  refine wpAny_bind (wpAny_isInstance (T := "str") (b := true) rfl isSubtype_str_str ?_)
  exact wpAny_pure ⟨_, rfl, h h' u tk hk⟩
section
variable {X : Cx}
/-- repr(x), x data without dicts -/
def rRepr (K : PySem.W.Frag) : List V → Hp → VK → Prop := fun xs H Q => ∃ (x : V) (d : PyData), xs = [x] ∧ Dp K H x d ∧ d.showable = true ∧ d.hasDict = false ∧ d.depth ≤ 60 ∧ d.shown.length ≤ sizeLine ∧ Q (.str d.shown) H
theorem call_reprD (g : Gd X.A) (hu : X.A.units + 64 < cLine) : CallR X (.builtin "repr") (rRepr X.K) := by
  intro pins s σ H xs us Q I r h
  obtain ⟨x, d, rfl, hd, h1, h2, h3, h4, q⟩ := h
  obtain ⟨u, rfl, rx⟩ := vals1 r
  obtain ⟨as, hr⟩ := Dp.reads I d x u hd rx
  cases hr with
  | none => simp only [PyData.shown] at q; exact PySem.P.repr_of_none ⟨.str _, H, I.tok _, ⟨_, rfl⟩, q⟩
  | bool b => simp only [PyData.shown] at q; exact PySem.P.repr_of_bool ⟨.str _, H, I.tok _, ⟨_, rfl⟩, q⟩
  | int i t => simp only [PyData.shown] at q; exact PySem.P.repr_of_int (by simpa [PyData.showable] using h1) ⟨.str _, H, I.tok _, ⟨_, rfl⟩, q⟩
  | str y t => simp only [PyData.shown] at q h4; exact PySem.P.repr_of_str ⟨.str _, H, I.tok _, ⟨_, rfl⟩, q⟩ h4
  | list e1 e2 e3 e4 =>
    exact repr_ref (.list e1 e2 e3 e4) h1 (fun e => by rw [h2] at e; cases e) h4 g (by omega) fun h' u tk hk => ⟨.str _, H, I.kept (t' := tk) hk, ⟨_, rfl⟩, q⟩
  | tuple e1 e2 e3 e4 =>
    exact repr_ref (.tuple e1 e2 e3 e4) h1 (fun e => by rw [h2] at e; cases e) h4 g (by omega) fun h' u tk hk => ⟨.str _, H, I.kept (t' := tk) hk, ⟨_, rfl⟩, q⟩
  | dict e1 e2 e3 e4 e5 =>
    exact repr_ref (.dict e1 e2 e3 e4 e5) h1 (fun e => by rw [h2] at e; cases e) h4 g (by omega) fun h' u tk hk => ⟨.str _, H, I.kept (t' := tk) hk, ⟨_, rfl⟩, q⟩
end
section
variable {X : Cx}
def rSortedTS (K : PySem.W.Frag) : List V → Hp → VK → Prop := fun vs H Q => ∃ (a : Addr) (xs : List Str), vs = [V.ref a] ∧ SqT K H a (xs.map V.str) ∧ xs.length ≤ 100000 ∧
  ∀ (ys : List Str) (p : Addr), ys.Perm xs → sortedS ys = true → H p = none → Q (.ref p) (upd H p (.lst (ys.map V.str)))
theorem cr_sortedTS : CallR X (.builtin "sorted") (rSortedTS X.K) := by
  intro pins s σ H vs us Q I r h
  obtain ⟨a, xs, rfl, ht, hz, q⟩ := h
  obtain ⟨its, rv, ⟨o, ho, hc, n, hd⟩, _⟩ := I.tuple ht
  rw [Vals.ref1 r]
  have hln : xs.length = its.length := by
    have e := rv.length
    rw [List.length_map] at e
    exact e
  have hS : StrsAre its xs := rv.strs
  have hL : its.length ≤ sizeLine := Nat.le_trans (by omega) (show 100000 ≤ sizeLine by decide)
  refine Calls.call_function_entry kind_sorted plain_sorted entry_sorted (args_sorted1 _) ?_
  unfold Builtin.«sorted»
  refine wpAny_bind (m := checkCount "sorted" 1 1 _) (wpAny_pure ?_)
  refine wpAny_bind (wpAny_collect_seq a (.inr rfl) ho hc hd (fun h' hk => ?_) (by rw [List.size_toArray]; exact hL))
  have I1 : Inv _ pins σ H { s with heap := h' } := I.kept (t' := s.toks) hk
  rw [List.toList_toArray]
  refine wpAny_bind (wpAny_newList ?_ hL)
  have hoL : (h'.push (seqObj "list" its.toArray 0)).get? h'.objs.size = some (seqObj "list" its.toArray 0) := Heap.get?_push_size _ rfl
  show wpAny _ _ _ _ _ { s with heap := h'.push (seqObj "list" its.toArray 0) }
  refine wpAny_bind (wpAny_holding (wpAny_call_entry slot_list_sort ⟨_, hoL, rfl⟩ entry_list_sort
    (list_sort_treeKAny strKind_oneLt (s := { s with heap := h'.push (seqObj "list" its.toArray 0) }) hoL hS.keysOf (fun v₁ v₂ rest e => keyKind_strs (by rw [← e]; exact hS)) hL fun st' hp hs => ⟨_, rfl, ?_⟩) (args_list_sort _)))
  obtain ⟨ys, g1, g2, g3⟩ := sorted_out_str hS hp hs
  obtain ⟨e', he'⟩ := sortedHeap_at (vs := its) (out := (arrOf st').map (·.2)) hoL
  have hlen : (ys.map V.str).length ≤ sizeLine := by
    rw [List.length_map, g2.length_eq, hln]
    exact hL
  refine wpAny_pure ⟨_, rfl, .ref h'.objs.size, upd H h'.objs.size (.lst (ys.map V.str)), I1.laid (t' := s.toks) (fun b u e => ?_) (Nat.le_refl _)
    (show ObjOk X.prog X.w _ _ _ (.lst (ys.map V.str)) from ⟨hlen, ((arrOf st').map (·.2)).toList, e', vals_of_strs g1, by rw [Array.toArray_toList]; exact he'⟩), rfl, q ys _ g2 g3 (I1.hok.fresh (Nat.le_refl _))⟩
  have hb : b < h'.objs.size := Heap.lt_size e
  rw [sortedHeap_old (Nat.ne_of_lt hb) (by rw [size_push']; exact Nat.lt_succ_of_lt hb)]
  exact Heap.get?_push_of_some _ e
end
/-- the abstract heap at the law's call: the script alone, if the module does not own it -/
def H00 (a : Addr) (o : Obj) (ns : List Int) (own : Bool) : Hp := fun b => if own = false ∧ b = a then some (.frz o (.lst (ns.map V.int))) else none
theorem h00_none {a b : Addr} {o : Obj} {ns : List Int} {own : Bool} (h : own = true ∨ b ≠ a) : H00 a o ns own b = none := by
  unfold H00
  rw [if_neg]
  rintro ⟨h1, h2⟩
  rcases h with h | h
  · rw [h1] at h; cases h
  · exact h h2
theorem h00_some {a b : Addr} {o : Obj} {ns : List Int} {own : Bool} {u : HO} (h : H00 a o ns own b = some u) : own = false ∧ b = a ∧ u = .frz o (.lst (ns.map V.int)) := by
  unfold H00 at h
  by_cases c : own = false ∧ b = a
  · rw [if_pos c] at h
    exact ⟨c.1, c.2, (Option.some.inj h).symm⟩
  · rw [if_neg c] at h
    cases h
end Gx
set_option maxRecDepth 100000
set_option maxHeartbeats 4000000
namespace Gx
open PySem PySem.Spec PySem.W PySem.Calls Builtin Builtin.ObjectAttr
end Gx
namespace Gx
open PySem PySem.Spec PySem.W PySem.Calls PyProof.Rows L2
end Gx
namespace Gx
open PySem PySem.Spec PySem.Calls PyProof.Rows L2
section
variable {P : Program} {w : World} {K : PySem.W.Frag} {mg : Str → Option Value} {base : Heap}
/-- the name x is a def that keeps sp, and may raise -/
def CalX (P : Program) (w : World) (K : PySem.W.Frag) (mg : Str → Option Value) (base : Heap) (k : Nat) (x : Str) (ps : List Str) (sp : Sp) : Prop :=
  ∃ (f : Addr) (fd : FuncData), FnG P w K mg base (L2.CX P w) k f fd ps sp ∧ PySem.W.keepIn K (.ref f) = true ∧ Binds K fd ps [] ∧ mg x = some (.ref f)
theorem CalX.up {j k : Nat} {x : Str} {ps : List Str} {sp : Sp} (c : CalX P w K mg base j x ps sp) (h : j ≤ k) : CalX P w K mg base k x ps sp := by
  obtain ⟨f, fd, F, r⟩ := c
  exact ⟨f, fd, F.up h, r⟩
/-- .. called with n values by position and keywords ks; gV puts them in the parameters' order -/
def CalK (P : Program) (w : World) (K : PySem.W.Frag) (mg : Str → Option Value) (base : Heap) (k : Nat) (x : Str) (ps : List Str) (n : Nat) (ks : List Str) (gV : List V → List V → List V) (sp : Sp) : Prop :=
  ∃ (f : Addr) (fd : FuncData) (g : List Value → List Value → List Value), FnG P w K mg base (L2.CX P w) k f fd ps sp ∧ PySem.W.keepIn K (.ref f) = true ∧ KBn K fd ps n ks g gV ∧ mg x = some (.ref f)
theorem CalK.up {j k n : Nat} {x : Str} {ps ks : List Str} {gV : List V → List V → List V} {sp : Sp} (c : CalK P w K mg base j x ps n ks gV sp) (h : j ≤ k) : CalK P w K mg base k x ps n ks gV sp := by
  obtain ⟨f, fd, g, F, r⟩ := c
  exact ⟨f, fd, g, F.up h, r⟩
/-- the top's def with keyword-only parameters and no defaults -/
def DefK (K : PySem.W.Frag) (mg : Str → Option Value) (x qual : Str) (st : Stmt) (ps : List Str) (n : Nat) (ks : List Str) : Prop :=
  ∃ (f : Addr) (fd : FuncData), Fun K x qual st f fd ∧ KBn K fd ps n ks (fun us ws => us ++ ws) (fun vs zs => vs ++ zs) ∧ mg x = some (.ref f)
theorem DefK.calK {x qual : Str} {st : Stmt} {ps ks : List Str} {n : Nat} (d : DefK K mg x qual st ps n ks) {k : Nat} {sp : Sp} (h : ∀ f fd, Fun K x qual st f fd → FnG P w K mg base (L2.CX P w) k f fd ps sp) : CalK P w K mg base k x ps n ks (fun vs zs => vs ++ zs) sp := by
  obtain ⟨f, fd, F, b, g⟩ := d
  exact ⟨f, fd, _, h f fd F, F.kp, b, g⟩
theorem kbn_of {fd : FuncData} {ps ks : List Str} {n : Nat} (h : ∀ us ws : List Value, us.length = n → ws.length = ks.length → bindArgs fd ⟨us, ks.zip ws⟩ = pure (ps.zip (us ++ ws))) : KBn K fd ps n ks (fun us ws => us ++ ws) (fun vs zs => vs ++ zs) :=
  ⟨fun s us ws _ h1 h2 => .of_eq (h us ws h1 h2), fun r1 r2 => r1.append r2⟩
end
end Gx
set_option maxRecDepth 100000
set_option maxHeartbeats 4000000
namespace Mx
open PySem PySem.Spec PyProof.Rows L2 Gx
def isLow (c : Nat) : Bool := decide (97 ≤ c ∧ c ≤ 122)
/-- whether a text is a name -/
def nameB (z : Str) : Bool := (decide (1 ≤ z.cps.size) && decide (z.cps.size ≤ 8)) && z.cps.toList.all isLow
theorem low_facts : ∀ c, c < 128 → (isLow c = true → Unicode.isAlpha c = true ∧ Unicode.isLower c = true ∧ Unicode.isUpper c = false ∧ Unicode.isTitle c = false) ∧ (Unicode.isAlpha c = true → Unicode.isUpper c = false → isLow c = true) := by decide +kernel
theorem isLow_lt {c : Nat} (h : isLow c = true) : c < 128 := by
  have := of_decide_eq_true h
  omega
/-- what is_name reckons of a text -/
theorem name_by (z : Str) (h1 : 1 ≤ z.cps.size) : (Txt.isascii z && (Txt.isalpha z && Txt.islower z)) = z.cps.toList.all isLow := by
  have hl : z.length = z.cps.size := rfl
  unfold Txt.isascii Txt.isalpha Txt.islower
  rw [Bool.eq_iff_iff]
  simp only [Bool.and_eq_true, Array.all_eq_true', Array.any_eq_true', List.all_eq_true, decide_eq_true_eq, Bool.not_eq_true', Array.any_eq_false', Bool.or_eq_true, not_or, Bool.not_eq_true, Array.mem_toList_iff, hl]
  constructor
  · rintro ⟨ha, ⟨_, hb⟩, _, hd⟩ c hc
    exact (low_facts c (ha c hc)).2 (hb c hc) (hd c hc).1
  · intro h
    have f := fun c hc => (low_facts c (isLow_lt (h c hc))).1 (h c hc)
    refine ⟨fun c hc => isLow_lt (h c hc), ⟨h1, fun c hc => (f c hc).1⟩, ⟨z.cps[0], Array.getElem_mem (by omega), (f _ (Array.getElem_mem (by omega))).2.1⟩, fun c hc => ⟨(f c hc).2.2.1, (f c hc).2.2.2⟩⟩
end Mx
set_option maxRecDepth 100000
set_option maxHeartbeats 4000000
namespace Mx
open PySem PySem.Spec PyProof.Rows L2 Gx
/-- a is not behind b -/
def leS (a b : Str) : Prop := ¬ b.cps.toList < a.cps.toList
theorem leS_iff (a b : Str) : leS a b ↔ ltCps b.cps.toList a.cps.toList = false := by
  rw [ltCps_eq, decide_eq_false_iff_not]
  exact Iff.rfl
theorem leS_anti {a b : Str} (h1 : leS a b) (h2 : leS b a) : a = b := by
  have e : a.cps.toList = b.cps.toList := List.le_antisymm (as := a.cps.toList) (bs := b.cps.toList) h1 h2
  cases a
  cases b
  simp only [Str.mk.injEq]
  exact Array.toList_inj.mp e
theorem leS_refl (a : Str) : leS a a := List.lt_irrefl _
theorem leS_trans {a b c : Str} (h1 : leS a b) (h2 : leS b c) : leS a c :=
  List.le_trans (l₁ := a.cps.toList) (l₂ := b.cps.toList) (l₃ := c.cps.toList) h1 h2
theorem risingS_iff : ∀ (l : List Str) (p : Str), risingS p l = true ↔ (p :: l).Pairwise leS
  | [], p => by simp [risingS]
  | x :: r, p => by
    rw [risingS, Bool.and_eq_true, risingS_iff r x, Bool.not_eq_true', ← leS_iff]
    constructor
    · rintro ⟨h1, h2⟩
      refine List.pairwise_cons.mpr ⟨fun y hy => ?_, h2⟩
      rcases List.mem_cons.mp hy with rfl | hy
      · exact h1
      · exact leS_trans h1 ((List.pairwise_cons.mp h2).1 y hy)
    · intro h
      obtain ⟨h1, h2⟩ := List.pairwise_cons.mp h
      exact ⟨h1 x (List.mem_cons_self ..), h2⟩
theorem sortedS_iff (l : List Str) : sortedS l = true ↔ l.Pairwise leS := by
  cases l with
  | nil => simp [sortedS]
  | cons x r => exact risingS_iff r x
theorem sortedS_unique {l m : List Str} (h : l.Perm m) (hl : sortedS l = true) (hm : sortedS m = true) : l = m :=
  List.Perm.eq_of_pairwise (fun _ _ _ _ => leS_anti) ((sortedS_iff l).mp hl) ((sortedS_iff m).mp hm) h
/-- a list of texts is what sorting makes of it just if it is sorted -/
theorem eq_sorted_iff {l m : List Str} (h : m.Perm l) (hm : sortedS m = true) : decide (l = m) = sortedS l := by
  cases e : sortedS l with
  | true => exact decide_eq_true (sortedS_unique h.symm e hm)
  | false => exact decide_eq_false fun q => by rw [q, hm] at e; cases e
def tD (xs : List Str) : List PyData := xs.map PyData.str
theorem eqv_texts : ∀ xs ys : List Str, PyData.eqvAll (tD xs) (tD ys) = decide (xs = ys)
  | [], [] => by simp [tD, PyData.eqvAll]
  | [], y :: ys => by simp [tD, PyData.eqvAll]
  | x :: xs, [] => by simp [tD, PyData.eqvAll]
  | x :: xs, y :: ys => by
    have ih := eqv_texts xs ys
    unfold tD at ih ⊢
    rw [List.map_cons, List.map_cons, PyData.eqvAll, ih, PyData.eqv]
    by_cases h : x = y
    · subst h
      by_cases h2 : xs = ys
      · subst h2
        simp
      · rw [decide_eq_false h2, Bool.and_false, decide_eq_false fun q => h2 (List.cons.inj q).2]
    · rw [decide_eq_false fun q => h (List.cons.inj q).1, beq_eq_false_iff_ne.mpr h, Bool.false_and]
theorem dp_texts {K : PySem.W.Frag} {H : Hp} : ∀ xs : List Str, DpAll K H (xs.map V.str) (tD xs)
  | [] => .nil
  | x :: xs => .cons (.str x) (dp_texts xs)
theorem canLay_texts : ∀ xs : List Str, (∀ x ∈ xs, PyData.strOk x = true) → PyData.canLayAll0 (tD xs) = true
  | [], _ => by simp [tD, PyData.canLayAll0]
  | x :: xs, h => by
    have ih := canLay_texts xs fun y hy => h y (List.mem_cons_of_mem _ hy)
    unfold tD at ih ⊢
    rw [List.map_cons, PyData.canLayAll0, ih, PyData.canLay0, h x (List.mem_cons_self ..)]
    rfl
theorem depth_texts : ∀ xs : List Str, PyData.depthAll (tD xs) ≤ 1
  | [] => by simp [tD, PyData.depthAll]
  | x :: xs => by
    have ih := depth_texts xs
    unfold tD at ih ⊢
    rw [List.map_cons, PyData.depthAll]
    simp only [PyData.depth]
    omega
theorem shaped_texts {xs : List Str} (h : ∀ x ∈ xs, PyData.strOk x = true) : SeqAt.shaped (.list (tD xs)) = true := by
  unfold SeqAt.shaped
  rw [Bool.and_eq_true]
  refine ⟨by simp only [PyData.canLay0]; exact canLay_texts xs h, decide_eq_true ?_⟩
  have := depth_texts xs
  simp only [PyData.depth]
  omega
theorem shaped_textsT {xs : List Str} (h : ∀ x ∈ xs, PyData.strOk x = true) : SeqAt.shaped (.tuple (tD xs)) = true := by
  unfold SeqAt.shaped
  rw [Bool.and_eq_true]
  refine ⟨by simp only [PyData.canLay0]; exact canLay_texts xs h, decide_eq_true ?_⟩
  have := depth_texts xs
  simp only [PyData.depth]
  omega
end Mx
set_option maxRecDepth 100000
set_option maxHeartbeats 4000000
namespace Gx
open PySem PySem.Spec PyProof.Rows L2 SeqAt
open AutoSeq1 (wpAny_loadPart')
end Gx
set_option maxRecDepth 100000
set_option maxHeartbeats 4000000
namespace Gx
open PySem PySem.Spec PySem.Calls Builtin
end Gx
namespace Gx
open PySem PySem.Spec PySem.W PySem.Calls PyProof.Rows L2
end Gx
set_option maxRecDepth 100000
set_option maxHeartbeats 4000000
namespace Gx
open PySem PySem.Spec PySem.W PySem.Calls PyProof.Rows L2
/-- what the written part says of such a class -/
structure XPln (K : Frag) (mg : Str → Option Value) (cn : Str) (mk ini : String) (bmB : List Value) (C : Addr) : Prop where
  gC : mg cn = some (.ref C)
  cls : ∃ nm q N bs bm hd sn sub ab col dd k0 k1 k2 k3 k5, K.lookup C = some (excClassObj nm q C N bs bm hd sn sub ab col dd k0 k1 k2 k3 k5 mk) ∧ excTail bmB bm = true
  iC : findIn K (.ref C) "__init__" = some (some (.builtin ini))
  kC : keepIn K (.ref C) = true
/-- .. of any own class of errors, for isinstance -/
structure XCls (K : Frag) (C : Addr) : Prop where
  isC : isClsIn K C = true
  ga : findIn K (.ref C) "__getattribute__" = some (some (.builtin "BaseException.__getattribute__"))
  gg : findIn K (.ref C) "__getattr__" = some none
  ex : subIn K (.ref C) (.type "BaseException") = some true
  cl : findIn K (.ref C) "__class__" = some (some (.builtin "object.__class__"))
  sp : specialIn K (.builtin "object.__class__") "__get__" = some (some (.builtin "getset_descriptor.__get__"))
  ta : takesIn K (.builtin "object.__class__") = some true
  ob : mroIn K C (.type "object") = some true
end Gx
set_option maxRecDepth 100000
set_option maxHeartbeats 4000000
namespace Gx
open PySem PySem.Spec PySem.W PySem.Calls PyProof.Rows L2
def subC (i j : Nat) : Bool := i == j || (j == 0 && decide (i ≤ 11))
def BS : List String := ["ValueError", "KeyError", "IndexError", "LookupError", "RuntimeError", "OverflowError", "ArithmeticError"]
def subB (i : Nat) (b : String) : Bool :=
  if b = "ValueError" then decide (i ≤ 11) else if b = "KeyError" then i == 12 || i == 13 else if b = "IndexError" then i == 15
  else if b = "LookupError" then decide (12 ≤ i) && decide (i ≤ 15) else if b = "RuntimeError" then i == 16 else if b = "OverflowError" then i == 17 else decide (17 ≤ i)
def xclsB (K : Frag) (C : Addr) : Bool :=
  isClsIn K C && (decide (findIn K (.ref C) "__getattribute__" = some (some (.builtin "BaseException.__getattribute__"))) && (decide (findIn K (.ref C) "__getattr__" = some none) && (decide (subIn K (.ref C) (.type "BaseException") = some true) &&
    (decide (findIn K (.ref C) "__class__" = some (some (.builtin "object.__class__"))) && (decide (specialIn K (.builtin "object.__class__") "__get__" = some (some (.builtin "getset_descriptor.__get__"))) &&
    (decide (takesIn K (.builtin "object.__class__") = some true) && decide (mroIn K C (.type "object") = some true)))))))
theorem xclsB_ok {K : Frag} {C : Addr} (h : xclsB K C = true) : XCls K C := by
  unfold xclsB at h
  simp only [Bool.and_eq_true, decide_eq_true_eq] at h
  obtain ⟨a, b, c, d, e, f, g, i⟩ := h
  exact ⟨a, b, c, d, e, f, g, i⟩
def tabB (K : Frag) (cs : List Addr) : Bool := (List.range 20).all fun i => xclsB K (cs.getD i 0) && (((List.range 20).all fun j => decide (kitOne K (.ref (cs.getD i 0)) (.ref (cs.getD j 0)) = some (subC i j))) && (BS.all fun b => decide (kitOne K (.ref (cs.getD i 0)) (.type b) = some (subB i b))))
end Gx
set_option maxRecDepth 100000
set_option maxHeartbeats 4000000
namespace Gx
open PySem PySem.Spec PySem.W PySem.Calls PyProof.Rows L2
/-- an own class of errors is caught by its own name -/
theorem exm_own {K : PySem.W.Frag} {S : Addr} (b : PySem.W.subIn K (.ref S) (.type "BaseException") = some true) (i : PySem.W.isClsIn K S = true) (t : PySem.W.typeIn K (.ref S) = some (.type "type")) (s : PySem.W.subIn K (.ref S) (.ref S) = some true) : PySem.W.exmOne K (.ref S) (.ref S) = some true := by
  have i' : (PySem.W.clsIn K S).isSome = true := i
  unfold PySem.W.exmOne PySem.W.kitCls
  simp [b, i', t, s]
section
variable {X : Cx} {C : Addr} {cn : Str} {B mk ini : String} {bmB : List Value}
/-- raise cn(a), an own error without an __init__ of its own -/
def tMkR (C : Addr) (ta : TA) : L2.St → Hp → XK → Prop := fun σ H Q => ta σ H fun vs H1 => vs.length ≤ 1000 ∧ Q (.ref C) none H1
theorem pmk_P {a : Expr} {ta : TA} {p pos : Pos} (F : ExcBaseFacts B mk ini bmB) (T : XPln X.K X.mg cn mk ini bmB C) (XC : XCls X.K C) (ha : PA X [a] ta) (hg : Gl X cn)
    (hdb : (cn == ("__debug__" : Str)) = false := by decide) (hst : starEach (a :: []) X.env = (false, eval a X.env) :: starEach [] X.env := by rfl) (hpl : (backTo pos (starEach [] X.env)).any (·.1) = false := by rfl) :
    PMk X (.Call (.Name cn p) [a] [] pos) (tMkR C ta) := by
  intro pins s σ H Q I h
  refine wpAny_Call_Name_kw (ld_glob I hg T.gC ?_ hdb)
  refine PySem.W.callWith_K (h₀ := X.base) I.ok.mod.kin T.kC (thn (ha.run pos pins s σ H _ I h) ?_) hst hpl
  rintro us s1 ⟨vs, H1, I1, r1, hz, q1⟩
  refine ⟨I1.kIn, ?_⟩
  obtain ⟨nm, q, N, bs, bm, hd, sn, sub, ab, col, dd, k0, k1, k2, k3, k5, hC, tail⟩ := T.cls
  have hl : us.length ≤ sizeLine := by
    rw [← r1.length]
    exact Nat.le_trans hz (by decide)
  have tyC : typeIn X.K (.ref C) = some (.type "type") := by
    show (X.K.lookup C).map (·.cls) = _
    rw [hC]
    rfl
  obtain ⟨hp, g, dr, tk, os⟩ := s1
  refine PySem.W.call_B F (fun Y => excTail_contains Y bm tail) (I1.kIn _ _ hC) (looks_findIn I1.kIn T.iC) hl fun h' k he ht => ?_
  obtain ⟨G', g1, g2⟩ := restrict h' fun b => decide (b ≠ hp.objs.size + 1)
  have off : ∀ b, b ≠ hp.objs.size + 1 → G'.get? b = h'.get? b := fun b hb => g1 b (decide_eq_true hb)
  have gone : G'.get? (hp.objs.size + 1) = none := g2 _ (by simp)
  have old : ∀ b o, hp.get? b = some o → G'.get? b = some o := fun b o q => (off b (Nat.ne_of_lt (Nat.lt_succ_of_lt (Heap.lt_size q)))).trans (k b o q)
  have J : Inv X pins σ H1 ⟨G', g, dr, tk, os⟩ := I1.kept (t' := tk) old
  refine ⟨hp.objs.size + 1, _, _, ⟨G', g, dr, tk, os⟩, H1, .ref C, none, rfl, J, ?_, gone, he, ⟨rfl, rfl⟩, rfl, rfl, I1.hok.fresh (Nat.le_succ _), rfl, I1.bare, raises_own XC.ex tyC, q1⟩
  intro b o q
  have q' : G'.get? b = some o := q
  by_cases hb : b = hp.objs.size + 1
  · rw [hb, gone] at q'
    cases q'
  · exact (off b hb).symm.trans q
end
/-- the class at C has a method m that keeps sp, and may raise -/
def CalMX (P : Program) (w : World) (K : PySem.W.Frag) (mg : Str → Option Value) (base : Heap) (C : Addr) (m : Str) (k : Nat) (ps : List Str) (sp : Sp) : Prop :=
  ∃ (f : Addr) (fd : FuncData), FnG P w K mg base (L2.CX P w) k f fd ps sp ∧ Meth K C m f ∧ Binds K fd ps []
theorem CalMX.up {P : Program} {w : World} {K : PySem.W.Frag} {mg : Str → Option Value} {base : Heap} {C : Addr} {m : Str} {j k : Nat} {ps : List Str} {sp : Sp} (c : CalMX P w K mg base C m j ps sp) (h : j ≤ k) : CalMX P w K mg base C m k ps sp := by
  obtain ⟨f, fd, F, r⟩ := c
  exact ⟨f, fd, F.up h, r⟩
section
variable {X : Cx} {C : Addr} {m : Str} {k : Nat} {ps : List Str} {sp : Sp} {ta : TE} {t : TA} {o e : Expr} {es : List Expr} {pos apos : Pos} {E : L2.St → XK}
/-- o.m(..), which may raise -/
def tMethX (C : Addr) (m : Str) (sp : Sp) (E : L2.St → XK) (ta : TE) (t : TA) : TE := fun σ H Q => ta σ H fun x H1 => ∃ a dx fs, x = .ref a ∧ H1 a = some (.ins C dx fs) ∧ fs.lookup m = none ∧ t σ H1 fun vs H2 => sp (x :: vs) H2 Q (E σ)
end
end Gx
set_option maxRecDepth 100000
set_option maxHeartbeats 4000000
namespace Gx
open PySem PySem.Spec PyProof.Rows L2
section
variable {X : Cx} {C : Addr} {k : Nat} {ps : List Str} {sp : Sp} {E : L2.St → XK}
theorem runX_below {f : Addr} {fd : FuncData} {A : Around} {pins : List (Addr × Obj)} {σ : L2.St} {H : Hp} {s : Shared} {us : List Value} {vs : List V} {Q : VK} (F : FnOk X.prog X.w X.K X.mg X.base (L2.CX X.prog X.w) k f fd ps sp) (room : Room k A) (fr : A.frames = X.A.frames) (b : Binds X.K fd ps [])
    (hx : PassesAt (L2.CX X.prog X.w) X σ (E σ)) (I : Inv X pins σ H s) (r : Vals vs us) (want : sp vs H Q (E σ)) : wpAny (model X.prog X.w) A (call (.ref f) us) (EP X pins σ Q) X.xe s := by
  have e0 : Env0 X.prog X.w X.K X.mg X.base A X.stack s H := by
    have e := I.env0
    exact ⟨by rw [fr]; exact e.frames, e.mod, e.bs, e.bsz, e.funs, e.frf, e.hok, e.bare⟩
  have hl : us.length = ps.length := r.length.symm.trans (F.len _ _ _ _ want)
  have bt : BindsTo s fd ⟨us, []⟩ (ps.zip us) := by
    have q := b s us I.kIn (by rw [List.append_nil]; exact hl)
    rw [List.append_nil] at q
    exact q
  refine wpAny_call (codeAny_mono (F.run A X.stack s H ⟨us, []⟩ us vs Q (E σ) room e0 bt r want) fun res s' hres => ?_)
  match res, hres with
  | .error e, hres => exact hx pins H s e s' I hres
  | .ok (.ret u), hres => exact I.after hres
end
/-- the name x is a def that keeps sp and may raise, whatever is under way -/
def CalY (P : Program) (w : World) (K : PySem.W.Frag) (mg : Str → Option Value) (base : Heap) (k : Nat) (x : Str) (ps : List Str) (sp : Sp) : Prop :=
  ∃ (f : Addr) (fd : FuncData), FnOk P w K mg base (L2.CX P w) k f fd ps sp ∧ PySem.W.keepIn K (.ref f) = true ∧ Binds K fd ps [] ∧ mg x = some (.ref f)
section
variable {P : Program} {w : World} {K : PySem.W.Frag} {mg : Str → Option Value} {base : Heap}
theorem CalY.up {j k : Nat} {x : Str} {ps : List Str} {sp : Sp} (c : CalY P w K mg base j x ps sp) (h : j ≤ k) : CalY P w K mg base k x ps sp := by
  obtain ⟨f, fd, F, r⟩ := c
  exact ⟨f, fd, F.mono h, r⟩
theorem Def.calY {x qual : Str} {st : Stmt} {ps : List Str} (d : Def K mg x qual st ps) {k : Nat} {sp : Sp} (h : ∀ f fd, Fun K x qual st f fd → FnOk P w K mg base (L2.CX P w) k f fd ps sp) : CalY P w K mg base k x ps sp := by
  obtain ⟨f, fd, F, b, g⟩ := d
  exact ⟨f, fd, h f fd F, F.kp, b, g⟩
end
end Gx
set_option maxRecDepth 100000
set_option maxHeartbeats 4000000
namespace Gx
open PySem PySem.Spec PyProof.Rows L2 ClX
/-- C.m is a classmethod -/
def ClsMd (K : PySem.W.Frag) (C : Addr) (m qual : Str) (st : Stmt) (ps : List Str) : Prop :=
  ∃ (p g : Addr) (fd : FuncData), CRead K C (.type "type") ∧ CMet K C (.type "type") m p g ∧ Fun K m qual st g fd ∧ Binds K fd ps []
/-- the classmethod m of C keeps sp and may raise -/
def CalQ (P : Program) (w : World) (K : PySem.W.Frag) (mg : Str → Option Value) (base : Heap) (C : Addr) (m : Str) (k : Nat) (ps : List Str) (sp : Sp) : Prop :=
  ∃ (p g : Addr) (fd : FuncData), FnOk P w K mg base (L2.CX P w) k g fd ps sp ∧ CRead K C (.type "type") ∧ CMet K C (.type "type") m p g ∧ Binds K fd ps []
theorem ClsMd.cal {P : Program} {w : World} {K : PySem.W.Frag} {mg : Str → Option Value} {base : Heap} {C : Addr} {m qual : Str} {st : Stmt} {k : Nat} {ps : List Str} {sp : Sp} (d : ClsMd K C m qual st ps)
    (h : ∀ f fd, Fun K m qual st f fd → FnOk P w K mg base (L2.CX P w) k f fd ps sp) : CalQ P w K mg base C m k ps sp := by
  obtain ⟨p, g, fd, r, c, F, b⟩ := d
  exact ⟨p, g, fd, h g fd F, r, c, b⟩
theorem CalQ.up {P : Program} {w : World} {K : PySem.W.Frag} {mg : Str → Option Value} {base : Heap} {C : Addr} {m : Str} {j k : Nat} {ps : List Str} {sp : Sp} (c : CalQ P w K mg base C m j ps sp) (h : j ≤ k) : CalQ P w K mg base C m k ps sp := by
  obtain ⟨p, g, fd, F, r⟩ := c
  exact ⟨p, g, fd, F.mono h, r⟩
end Gx
set_option maxRecDepth 100000
set_option maxHeartbeats 4000000
namespace Gx
open PySem PySem.Spec PyProof.Rows L2
/-- the abstract heap at the law's call: the script and the empty tables of the defs that make lambdas -/
def H0T (a : Addr) (o : Obj) (ns : List Int) (own : Bool) (ts : List Addr) : Hp := fun b => if b ∈ ts then some (.tbl #[]) else H00 a o ns own b
theorem h0t_in {a b : Addr} {o : Obj} {ns : List Int} {own : Bool} {ts : List Addr} (h : b ∈ ts) : H0T a o ns own ts b = some (.tbl #[]) := by
  unfold H0T
  rw [if_pos h]
theorem h0t_out {a b : Addr} {o : Obj} {ns : List Int} {own : Bool} {ts : List Addr} (h : b ∉ ts) : H0T a o ns own ts b = H00 a o ns own b := by
  unfold H0T
  rw [if_neg h]
theorem h0t_some {a b : Addr} {o : Obj} {ns : List Int} {own : Bool} {ts : List Addr} {u : HO} (h : H0T a o ns own ts b = some u) : (b ∈ ts ∧ u = .tbl #[]) ∨ (b ∉ ts ∧ own = false ∧ b = a ∧ u = .frz o (.lst (ns.map V.int))) := by
  by_cases c : b ∈ ts
  · rw [h0t_in c] at h
    cases h
    exact .inl ⟨c, rfl⟩
  · rw [h0t_out c] at h
    exact .inr ⟨c, h00_some h⟩
/-- the tables cs stand in the heap, and the module does not name them -/
structure TabsHere (K : PySem.W.Frag) (h : Heap) (cs : List (Addr × Addr)) : Prop where
  hd : ∀ c ∈ cs, PySem.W.CodeHd h c.1 c.2
  at_ : ∀ c ∈ cs, h.get? c.2 = some (PySem.W.tabObj #[])
  free : ∀ c ∈ cs, K.lookup c.2 = none
theorem lawGT {P : Program} {w : World} {K : PySem.W.Frag} {mg mb : Str → Option Value} {CX : CXT} {k : Nat} {fa a : Addr} {fd : FuncData} {x : Str} {sp : Sp} {t : Shared} {vs : List Value} {ns : List Int} {cs : List (Addr × Addr)}
    (inK : K.In t.heap) (glob : t.heap.Ns mainGlobals mg) (blt : t.heap.Ns builtinsNs mb) (boot : ∀ y : Str, y ≠ "__name__" → mb y = bootBuiltins y) (noLim : t.heap.NoLimit) (gens : t.gens = #[]) (tabs : TabsHere K t.heap cs)
    (bmod : ∃ (bm : Addr) (ob : Obj), mg "__builtins__" = some (.ref bm) ∧ bm ≠ builtinsNs ∧ t.heap.get? bm = some ob ∧ ob.cls = .type "module" ∧ ob.dict = some builtinsNs ∧ ob.data = .plain)
    (scr : t.heap.get? a = some { cls := .type "list", data := .seq vs.toArray }) (hints : IntsAre vs ns) (short : ns.length ≤ sizeLine) (room : Room k callerA)
    (F : ∀ base : Heap, K.In base → base.Ns mainGlobals mg → (∀ c ∈ cs, LamX.TabB base mg c.1 c.2) → FnG P w K mg base CX k fa fd [x] sp) (bind : ∀ (s : Shared) (u : Value), BindsTo s fd ⟨[u], []⟩ [(x, u)])
    (want : ∀ H : Hp, (∀ c ∈ cs, H c.2 = some (.tbl #[])) → SqL K H a (ns.map V.int) → sp [.ref a] H (fun v _ => v = .bl true) fun _ _ _ => False)
    (noErr : ∀ H e s', CX [] H t (fun _ _ _ => False) e s' → False) :
    codeAny (model P w) callerA (.call (.ref fa) ⟨[.ref a], []⟩) (fun r s' => r = .ok (.ret (.bool true)) ∧ OldK t.heap s'.heap ∧ s'.os = t.os ∧ AllBare s'.gens) t := by
  have hv : Vals (ns.map V.int) vs := vals_ints hints
  have hlv : vs.length = ns.length := hints.length
  obtain ⟨own, hown⟩ : ∃ own : Bool, own = (K.lookup a).isSome := ⟨_, rfl⟩
  obtain ⟨ts, hts⟩ : ∃ ts : List Addr, ts = cs.map (·.2) := ⟨_, rfl⟩
  have tin : ∀ {c : Addr × Addr}, c ∈ cs → c.2 ∈ ts := fun h => by
    rw [hts]
    exact List.mem_map.mpr ⟨_, h, rfl⟩
  have tout : ∀ {b : Addr}, b ∈ ts → ∃ c ∈ cs, c.2 = b := fun h => by
    rw [hts] at h
    exact List.mem_map.mp h
  have tget : ∀ {b : Addr}, b ∈ ts → t.heap.get? b = some (PySem.W.tabObj #[]) := fun h => by
    obtain ⟨c, hc, rfl⟩ := tout h
    exact tabs.at_ c hc
  have na : a ∉ ts := fun h => by
    have e := tget h
    rw [scr] at e
    have e2 := congrArg Obj.data (Option.some.inj e)
    cases e2
  let o : Obj := { cls := .type "list", data := .seq vs.toArray }
  let H0 : Hp := H0T a o ns own ts
  have hOk : HOk P w H0 t.heap := by
    intro b u e
    rcases h0t_some e with ⟨h, rfl⟩ | ⟨_, _, rfl, rfl⟩
    · exact tget h
    · exact ⟨scr, by rw [List.length_map]; exact short, vs, _, hv, scr⟩
  have none0 : ∀ {b : Addr}, b ∉ ts → own = true ∨ b ≠ a → H0 b = none := fun h1 h2 => (h0t_out h1).trans (h00_none h2)
  have keepT : ∀ {b : Addr} {ob : Obj}, t.heap.get? b = some ob → b ∉ ts → own = true ∨ b ≠ a → (hidT t.heap H0).get? b = some ob := fun e n1 n2 => hidT_get e (none0 n1 n2)
  -- what is neither the script nor a table
  have other : ∀ {b : Addr} {ob : Obj}, t.heap.get? b = some ob → (∀ xs n, ob.data ≠ .seq xs n) → ob.data ≠ .fields #[] → b ∉ ts ∧ b ≠ a := by
    intro b ob e n1 n2
    refine ⟨fun h => ?_, fun h => ?_⟩
    · rw [tget h] at e
      cases e
      exact n2 rfl
    · rw [h, scr] at e
      cases e
      exact n1 _ _ rfl
  have nsKeep : ∀ {b : Addr} {m : Str → Option Value}, t.heap.Ns b m → (hidT t.heap H0).Ns b m := by
    rintro b m ⟨ob, es, ep, e, dd, r⟩
    obtain ⟨n1, n2⟩ := other e (fun xs n z => by rw [dd] at z; cases z) (fun z => by rw [dd] at z; cases z)
    exact ⟨ob, es, ep, keepT e n1 (.inr n2), dd, r⟩
  have inK' : K.In (hidT t.heap H0) := by
    intro b ob e
    have nt : b ∉ ts := fun h => by
      obtain ⟨c, hc, rfl⟩ := tout h
      rw [tabs.free c hc] at e
      cases e
    refine keepT (inK b ob e) nt ?_
    by_cases hb : b = a
    · subst hb
      left
      rw [hown, e]
      rfl
    · exact .inr hb
  have noLim' : (hidT t.heap H0).NoLimit := by
    obtain ⟨mc, h1, h2⟩ := noLim
    exact ⟨mc, nsKeep h1, h2⟩
  have tabB : ∀ c ∈ cs, LamX.TabB (hidT t.heap H0) mg c.1 c.2 := by
    intro c hc
    have hP := tabs.at_ c hc
    constructor
    · obtain ⟨oc, us, file, tf, flags, tg, inF, text, tt, e, r1, r2, r3, r4⟩ := tabs.hd c hc
      obtain ⟨n1, n2⟩ := other e (fun xs n z => by rw [r2] at z; cases z) (fun z => by
        rw [r2] at z
        cases z
        cases r3)
      exact ⟨oc, us, file, tf, flags, tg, inF, text, tt, keepT e n1 (.inr n2), r1, r2, r3, r4⟩
    · obtain ⟨bm, ob, b1, b2, b3, b4, b5, b6⟩ := bmod
      obtain ⟨n1, n2⟩ := other b3 (fun xs n z => by rw [b6] at z; cases z) (fun z => by rw [b6] at z; cases z)
      refine ⟨bm, ob, b1, b2, ?_, fun z => n1 (z ▸ tin hc), keepT b3 n1 (.inr n2), b4, b5, b6⟩
      rintro rfl
      obtain ⟨og, es, ep, e, dd, _⟩ := glob
      rw [b3] at e
      cases e
      rw [b6] at dd
      cases dd
    · rintro z
      obtain ⟨og, es, ep, e, dd, _⟩ := glob
      rw [z, hP] at e
      cases e
      cases dd
  have env : Env0 P w K mg (hidT t.heap H0) callerA [] t H0 := by
    refine ⟨rfl, ⟨inK', nsKeep glob, ⟨mb, nsKeep blt, boot⟩, noLim'⟩, fun b ob e => of_hidT e, Nat.le_of_eq (hidT_size _ _), trivial, ?_, hOk, .of_eq gens⟩
    intro b hb
    exact absurd (show b ∈ ([] : List Addr) from hb) List.not_mem_nil
  have hS : SqL K H0 a (ns.map V.int) := by
    cases own with
    | false =>
      refine .inl (.inr ⟨o, ?_⟩)
      show H0T a o ns false ts a = _
      rw [h0t_out na]
      unfold H00
      rw [if_pos ⟨rfl, rfl⟩]
    | true =>
      obtain ⟨ob, e⟩ := Option.isSome_iff_exists.mp hown.symm
      have e2 := inK a ob e
      rw [scr] at e2
      cases e2
      exact .inr ⟨_, vs.toArray, _, e, rfl, rfl, rfl, by rw [List.size_toArray, hlv]; exact short, by simpa using hv⟩
  have runs := (F _ inK' (nsKeep glob) tabB).run callerA [] t H0 ⟨[.ref a], []⟩ [.ref a] [.ref a] _ _ rfl room env (bind t (.ref a)) (.cons rfl .nil) (want _ (fun c hc => h0t_in (tin hc)) hS)
  refine codeAny_mono runs ?_
  intro res s' hres
  match res, hres with
  | .error e, hres => exact (noErr _ e s' hres).elim
  | .ok (.ret u), hres =>
    obtain ⟨v, H', hos, bare, un, ok', rel, rfl⟩ := hres
    obtain rfl : u = Value.bool true := rel
    have stays : ∀ b ob, b ∉ ts → t.heap.get? b = some ob → s'.heap.get? b = some ob := by
      intro b ob nb e
      cases q : H0 b with
      | none => exact un.keep b ob e q (fun z => absurd (show b ∈ ([] : List Addr) from z) List.not_mem_nil) List.not_mem_nil
      | some u =>
        rcases h0t_some q with ⟨h, _⟩ | ⟨_, _, _, rfl⟩
        · exact absurd h nb
        · have q' := un.frzs b _ _ q
          have e1 := (hOk b _ q).1
          rw [e] at e1
          cases e1
          exact (ok' b _ q').1
    have grows : ∀ c ∈ cs, ∃ more : Array Value, s'.heap.get? c.2 = some (PySem.W.tabObj more) := by
      intro c hc
      obtain ⟨more, z⟩ := un.tbls c.2 #[] (h0t_in (tin hc))
      exact ⟨_, ok' c.2 _ z⟩
    refine ⟨rfl, ⟨fun b ob e => ?_, fun b ob e => ?_⟩, hos, bare⟩
    · by_cases hb : b ∈ ts
      · obtain ⟨c, hc, rfl⟩ := tout hb
        obtain ⟨more, hm⟩ := grows c hc
        have hP := tabs.at_ c hc
        rw [hP] at e
        cases e
        refine .inr (.inl ⟨((tabs.hd c hc).tab hP).isCodeTable, rfl, #[], more, rfl, ?_⟩)
        rw [Array.empty_append]
        exact hm
      · exact .inl (stays b ob hb e)
    · by_cases hb : b ∈ ts
      · obtain ⟨c, hc, rfl⟩ := tout hb
        obtain ⟨more, hm⟩ := grows c hc
        exact ⟨_, hm⟩
      · exact ⟨ob, stays b ob hb e⟩
end Gx
set_option maxRecDepth 100000
set_option maxHeartbeats 4000000
namespace Gx
open PySem PySem.Spec PyProof.Rows L2 LamX
/-- one table, one name -/
theorem one_of : ∀ {Tb : List (Addr × Str)} {P : Addr} {q : Str}, (Tb.map (·.1)).Nodup → (P, q) ∈ Tb → ∀ p ∈ Tb, p.1 = P → p.2 = q
  | (P0, q0) :: r, P, q, nd, m, p, hp, e => by
    rw [List.map_cons, List.nodup_cons] at nd
    rcases List.mem_cons.mp m with h | h
    · cases h
      rcases List.mem_cons.mp hp with rfl | h2
      · rfl
      · exact absurd (List.mem_map.mpr ⟨p, h2, e⟩) nd.1
    · rcases List.mem_cons.mp hp with rfl | h2
      · exact absurd (List.mem_map.mpr ⟨_, h, e.symm⟩) nd.1
      · exact one_of nd.2 h p h2 e
abbrev ln (x : Str) : Str := (x ++ ".<locals>.") ++ "<lambda>"
/-- a def of the module that makes lambdas: its code and its table -/
structure Lam (K : PySem.W.Frag) (mg : Str → Option Value) (base : Heap) (Tb : List (Addr × Str)) (x : Str) (c Pt : Addr) : Prop where
  tb : TabB base mg c Pt
  mem : (Pt, ln x) ∈ Tb
  one : ∀ p ∈ Tb, p.1 = Pt → p.2 = ln x
  code : ∀ (f : Addr) (oc : Value) (od : Option Addr) (fd : FuncData) (sl : Array (Option Value)), mg x = some (.ref f) → K.lookup f = some ⟨oc, od, .func fd, sl⟩ → fd.code = .ref c
theorem Lam.of {K : PySem.W.Frag} {mg : Str → Option Value} {base : Heap} {Tb : List (Addr × Str)} {x : Str} {c Pt : Addr} (L : Lam K mg base Tb x c Pt) {qual : Str} {st : Stmt} {f : Addr} {fd : FuncData} (g : mg x = some (.ref f)) (F : Fun K x qual st f fd) : fd.code = .ref c := by
  obtain ⟨oc, od, kV, doc, pm, an, cdv, ct, osl, _, lk, _⟩ := F.ex
  exact L.code f oc od fd osl g lk
end Gx
set_option maxRecDepth 100000
set_option maxHeartbeats 4000000
namespace Gx
open PySem PySem.Spec PySem.W PySem.Calls PyProof.Rows L2
end Gx
set_option maxRecDepth 100000
set_option maxHeartbeats 4000000
namespace Gx
open PySem PySem.Spec PyProof.Rows L2 ClX
/-- C.m is a classmethod whose last parameter takes what is left over -/
def ClsMdS (K : PySem.W.Frag) (C : Addr) (m qual : Str) (st : Stmt) (ps : List Str) (pv : Str) : Prop :=
  ∃ (p g : Addr) (fd : FuncData), CRead K C (.type "type") ∧ CMet K C (.type "type") m p g ∧ Fun K m qual st g fd ∧ ∀ us rest : List Value, us.length = ps.length → bindArgs fd ⟨us ++ rest, []⟩ = (newTuple rest >>= fun t => pure (ps.zip us ++ [(pv, t)]))
/-- .. it keeps sp of the parameters and the tuple, and may raise -/
def CalQS (P : Program) (w : World) (K : PySem.W.Frag) (mg : Str → Option Value) (base : Heap) (C : Addr) (m : Str) (k n : Nat) (sp : Sp) : Prop :=
  ∃ (p g : Addr), CRead K C (.type "type") ∧ CMet K C (.type "type") m p g ∧
    FnR P w K mg base (L2.CX P w) k g (fun vs H Q E => ∃ ws rest, vs = ws ++ rest ∧ ws.length = n ∧ rest.length ≤ sizeLine ∧ ∀ p, H p = none → sp (ws ++ [V.ref p]) (upd H p (.tup rest)) Q E)
theorem ClsMdS.cal {P : Program} {w : World} {K : PySem.W.Frag} {mg : Str → Option Value} {base : Heap} {C : Addr} {m qual pv : Str} {st : Stmt} {k : Nat} {N ps : List Str} {sp : Sp} (d : ClsMdS K C m qual st ps pv) (S : FnScope N (ps ++ [pv]) (defScope st))
    (h : ∀ (f : Addr) (cdv : Value) (A : Around) (outer : List Env) (s : Shared) (H : Hp) (vs : List V) (Q : VK) (E : XK), Room k (A.deeper (envOfC qual (defScope st) s.heap.objs.size f cdv)) → sp vs H Q E →
      ∃ t, PSs (cxOf (L2.CX P w) P w K mg base N qual (defScope st) f cdv A outer s H E) (defBody st) t ∧ t { nx := fun _ H' => Q .non H', rt := Q } (start N vs) H) : CalQS P w K mg base C m (k + 1) ps.length sp := by
  obtain ⟨p, g, fd, r, c, F, hb⟩ := d
  obtain ⟨oc, od, an, kV, doc, pm, cdv, ct, osl, rfl, lk, hcd⟩ := F.ex
  exact ⟨p, g, r, c, StX.fn_star lk hcd S StX.cxUp hb fun A outer s H vs Q E hr want => h g cdv A outer s H vs Q E hr want⟩
end Gx
set_option maxRecDepth 100000
set_option maxHeartbeats 4000000
namespace Gx
open PySem PySem.Spec PyProof.Rows L2 ClX
end Gx
set_option maxRecDepth 100000
set_option maxHeartbeats 4000000
namespace Gx
open PySem PySem.Spec PyProof.Rows L2 LamX
/-- the object at f is the function that a lambda has made; its code object is the one at c' -/
def FnO (f c' : Addr) (q : Str) (params : Arguments) (body : Expr) (scope : Scope) (cl : List (Str × Addr)) : HO := .ext fun h => ∃ pm ctv : Value, h.get? f = some (PySem.W.kla_obj "<lambda>" q params body scope cl pm c' ctv)
/-- v is a lambda of these -/
def LamV (X : Cx) (H : Hp) (v : V) (params : Arguments) (body : Expr) (scope : Scope) : Prop := ∃ f c' : Addr, v = .ref f ∧ H f = some (FnO f c' (X.env.qual ++ "<lambda>") params body scope (cloFrom X.env.cells scope.names [])) ∧ H c' = some (CodeO c' (X.env.qual ++ "<lambda>"))
theorem LamV.ext {X : Cx} {H H' : Hp} {v : V} {params : Arguments} {body : Expr} {scope : Scope} (h : LamV X H v params body scope) (s : ExtN H H') : LamV X H' v params body scope := by
  obtain ⟨f, c', e, h1, h2⟩ := h
  exact ⟨f, c', e, s _ _ h1 (fun ps z => by unfold FnO at z; cases z), s _ _ h2 codeO_ne⟩
end Gx
set_option maxRecDepth 100000
set_option maxHeartbeats 4000000
namespace Gx
open PySem PySem.Spec PyProof.Rows L2
def DefMK (K : PySem.W.Frag) (C : Addr) (m qual : Str) (st : Stmt) (ps : List Str) : Prop := ∃ (f : Addr) (fd : FuncData) (t : Addr), Fun K m qual st f fd ∧ Meth K C m f ∧ Binds K fd ps [.ref t] ∧ PySem.W.fnIn K f = true ∧ ∀ H : Hp, SqT K H t []
def CalMK (P : Program) (w : World) (K : PySem.W.Frag) (mg : Str → Option Value) (base : Heap) (C : Addr) (m : Str) (k : Nat) (ps : List Str) (sp : Sp) : Prop :=
  ∃ (f : Addr) (fd : FuncData) (t : Addr), FnOk P w K mg base CX0 k f fd ps sp ∧ Meth K C m f ∧ Binds K fd ps [.ref t] ∧ PySem.W.fnIn K f = true ∧ ∀ H : Hp, SqT K H t []
section
variable {P : Program} {w : World} {K : PySem.W.Frag} {mg : Str → Option Value} {base : Heap} {C : Addr} {m qual : Str} {st : Stmt} {k : Nat} {ps : List Str} {sp : Sp}
theorem DefMK.cal (d : DefMK K C m qual st ps) (h : ∀ f fd, Fun K m qual st f fd → FnOk P w K mg base CX0 k f fd ps sp) : CalMK P w K mg base C m k ps sp := by
  obtain ⟨f, fd, t, F, r⟩ := d
  exact ⟨f, fd, t, h f fd F, r⟩
theorem CalMK.mono {j : Nat} (c : CalMK P w K mg base C m j ps sp) (h : j ≤ k) : CalMK P w K mg base C m k ps sp := by
  obtain ⟨f, fd, t, F, r⟩ := c
  exact ⟨f, fd, t, F.mono h, r⟩
theorem sqT_const0 {t : Addr} {od : Option Addr} {n : Nat} {sl : Array (Option Value)} (l : K.lookup t = some ⟨.type "tuple", od, .seq #[] n, sl⟩) (H : Hp) : SqT K H t [] :=
  .inr ⟨_, #[], n, l, rfl, rfl, Nat.zero_le _, .nil⟩
/-- the keyword's value is looked up in the dict of the def -/
theorem binds_kw1 {fd : FuncData} {D : Addr} {x : Str} {u : Value} {qs : List Str} (hD : PySem.W.nsIn K D x = some (some u)) (hl : ps = qs ++ [x])
    (h : ∀ us : List Value, us.length = qs.length → KwChain D [(x, u)] (bindArgs fd ⟨us, []⟩) (ps.zip (us ++ [u]))) : Binds K fd ps [u] := by
  intro s us X hlen
  refine BindsTo.of_looks fun M => KwChain.looks X (fun q hq => ?_) (h us ?_)
  · rw [List.mem_singleton.mp hq]
    exact hD
  · rw [hl, List.length_append, List.length_append] at hlen
    exact Nat.add_right_cancel hlen
end
section
variable {X : Cx} {C : Addr} {m : Str} {k : Nat} {ps : List Str} {sp : Sp} {ta : TE} {t : TA} {o e : Expr} {es : List Expr} {pos apos : Pos}
def tMethK (K : PySem.W.Frag) (C : Addr) (m : Str) (sp : Sp) (ta : TE) (t : TA) : TE := fun σ H Q => ta σ H fun x H1 => ∃ a dx fs, x = .ref a ∧ H1 a = some (.ins C dx fs) ∧ fs.lookup m = none ∧ t σ H1 fun vs H2 => ∀ d : Addr, (∀ H' : Hp, SqT K H' d []) → sp (x :: (vs ++ [V.ref d])) H2 Q E0
theorem pe_methK {pl : Sem Bool} (he : PE X o ta) (cl : Cls X.K C) (c : CalMK X.prog X.w X.K X.mg X.base C m k ps sp) (hr : Room k X.A) (ha : PA X (e :: es) t)
    (hst : starEach (e :: es) X.env = (false, eval e X.env) :: starEach es X.env := by rfl) (hpl : (backTo pos (starEach es X.env)).any (·.1) = false := by rfl)
    (ht : eval (.Call (.Attribute o m apos) (e :: es) [] pos) X.env = (do
      let ov ← eval o X.env
      standAt apos.atName
      let (f, first) ← holding [ov] (getMethod ov m pl)
      callWith pos f first (backTo pos (starEach (e :: es) X.env)) (backToKw pos (keywordEach [] X.env))) := by rfl) :
    PE X (.Call (.Attribute o m apos) (e :: es) [] pos) (tMethK X.K C m sp ta t) := by
  obtain ⟨f, fd, d, F, me, b, fi, hd⟩ := c
  refine ⟨fun pins s σ H Q I want => ?_⟩
  refine PySem.W.methodCall_KW (pl := pl) (thn (he.run pins s σ H _ I want) fun u s1 ⟨x, H1, J1, rx, a, dx, fs, ex, ea, l, want1⟩ => ?_) ht
  subst ex
  obtain rfl : u = Value.ref a := rx
  refine getmeth_ok J1 ea cl me l ?_
  refine PySem.W.callWith_K (first := [.ref a]) (h₀ := X.base) J1.ok.mod.kin me.kp (thn (ha.run pos pins s1 σ H1 _ J1 want1) fun us s2 ⟨vs, H2, J2, r, want2⟩ => ⟨J2.kIn, ?_⟩) hst hpl
  exact run_fn (us := .ref a :: us) (vs := .ref a :: vs) (dvs := [V.ref d]) (ds := [Value.ref d]) F hr b (.cons rfl .nil) pass0 J2 (.cons rfl r) (want2 d hd)
end
end Gx
set_option maxRecDepth 100000
set_option maxHeartbeats 4000000
namespace Gx
open PySem PySem.Spec PyProof.Rows L2
def DefMKK (K : PySem.W.Frag) (C : Addr) (m qual : Str) (st : Stmt) (ps : List Str) (n : Nat) (x : Str) : Prop := ∃ (f : Addr) (fd : FuncData) (t : Addr), Fun K m qual st f fd ∧ Meth K C m f ∧ (Binds K fd ps [.ref t] ∧ KBn K fd ps n [x] (fun us ws => us ++ ws) (fun vs zs => vs ++ zs)) ∧ PySem.W.fnIn K f = true ∧ ∀ H : Hp, SqT K H t []
def CalMKK (P : Program) (w : World) (K : PySem.W.Frag) (mg : Str → Option Value) (base : Heap) (C : Addr) (m : Str) (k : Nat) (ps : List Str) (n : Nat) (x : Str) (sp : Sp) : Prop :=
  ∃ (f : Addr) (fd : FuncData), FnOk P w K mg base CX0 k f fd ps sp ∧ Meth K C m f ∧ KBn K fd ps n [x] (fun us ws => us ++ ws) (fun vs zs => vs ++ zs)
section
variable {P : Program} {w : World} {K : PySem.W.Frag} {mg : Str → Option Value} {base : Heap} {C : Addr} {m qual x : Str} {st : Stmt} {k n : Nat} {ps : List Str} {sp : Sp}
theorem DefMKK.dfl (d : DefMKK K C m qual st ps n x) : DefMK K C m qual st ps := by
  obtain ⟨f, fd, t, F, me, b, r⟩ := d
  exact ⟨f, fd, t, F, me, b.1, r⟩
theorem DefMKK.calK (d : DefMKK K C m qual st ps n x) (h : ∀ f fd, Fun K m qual st f fd → FnOk P w K mg base CX0 k f fd ps sp) : CalMKK P w K mg base C m k ps n x sp := by
  obtain ⟨f, fd, t, F, me, b, r⟩ := d
  exact ⟨f, fd, h f fd F, me, b.2⟩
end
section
variable {X : Cx} {C : Addr} {m x : Str} {k n : Nat} {ps : List Str} {sp : Sp} {ta : TE} {t tk : TA} {o e : Expr} {es : List Expr} {kws : List Keyword} {pos apos : Pos}
def tMethKK (C : Addr) (m : Str) (n : Nat) (sp : Sp) (ta : TE) (t tk : TA) : TE := fun σ H Q => ta σ H fun x H1 => ∃ a dx fs, x = .ref a ∧ H1 a = some (.ins C dx fs) ∧ fs.lookup m = none ∧ t σ H1 fun vs H2 => tk σ H2 fun zs H3 => (V.ref a :: vs).length = n ∧ zs.length = 1 ∧ sp ((x :: vs) ++ zs) H3 Q E0
theorem pe_methKK {pl : Sem Bool} (he : PE X o ta) (cl : Cls X.K C) (c : CalMKK X.prog X.w X.K X.mg X.base C m k ps n x sp) (hr : Room k X.A) (ha : PA X (e :: es) t) (hk : PK X kws tk)
    (hall : (backToKw pos (keywordEach kws X.env)).all (·.1.isSome) = true := by rfl) (hks : (backToKw pos (keywordEach kws X.env)).filterMap (·.1) = [x] := by rfl)
    (hst : starEach (e :: es) X.env = (false, eval e X.env) :: starEach es X.env := by rfl) (hpl : ((backTo pos (starEach (e :: es) X.env)).any (·.1) || (backToKw pos (keywordEach kws X.env)).any (·.1.isNone)) = false := by rfl)
    (ht : eval (.Call (.Attribute o m apos) (e :: es) kws pos) X.env = (do
      let ov ← eval o X.env
      standAt apos.atName
      let (f, first) ← holding [ov] (getMethod ov m pl)
      callWith pos f first (backTo pos (starEach (e :: es) X.env)) (backToKw pos (keywordEach kws X.env))) := by rfl) :
    PE X (.Call (.Attribute o m apos) (e :: es) kws pos) (tMethKK C m n sp ta t tk) := by
  obtain ⟨f, fd, F, me, b⟩ := c
  refine ⟨fun pins s σ H Q I want => ?_⟩
  refine PySem.W.methodCall_KW (pl := pl) (thn (he.run pins s σ H _ I want) fun u s1 ⟨y, H1, J1, ry, a, dx, fs, ey, ea, l, want1⟩ => ?_) ht
  subst ey
  obtain rfl : u = Value.ref a := ry
  refine getmeth_ok J1 ea cl me l ?_
  refine PySem.W.callWith_KW (first := [.ref a]) (h₀ := X.base) J1.ok.mod.kin me.kp hall (thn (ha.run pos pins s1 σ H1 _ J1 want1) fun us s2 ⟨vs, H2, J2, r, want2⟩ => ?_) hpl hst
  refine thn (hk.run pos pins s2 σ H2 _ J2 want2) fun ws s3 ⟨zs, H3, J3, rz, l1, l2, want3⟩ => ⟨J3.kIn, ?_⟩
  rw [hks]
  exact run_fnN (us := .ref a :: us) (vs := .ref a :: vs) F hr b pass0 J3 (.cons rfl r) rz l1 l2 want3
end
end Gx
set_option maxRecDepth 100000
set_option maxHeartbeats 4000000
namespace Kl
open PySem PySem.Spec PyProof.Rows L2 Gx
def topS (i : Nat) : Stmt := PySem.Challenge.pw_linkbooks_k26_whole_machines_run.main.body.getD i (.Pass ⟨0, 0, 0, 0⟩)
abbrev s_wall : Stmt := topS 0
abbrev s_is_integer : Stmt := topS 13
theorem sc_is_integer : FnScope ["value"] ["value"] (defScope s_is_integer) := ⟨rfl, rfl, rfl, by decide +kernel, rfl, by decide +kernel, by decide +kernel⟩
abbrev s_is_count : Stmt := topS 14
theorem sc_is_count : FnScope ["value"] ["value"] (defScope s_is_count) := ⟨rfl, rfl, rfl, by decide +kernel, rfl, by decide +kernel, by decide +kernel⟩
abbrev s_is_name : Stmt := topS 15
theorem sc_is_name : FnScope ["value"] ["value"] (defScope s_is_name) := ⟨rfl, rfl, rfl, by decide +kernel, rfl, by decide +kernel, by decide +kernel⟩
abbrev s_is_sorted : Stmt := topS 16
theorem sc_is_sorted : FnScope ["value", "most", "name"] ["value", "most"] (defScope s_is_sorted) := ⟨rfl, rfl, rfl, by decide +kernel, rfl, by decide +kernel, by decide +kernel⟩
abbrev s_text_of : Stmt := topS 18
abbrev s_is_making : Stmt := topS 22
theorem sc_is_making : FnScope ["value"] ["value"] (defScope s_is_making) := ⟨rfl, rfl, rfl, by decide +kernel, rfl, by decide +kernel, by decide +kernel⟩
abbrev s_all_names : Stmt := topS 23
theorem sc_all_names : FnScope ["leaf", "makings"] ["leaf", "makings"] (defScope s_all_names) := ⟨rfl, rfl, rfl, by decide +kernel, rfl, by decide +kernel, by decide +kernel⟩
abbrev s_are_kinds : Stmt := topS 24
theorem sc_are_kinds : FnScope ["leaf", "makings", "names", "name", "part"] ["leaf", "makings"] (defScope s_are_kinds) := ⟨rfl, rfl, rfl, by decide +kernel, rfl, by decide +kernel, by decide +kernel⟩
abbrev s_are_digits : Stmt := topS 29
theorem sc_are_digits : FnScope ["value", "digit"] ["value"] (defScope s_are_digits) := ⟨rfl, rfl, rfl, by decide +kernel, rfl, by decide +kernel, by decide +kernel⟩
abbrev s_are_loose_digits : Stmt := topS 30
theorem sc_are_loose_digits : FnScope ["value"] ["value"] (defScope s_are_loose_digits) := ⟨rfl, rfl, rfl, by decide +kernel, rfl, by decide +kernel, by decide +kernel⟩
abbrev s_digit_at : Stmt := topS 31
theorem sc_digit_at : FnScope ["digits", "rank"] ["digits", "rank"] (defScope s_digit_at) := ⟨rfl, rfl, rfl, by decide +kernel, rfl, by decide +kernel, by decide +kernel⟩
abbrev s_merged : Stmt := topS 32
theorem sc_merged : FnScope ["one", "other"] ["one", "other"] (defScope s_merged) := ⟨rfl, rfl, rfl, by decide +kernel, rfl, by decide +kernel, by decide +kernel⟩
abbrev s_trimmed : Stmt := topS 33
theorem sc_trimmed : FnScope ["digits", "many"] ["digits"] (defScope s_trimmed) := ⟨rfl, rfl, rfl, by decide +kernel, rfl, by decide +kernel, by decide +kernel⟩
abbrev s_is_place : Stmt := topS 38
theorem sc_is_place : FnScope ["value"] ["value"] (defScope s_is_place) := ⟨rfl, rfl, rfl, by decide +kernel, rfl, by decide +kernel, by decide +kernel⟩
abbrev s_left : Stmt := topS 39
theorem sc_left : FnScope ["pool", "makings", "rest", "making", "part"] ["pool", "makings"] (defScope s_left) := ⟨rfl, rfl, rfl, by decide +kernel, rfl, by decide +kernel, by decide +kernel⟩
abbrev s_are_pages : Stmt := topS 41
theorem sc_are_pages : FnScope ["value", "page"] ["value"] (defScope s_are_pages) := ⟨rfl, rfl, rfl, by decide +kernel, rfl, by decide +kernel, by decide +kernel⟩
abbrev s_left_by_place : Stmt := topS 42
theorem sc_left_by_place : FnScope ["kinds", "pages", "left", "page"] ["kinds", "pages"] (defScope s_left_by_place) := ⟨rfl, rfl, rfl, by decide +kernel, rfl, by decide +kernel, by decide +kernel⟩
abbrev s_law_dice : Stmt := topS 45
theorem sc_law_dice : FnScope ["_law_script", "_law_spot", "_law_cell", "_law_left"] ["_law_script", "_law_spot"] (defScope s_law_dice) := ⟨rfl, rfl, rfl, by decide +kernel, rfl, by decide +kernel, by decide +kernel⟩
abbrev s_law_roll : Stmt := topS 46
theorem sc_law_roll : FnScope ["_law_dice_here", "_law_total", "_law_found", "_law_one", "_law_two"] ["_law_dice_here", "_law_total"] (defScope s_law_roll) := ⟨rfl, rfl, rfl, by decide +kernel, rfl, by decide +kernel, by decide +kernel⟩
abbrev s_law_pick : Stmt := topS 47
theorem sc_law_pick : FnScope ["_law_dice_here", "_law_items"] ["_law_dice_here", "_law_items"] (defScope s_law_pick) := ⟨rfl, rfl, rfl, by decide +kernel, rfl, by decide +kernel, by decide +kernel⟩
abbrev s_law_digit : Stmt := topS 48
theorem sc_law_digit : FnScope ["_law_text"] ["_law_text"] (defScope s_law_digit) := ⟨rfl, rfl, rfl, by decide +kernel, rfl, by decide +kernel, by decide +kernel⟩
abbrev s_law_plain : Stmt := topS 49
theorem sc_law_plain : FnScope ["_law_lines", "_law_found", "_law_line", "_law_words"] ["_law_lines"] (defScope s_law_plain) := ⟨rfl, rfl, rfl, by decide +kernel, rfl, by decide +kernel, by decide +kernel⟩
abbrev s_law_made_kinds : Stmt := topS 50
theorem sc_law_made_kinds : FnScope ["_law_plain_here"] ["_law_plain_here"] (defScope s_law_made_kinds) := ⟨rfl, rfl, rfl, by decide +kernel, rfl, by decide +kernel, by decide +kernel⟩
abbrev s_law_free_reads : Stmt := topS 51
theorem sc_law_free_reads : FnScope ["_law_digits", "_law_found", "_law_state", "_law_text"] ["_law_digits"] (defScope s_law_free_reads) := ⟨rfl, rfl, rfl, by decide +kernel, rfl, by decide +kernel, by decide +kernel⟩
abbrev s_law_starts : Stmt := topS 52
theorem sc_law_starts : FnScope ["_law_note"] ["_law_note"] (defScope s_law_starts) := ⟨rfl, rfl, rfl, by decide +kernel, rfl, by decide +kernel, by decide +kernel⟩
abbrev s_law_binomial : Stmt := topS 53
theorem sc_law_binomial : FnScope ["_law_lines"] [] (defScope s_law_binomial) := ⟨rfl, rfl, rfl, by decide +kernel, rfl, by decide +kernel, by decide +kernel⟩
abbrev s_law_ternary : Stmt := topS 54
theorem sc_law_ternary : FnScope ["_law_lines", "_law_pools", "_law_pool"] [] (defScope s_law_ternary) := ⟨rfl, rfl, rfl, by decide +kernel, rfl, by decide +kernel, by decide +kernel⟩
abbrev s_law_twofold : Stmt := topS 55
theorem sc_law_twofold : FnScope ["_law_lines"] [] (defScope s_law_twofold) := ⟨rfl, rfl, rfl, by decide +kernel, rfl, by decide +kernel, by decide +kernel⟩
abbrev s_law_guided : Stmt := topS 56
theorem sc_law_guided : FnScope ["_law_lines"] [] (defScope s_law_guided) := ⟨rfl, rfl, rfl, by decide +kernel, rfl, by decide +kernel, by decide +kernel⟩
abbrev s_law_turnabout : Stmt := topS 57
theorem sc_law_turnabout : FnScope ["_law_lines"] [] (defScope s_law_turnabout) := ⟨rfl, rfl, rfl, by decide +kernel, rfl, by decide +kernel, by decide +kernel⟩
abbrev s_law_threesome : Stmt := topS 58
theorem sc_law_threesome : FnScope ["_law_lines"] [] (defScope s_law_threesome) := ⟨rfl, rfl, rfl, by decide +kernel, rfl, by decide +kernel, by decide +kernel⟩
abbrev s_law_sizes : Stmt := topS 59
theorem sc_law_sizes : FnScope ["_law_plain_here", "_law_bound", "_law_found", "_law_rank", "_law_here", "_law_name", "_law_parts", "_law_part"] ["_law_plain_here", "_law_bound"] (defScope s_law_sizes) := ⟨rfl, rfl, rfl, by decide +kernel, rfl, by decide +kernel, by decide +kernel⟩
abbrev s_law_without : Stmt := topS 60
theorem sc_law_without : FnScope ["_law_pool", "_law_parts", "_law_left", "_law_part"] ["_law_pool", "_law_parts"] (defScope s_law_without) := ⟨rfl, rfl, rfl, by decide +kernel, rfl, by decide +kernel, by decide +kernel⟩
abbrev s_law_step : Stmt := topS 61
theorem sc_law_step : FnScope ["_law_plain_here", "_law_note", "_law_pool", "_law_made", "_law_after", "_law_left", "_law_name"] ["_law_plain_here", "_law_note", "_law_pool"] (defScope s_law_step) := ⟨rfl, rfl, rfl, by decide +kernel, rfl, by decide +kernel, by decide +kernel⟩
abbrev s_law_cut : Stmt := topS 62
theorem sc_law_cut : FnScope ["_law_digits", "_law_found"] ["_law_digits"] (defScope s_law_cut) := ⟨rfl, rfl, rfl, by decide +kernel, rfl, by decide +kernel, by decide +kernel⟩
abbrev s_law_run : Stmt := topS 63
theorem sc_law_run : FnScope ["_law_plain_here", "_law_note", "_law_digits", "_law_brought", "_law_found", "_law_ways", "_law_rank", "_law_pool", "_law_digit_here"] ["_law_plain_here", "_law_note", "_law_digits", "_law_brought"] (defScope s_law_run) := ⟨rfl, rfl, rfl, by decide +kernel, rfl, by decide +kernel, by decide +kernel⟩
abbrev s_law_changed : Stmt := topS 64
theorem sc_law_changed : FnScope ["_law_dice_here", "_law_lines", "_law_found", "_law_turn", "_law_line", "_law_words", "_law_at", "_law_way"] ["_law_dice_here", "_law_lines"] (defScope s_law_changed) := ⟨rfl, rfl, rfl, by decide +kernel, rfl, by decide +kernel, by decide +kernel⟩
abbrev s_law_written_book : Stmt := topS 65
theorem sc_law_written_book : FnScope ["_law_way"] ["_law_way"] (defScope s_law_written_book) := ⟨rfl, rfl, rfl, by decide +kernel, rfl, by decide +kernel, by decide +kernel⟩
abbrev s_law_drawn_lines : Stmt := topS 66
theorem sc_law_drawn_lines : FnScope ["_law_dice_here"] ["_law_dice_here"] (defScope s_law_drawn_lines) := ⟨rfl, rfl, rfl, by decide +kernel, rfl, by decide +kernel, by decide +kernel⟩
abbrev s_law_other_book : Stmt := topS 67
theorem sc_law_other_book : FnScope ["_law_way", "_law_lines"] ["_law_way"] (defScope s_law_other_book) := ⟨rfl, rfl, rfl, by decide +kernel, rfl, by decide +kernel, by decide +kernel⟩
abbrev s_law_made_machine : Stmt := topS 68
theorem sc_law_made_machine : FnScope ["_law_plain_here", "_law_pages", "_law_note", "_law_pool", "_law_made", "_law_after"] ["_law_plain_here"] (defScope s_law_made_machine) := ⟨rfl, rfl, rfl, by decide +kernel, rfl, by decide +kernel, by decide +kernel⟩
abbrev s_law_drawn_digits : Stmt := topS 69
theorem sc_law_drawn_digits : FnScope ["_law_dice_here", "_law_plain_here", "_law_sizes_here", "_law_found", "_law_rank", "_law_kinds", "_law_many", "_law_turn"] ["_law_dice_here", "_law_plain_here", "_law_sizes_here"] (defScope s_law_drawn_digits) := ⟨rfl, rfl, rfl, by decide +kernel, rfl, by decide +kernel, by decide +kernel⟩
abbrev s_law_keys_in : Stmt := topS 70
theorem sc_law_keys_in : FnScope ["_law_digits", "_law_sizes_here", "_law_total", "_law_rank", "_law_digit_here", "_law_kind"] ["_law_digits", "_law_sizes_here"] (defScope s_law_keys_in) := ⟨rfl, rfl, rfl, by decide +kernel, rfl, by decide +kernel, by decide +kernel⟩
abbrev s_law_in_parts : Stmt := topS 71
theorem sc_law_in_parts : FnScope ["_law_machine", "_law_note", "_law_digits", "_law_brought", "_law_at", "_law_row", "_law_walked", "_law_found", "_law_pool", "_law_made", "_law_after", "_law_later", "_law_more"] ["_law_machine", "_law_note", "_law_digits", "_law_brought", "_law_at"] (defScope s_law_in_parts) := ⟨rfl, rfl, rfl, by decide +kernel, rfl, by decide +kernel, by decide +kernel⟩
abbrev s_law_trees : Stmt := topS 72
theorem sc_law_trees : FnScope ["_law_digits", "_law_digit_here"] ["_law_digits"] (defScope s_law_trees) := ⟨rfl, rfl, rfl, by decide +kernel, rfl, by decide +kernel, by decide +kernel⟩
abbrev s_law_right : Stmt := topS 73
theorem sc_law_right : FnScope ["_law_dice_here", "_law_plain_here", "_law_machine", "_law_sizes_here", "_law_turn", "_law_digits", "_law_note", "_law_brought", "_law_told", "_law_due", "_law_less", "_law_pool", "_law_made", "_law_after", "_law_name"] ["_law_dice_here", "_law_plain_here"] (defScope s_law_right) := ⟨rfl, rfl, rfl, by decide +kernel, rfl, by decide +kernel, by decide +kernel⟩
abbrev s_law : Stmt := topS 74
theorem sc_law : FnScope ["_law_script", "_law_spot", "_law_dice_here", "_law_lines", "_law_machine", "_law_many", "_law_row", "_law_walked", "_law_told"] ["_law_script"] (defScope s_law) := ⟨rfl, rfl, rfl, by decide +kernel, rfl, by decide +kernel, by decide +kernel⟩
abbrev s_Kinds_init : Stmt := inClass (topS 25) 0
theorem sc_Kinds_init : FnScope ["self", "leaf", "makings", "name"] ["self", "leaf", "makings"] (defScope s_Kinds_init) := ⟨rfl, rfl, rfl, by decide +kernel, rfl, by decide +kernel, by decide +kernel⟩
abbrev s_Kinds_contains : Stmt := inClass (topS 25) 9
theorem sc_Kinds_contains : FnScope ["self", "value"] ["self", "value"] (defScope s_Kinds_contains) := ⟨rfl, rfl, rfl, by decide +kernel, rfl, by decide +kernel, by decide +kernel⟩
abbrev s_Kinds_getitem : Stmt := inClass (topS 25) 10
theorem sc_Kinds_getitem : FnScope ["self", "name"] ["self", "name"] (defScope s_Kinds_getitem) := ⟨rfl, rfl, rfl, by decide +kernel, rfl, by decide +kernel, by decide +kernel⟩
/-- the class Kinds as the top has made it -/
structure Cl_Kinds (K : PySem.W.Frag) (mg : Str → Option Value) (C : Addr) : Prop where
  gC : mg "Kinds" = some (.ref C)
  cl : Cls K C
  n_leaf : NoAttr K C "_leaf"
  n_makings : NoAttr K C "_makings"
  n_names : NoAttr K C "_names"
  made : ∃ f fd, Mk K C f ∧ Fun K "__init__" "Kinds.__init__" s_Kinds_init f fd ∧ Binds K fd ["self", "leaf", "makings"] []
  m_contains : DefM K C "__contains__" "Kinds.__contains__" s_Kinds_contains ["self", "value"]
  m_getitem : DefM K C "__getitem__" "Kinds.__getitem__" s_Kinds_getitem ["self", "name"]
  ne : PySem.W.findIn K (.ref C) "__ne__" = some (some (.builtin "object.__ne__"))
  ob : PySem.W.mroIn K C (.type "object") = some true
  kit : PySem.W.kitOne K (.ref C) (.ref C) = some true
  kitT : PySem.W.kitOne K (.type "tuple") (.ref C) = some false
  kitD : PySem.W.kitOne K (.type "dict") (.ref C) = some false
  ca : PySem.W.findIn K (.ref C) "__class__" = some (some (.builtin "object.__class__"))
  cg : PySem.W.specialIn K (.builtin "object.__class__") "__get__" = some (some (.builtin "getset_descriptor.__get__"))
  ct : PySem.W.takesIn K (.builtin "object.__class__") = some true
abbrev s_Page_init : Stmt := inClass (topS 40) 0
theorem sc_Page_init : FnScope ["self", "note", "pool", "made", "after"] ["self", "note", "pool", "made", "after"] (defScope s_Page_init) := ⟨rfl, rfl, rfl, by decide +kernel, rfl, by decide +kernel, by decide +kernel⟩
abbrev s_Page_made : Stmt := inClass (topS 40) 4
theorem sc_Page_made : FnScope ["self"] ["self"] (defScope s_Page_made) := ⟨rfl, rfl, rfl, by decide +kernel, rfl, by decide +kernel, by decide +kernel⟩
abbrev s_Page_after : Stmt := inClass (topS 40) 5
theorem sc_Page_after : FnScope ["self"] ["self"] (defScope s_Page_after) := ⟨rfl, rfl, rfl, by decide +kernel, rfl, by decide +kernel, by decide +kernel⟩
abbrev s_Page_line : Stmt := inClass (topS 40) 6
abbrev s_Page_place : Stmt := inClass (topS 40) 7
theorem sc_Page_place : FnScope ["self"] ["self"] (defScope s_Page_place) := ⟨rfl, rfl, rfl, by decide +kernel, rfl, by decide +kernel, by decide +kernel⟩
abbrev s_Page_left : Stmt := inClass (topS 40) 8
theorem sc_Page_left : FnScope ["self", "kinds", "rest", "name"] ["self", "kinds"] (defScope s_Page_left) := ⟨rfl, rfl, rfl, by decide +kernel, rfl, by decide +kernel, by decide +kernel⟩
/-- the class Page as the top has made it -/
structure Cl_Page (K : PySem.W.Frag) (mg : Str → Option Value) (C : Addr) : Prop where
  gC : mg "Page" = some (.ref C)
  cl : Cls K C
  n_note : NoAttr K C "_note"
  n_pool : NoAttr K C "_pool"
  n_made : NoAttr K C "_made"
  n_after : NoAttr K C "_after"
  made : ∃ f fd, Mk K C f ∧ Fun K "__init__" "Page.__init__" s_Page_init f fd ∧ Binds K fd ["self", "note", "pool", "made", "after"] []
  p_made : PropD K C "made" "Page.made" s_Page_made
  p_after : PropD K C "after" "Page.after" s_Page_after
  p_line : PropD K C "line" "Page.line" s_Page_line
  p_place : PropD K C "place" "Page.place" s_Page_place
  m_left : DefM K C "left" "Page.left" s_Page_left ["self", "kinds"]
  ne : PySem.W.findIn K (.ref C) "__ne__" = some (some (.builtin "object.__ne__"))
  ob : PySem.W.mroIn K C (.type "object") = some true
  kit : PySem.W.kitOne K (.ref C) (.ref C) = some true
  kitT : PySem.W.kitOne K (.type "tuple") (.ref C) = some false
  kitD : PySem.W.kitOne K (.type "dict") (.ref C) = some false
  ca : PySem.W.findIn K (.ref C) "__class__" = some (some (.builtin "object.__class__"))
  cg : PySem.W.specialIn K (.builtin "object.__class__") "__get__" = some (some (.builtin "getset_descriptor.__get__"))
  ct : PySem.W.takesIn K (.builtin "object.__class__") = some true
abbrev s_Machine_init : Stmt := inClass (topS 43) 0
theorem sc_Machine_init : FnScope ["self", "kinds", "pages", "page"] ["self", "kinds", "pages"] (defScope s_Machine_init) := ⟨rfl, rfl, rfl, by decide +kernel, rfl, by decide +kernel, by decide +kernel⟩
abbrev s_Machine_kinds : Stmt := inClass (topS 43) 1
abbrev s_Machine_is_pool : Stmt := inClass (topS 43) 4
theorem sc_Machine_is_pool : FnScope ["self", "value", "name"] ["self", "value"] (defScope s_Machine_is_pool) := ⟨rfl, rfl, rfl, by decide +kernel, rfl, by decide +kernel, by decide +kernel⟩
abbrev s_Machine_at_rank : Stmt := inClass (topS 43) 5
theorem sc_Machine_at_rank : FnScope ["self", "note", "pool", "page"] ["self", "note", "pool"] (defScope s_Machine_at_rank) := ⟨rfl, rfl, rfl, by decide +kernel, rfl, by decide +kernel, by decide +kernel⟩
abbrev s_Machine_step : Stmt := inClass (topS 43) 6
theorem sc_Machine_step : FnScope ["self", "note", "pool"] ["self", "note", "pool"] (defScope s_Machine_step) := ⟨rfl, rfl, rfl, by decide +kernel, rfl, by decide +kernel, by decide +kernel⟩
abbrev s_Machine_run : Stmt := inClass (topS 43) 7
theorem sc_Machine_run : FnScope ["self", "note", "digits", "carried", "new_digits", "gone", "pool", "digit"] ["self", "note", "digits", "carried"] (defScope s_Machine_run) := ⟨rfl, rfl, rfl, by decide +kernel, rfl, by decide +kernel, by decide +kernel⟩
/-- the class Machine as the top has made it -/
structure Cl_Machine (K : PySem.W.Frag) (mg : Str → Option Value) (C : Addr) : Prop where
  gC : mg "Machine" = some (.ref C)
  cl : Cls K C
  n_kinds : NoAttr K C "_kinds"
  n_left : NoAttr K C "_left"
  n_pages : NoAttr K C "_pages"
  made : ∃ f fd, Mk K C f ∧ Fun K "__init__" "Machine.__init__" s_Machine_init f fd ∧ Binds K fd ["self", "kinds", "pages"] []
  p_kinds : PropD K C "kinds" "Machine.kinds" s_Machine_kinds
  m_is_pool : DefM K C "_is_pool" "Machine._is_pool" s_Machine_is_pool ["self", "value"]
  m_at_rank : DefM K C "_at_rank" "Machine._at_rank" s_Machine_at_rank ["self", "note", "pool"]
  m_step : DefM K C "step" "Machine.step" s_Machine_step ["self", "note", "pool"]
  m_run : DefMKK K C "run" "Machine.run" s_Machine_run ["self", "note", "digits", "carried"] 3 "carried"
  ne : PySem.W.findIn K (.ref C) "__ne__" = some (some (.builtin "object.__ne__"))
  ob : PySem.W.mroIn K C (.type "object") = some true
  kit : PySem.W.kitOne K (.ref C) (.ref C) = some true
  kitT : PySem.W.kitOne K (.type "tuple") (.ref C) = some false
  kitD : PySem.W.kitOne K (.type "dict") (.ref C) = some false
  ca : PySem.W.findIn K (.ref C) "__class__" = some (some (.builtin "object.__class__"))
  cg : PySem.W.specialIn K (.builtin "object.__class__") "__get__" = some (some (.builtin "getset_descriptor.__get__"))
  ct : PySem.W.takesIn K (.builtin "object.__class__") = some true
/-- what the walk asks of the top -/
structure Top (K : PySem.W.Frag) (mg : Str → Option Value) : Prop where
  b_IndexError : mg "IndexError" = none
  b_KeyError : mg "KeyError" = none
  b_OverflowError : mg "OverflowError" = none
  b_TypeError : mg "TypeError" = none
  b_ValueError : mg "ValueError" = none
  b_abs : mg "abs" = none
  b_all : mg "all" = none
  b_bool : mg "bool" = none
  b_classmethod : mg "classmethod" = none
  b_dict : mg "dict" = none
  b_enumerate : mg "enumerate" = none
  b_int : mg "int" = none
  b_isinstance : mg "isinstance" = none
  b_len : mg "len" = none
  b_list : mg "list" = none
  b_max : mg "max" = none
  b_min : mg "min" = none
  b_property : mg "property" = none
  b_range : mg "range" = none
  b_repr : mg "repr" = none
  b_set : mg "set" = none
  b_sorted : mg "sorted" = none
  b_str : mg "str" = none
  b_sum : mg "sum" = none
  b_tuple : mg "tuple" = none
  g_MAX_LETTERS : ∃ t, mg "MAX_LETTERS" = some (.int 8 t)
  g__TOO_LONG : ∃ t, mg "_TOO_LONG" = some (.int 1000000000000000000000000000000000000000000000000000000000000 t)
  g_MAX_KINDS : ∃ t, mg "MAX_KINDS" = some (.int 6 t)
  g_MAX_PARTS : ∃ t, mg "MAX_PARTS" = some (.int 3 t)
  g_LOOSE_DIGIT : ∃ t, mg "LOOSE_DIGIT" = some (.int 20 t)
  g__LOOSE_RANKS : ∃ t, mg "_LOOSE_RANKS" = some (.int 402 t)
  g_MAX_POOL : ∃ t, mg "MAX_POOL" = some (.int 8 t)
  g_MAX_MADE : ∃ t, mg "MAX_MADE" = some (.int 2 t)
  g__MAX_PAGES : ∃ t, mg "_MAX_PAGES" = some (.int 80 t)
  d_wall : Def K mg "_wall" "_wall" s_wall ["k"]
  d_is_integer : Def K mg "is_integer" "is_integer" s_is_integer ["value"]
  d_is_count : Def K mg "is_count" "is_count" s_is_count ["value"]
  d_is_name : Def K mg "is_name" "is_name" s_is_name ["value"]
  d_is_sorted : DefK K mg "is_sorted" "is_sorted" s_is_sorted ["value", "most"] 1 ["most"]
  d_text_of : Def K mg "text_of" "text_of" s_text_of ["names"]
  d_is_making : Def K mg "_is_making" "_is_making" s_is_making ["value"]
  d_all_names : Def K mg "_all_names" "_all_names" s_all_names ["leaf", "makings"]
  d_are_kinds : Def K mg "_are_kinds" "_are_kinds" s_are_kinds ["leaf", "makings"]
  d_are_digits : Def K mg "are_digits" "are_digits" s_are_digits ["value"]
  d_are_loose_digits : Def K mg "are_loose_digits" "are_loose_digits" s_are_loose_digits ["value"]
  d_digit_at : Def K mg "digit_at" "digit_at" s_digit_at ["digits", "rank"]
  d_merged : Def K mg "merged" "merged" s_merged ["one", "other"]
  d_trimmed : Def K mg "trimmed" "trimmed" s_trimmed ["digits"]
  d_is_place : Def K mg "_is_place" "_is_place" s_is_place ["value"]
  d_left : Def K mg "_left" "_left" s_left ["pool", "makings"]
  d_are_pages : Def K mg "_are_pages" "_are_pages" s_are_pages ["value"]
  d_left_by_place : Def K mg "_left_by_place" "_left_by_place" s_left_by_place ["kinds", "pages"]
  d_law_dice : Def K mg "_law_dice" "_law_dice" s_law_dice ["_law_script", "_law_spot"]
  d_law_roll : Def K mg "_law_roll" "_law_roll" s_law_roll ["_law_dice_here", "_law_total"]
  d_law_pick : Def K mg "_law_pick" "_law_pick" s_law_pick ["_law_dice_here", "_law_items"]
  d_law_digit : Def K mg "_law_digit" "_law_digit" s_law_digit ["_law_text"]
  d_law_plain : Def K mg "_law_plain" "_law_plain" s_law_plain ["_law_lines"]
  d_law_made_kinds : Def K mg "_law_made_kinds" "_law_made_kinds" s_law_made_kinds ["_law_plain_here"]
  d_law_free_reads : Def K mg "_law_free_reads" "_law_free_reads" s_law_free_reads ["_law_digits"]
  d_law_starts : Def K mg "_law_starts" "_law_starts" s_law_starts ["_law_note"]
  d_law_binomial : Def K mg "_law_binomial" "_law_binomial" s_law_binomial []
  d_law_ternary : Def K mg "_law_ternary" "_law_ternary" s_law_ternary []
  d_law_twofold : Def K mg "_law_twofold" "_law_twofold" s_law_twofold []
  d_law_guided : Def K mg "_law_guided" "_law_guided" s_law_guided []
  d_law_turnabout : Def K mg "_law_turnabout" "_law_turnabout" s_law_turnabout []
  d_law_threesome : Def K mg "_law_threesome" "_law_threesome" s_law_threesome []
  d_law_sizes : Def K mg "_law_sizes" "_law_sizes" s_law_sizes ["_law_plain_here", "_law_bound"]
  d_law_without : Def K mg "_law_without" "_law_without" s_law_without ["_law_pool", "_law_parts"]
  d_law_step : Def K mg "_law_step" "_law_step" s_law_step ["_law_plain_here", "_law_note", "_law_pool"]
  d_law_cut : Def K mg "_law_cut" "_law_cut" s_law_cut ["_law_digits"]
  d_law_run : Def K mg "_law_run" "_law_run" s_law_run ["_law_plain_here", "_law_note", "_law_digits", "_law_brought"]
  d_law_changed : Def K mg "_law_changed" "_law_changed" s_law_changed ["_law_dice_here", "_law_lines"]
  d_law_written_book : Def K mg "_law_written_book" "_law_written_book" s_law_written_book ["_law_way"]
  d_law_drawn_lines : Def K mg "_law_drawn_lines" "_law_drawn_lines" s_law_drawn_lines ["_law_dice_here"]
  d_law_other_book : Def K mg "_law_other_book" "_law_other_book" s_law_other_book ["_law_way"]
  d_law_made_machine : Def K mg "_law_made_machine" "_law_made_machine" s_law_made_machine ["_law_plain_here"]
  d_law_drawn_digits : Def K mg "_law_drawn_digits" "_law_drawn_digits" s_law_drawn_digits ["_law_dice_here", "_law_plain_here", "_law_sizes_here"]
  d_law_keys_in : Def K mg "_law_keys_in" "_law_keys_in" s_law_keys_in ["_law_digits", "_law_sizes_here"]
  d_law_in_parts : Def K mg "_law_in_parts" "_law_in_parts" s_law_in_parts ["_law_machine", "_law_note", "_law_digits", "_law_brought", "_law_at"]
  d_law_trees : Def K mg "_law_trees" "_law_trees" s_law_trees ["_law_digits"]
  d_law_right : Def K mg "_law_right" "_law_right" s_law_right ["_law_dice_here", "_law_plain_here"]
  c_Kinds : ∃ C, Cl_Kinds K mg C
  c_Page : ∃ C, Cl_Page K mg C
  c_Machine : ∃ C, Cl_Machine K mg C
  p_InvalidOperation : ∃ C, XPln K mg "InvalidOperation" "ValueError.__new__" "ValueError.__init__" [.type "ValueError", .type "Exception", .type "BaseException", .type "object"] C ∧ XCls K C ∧ PySem.W.exmOne K (.ref C) (.ref C) = some true
end Kl
set_option maxRecDepth 100000
set_option maxHeartbeats 4000000
namespace Kl
open PySem PySem.Spec PyProof.Rows L2 Gx Mx
section
variable {P : Program} {w : World} {K : PySem.W.Frag} {mg : Str → Option Value} {base : Heap}
theorem tyx_same {H H' : Hp} (sm : Same H H') {v : V} {t : Value} (h : TyX K H v t) : TyX K H' v t := by
  cases h with
  | base b =>
    cases b with
    | non => exact .base .non
    | bl x => exact .base (.bl x)
    | int i => exact .base (.int i)
    | str x => exact .base (.str x)
    | flt x => exact .base (.flt x)
    | lst e => exact .base (.lst (sm _ _ e))
    | frz e => exact .base (.frz (sm _ _ e))
    | tup e => exact .base (.tup (sm _ _ e))
    | dK e => exact .base (.dK (sm _ _ e))
    | dT e => exact .base (.dT (sm _ _ e))
    | ins e cl ha hn htk hm => exact .base (.ins (sm _ _ e) cl ha hn htk hm)
  | byt b => exact .byt b
  | set e => exact .set (sm _ _ e)
  | kList e c => exact .kList e c
  | kTuple e c => exact .kTuple e c
  | kDict e c => exact .kDict e c
  | fTuple e => exact .fTuple (sm _ _ e)
  | fDict e => exact .fDict (sm _ _ e)
/-- the value is no instance of this built-in class -/
def Not (K : PySem.W.Frag) (H : Hp) (v : V) (T : String) : Prop := ∃ t, TyX K H v t ∧ PySem.W.kitOne K t (.type T) = some false
theorem Not.same {H H' : Hp} (sm : Same H H') {v : V} {T : String} (h : Not K H v T) : Not K H' v T := by
  obtain ⟨t, a, b⟩ := h
  exact ⟨t, tyx_same sm a, b⟩
/-- text, or not -/
def NameArg (K : PySem.W.Frag) (H : Hp) (v : V) : Prop := (∃ z : Str, v = .str z ∧ z.length ≤ sizeLine) ∨ ((∀ z, v ≠ .str z) ∧ Not K H v "str")
theorem NameArg.same {H H' : Hp} (sm : Same H H') {v : V} (h : NameArg K H v) : NameArg K H' v := by
  rcases h with h | ⟨a, b⟩
  · exact .inl h
  · exact .inr ⟨a, b.same sm⟩
/-- int, truth, or neither -/
def IntArg (K : PySem.W.Frag) (H : Hp) (v : V) : Prop := (∃ i, v = .int i) ∨ (∃ b, v = .bl b) ∨ ((∀ i, v ≠ .int i) ∧ Not K H v "int")
theorem IntArg.same {H H' : Hp} (sm : Same H H') {v : V} (h : IntArg K H v) : IntArg K H' v := by
  rcases h with h | h | ⟨a, b⟩
  · exact .inl h
  · exact .inr (.inl h)
  · exact .inr (.inr ⟨a, b.same sm⟩)
def TEN60 : Int := 1000000000000000000000000000000000000000000000000000000000000
def intV : V → Bool
  | .int i => decide (-TEN60 < i) && decide (i < TEN60)
  | _ => false
def cntV : V → Bool
  | .int i => (decide (-TEN60 < i) && decide (i < TEN60)) && decide (0 ≤ i)
  | _ => false
def spInt (K : PySem.W.Frag) : Sp := fun vs H Q _ => ∃ v : V, vs = [v] ∧ IntArg K H v ∧ Q (.bl (intV v)) H
theorem ok_int {f : Addr} {fd : FuncData} (F : Fun K "is_integer" "is_integer" s_is_integer f fd) (T : Top K mg) : FnOk P w K mg base CX0 1 f fd ["value"] (spInt K) := by
  obtain ⟨tm, gm⟩ := T.g__TOO_LONG
  refine F.ok sc_is_integer (fun vs H Q E h => ?_) (fun cdv A outer s H vs Q E hr h => ?_)
  · obtain ⟨v, rfl, _⟩ := h
    rfl
  · obtain ⟨v, rfl, hv, q⟩ := h
    refine ⟨_, pss_cons (ps_if (PW.pt (pw_or (pt_not (pt_val (pe_callB call_isi (by rfl) T.b_isinstance (by decide +kernel) (pa_cons (pv 0) (pa_cons (pe_bltn (v := .ty "int") (by rfl) T.b_int (by decide +kernel) rfl) pa_nil)))))
          (pw_or1 (pt_val (pe_callB call_isi (by rfl) T.b_isinstance (by decide +kernel) (pa_cons (pv 0) (pa_cons (pe_bltn (v := .ty "bool") (by rfl) T.b_bool (by decide +kernel) rfl) pa_nil)))))))
        (pss_one (ps_ret pe_bl)) pss_nil)
      (pss_one (ps_ret (pe_chain op_lt op_lt (pe_un un_neg (pe_glob (v := .int TEN60) (by rfl) gm ⟨_, rfl⟩)) (pv 0) (pe_glob (v := .int TEN60) (by rfl) gm ⟨_, rfl⟩)))), ?_⟩
    rcases hv with ⟨i, rfl⟩ | ⟨b, rfl⟩ | ⟨hn, t, ht, hk⟩
    · refine ⟨_, rfl, _, .ty "int", .type "int", .type "int", true, rfl, .ty _, .base (.int i), kit_ty (by decide +kernel), true, rfl, ?_⟩
      refine ⟨_, rfl, _, .ty "bool", .type "int", .type "bool", false, rfl, .ty _, .base (.int i), kit_ty (by decide +kernel), false, rfl, ?_⟩
      refine ⟨_, rfl, _, rfl, _, _, rfl, rfl, _, rfl, ?_⟩
      have q' : Q (.bl (decide (-TEN60 < i) && decide (i < TEN60))) H := q
      cases e : decide (-TEN60 < i) with
      | false =>
        rw [e] at q'
        exact q'
      | true =>
        rw [e] at q'
        exact ⟨_, _, rfl, rfl, q'⟩
    · refine ⟨_, rfl, _, .ty "int", .type "bool", .type "int", true, rfl, .ty _, .base (.bl b), kit_ty (by decide +kernel), true, rfl, ?_⟩
      exact ⟨_, rfl, _, .ty "bool", .type "bool", .type "bool", true, rfl, .ty _, .base (.bl b), kit_ty (by decide +kernel), true, rfl, q⟩
    · refine ⟨_, rfl, _, .ty "int", t, .type "int", false, rfl, .ty _, ht, hk, false, rfl, ?_⟩
      have e : intV v = false := by
        cases v with
        | int i => exact absurd rfl (hn i)
        | _ => rfl
      rw [e] at q
      exact q
def spCnt (K : PySem.W.Frag) : Sp := fun vs H Q _ => ∃ v : V, vs = [v] ∧ IntArg K H v ∧ Q (.bl (cntV v)) H
theorem ok_cnt {f : Addr} {fd : FuncData} (F : Fun K "is_count" "is_count" s_is_count f fd) (T : Top K mg) : FnOk P w K mg base CX0 2 f fd ["value"] (spCnt K) := by
  have ci : Cal P w K mg base 1 "is_integer" ["value"] (spInt K) := T.d_is_integer.cal fun f fd F => ok_int F T
  refine F.ok sc_is_count (fun vs H Q E h => ?_) (fun cdv A outer s H vs Q E hr h => ?_)
  · obtain ⟨v, rfl, _⟩ := h
    rfl
  · obtain ⟨v, rfl, hv, q⟩ := h
    refine ⟨_, pss_one (ps_ret (pe_and (pe_cal ci hr (by rfl) (pa_cons (pv 0) pa_nil)) (pe_one (pe_cmpR op_ge (pv 0) pe_int (nomark _))))), ?_⟩
    refine ⟨_, rfl, v, rfl, hv, _, rfl, ?_⟩
    cases v with
    | int i =>
      have q' : Q (.bl (intV (.int i) && decide (0 ≤ i))) H := q
      cases e : intV (.int i) with
      | false =>
        rw [e] at q'
        exact q'
      | true =>
        rw [e] at q'
        exact ⟨_, rfl, _, _, rfl, rfl, q'⟩
    | _ => exact q
def nameV : V → Bool
  | .str z => nameB z
  | _ => false
def spName (K : PySem.W.Frag) : Sp := fun vs H Q _ => ∃ v : V, vs = [v] ∧ NameArg K H v ∧ Q (.bl (nameV v)) H
theorem nameV_no {v : V} (h : ∀ z, v ≠ .str z) : nameV v = false := by
  cases v with
  | str z => exact absurd rfl (h z)
  | _ => rfl
theorem ok_name {f : Addr} {fd : FuncData} (F : Fun K "is_name" "is_name" s_is_name f fd) (T : Top K mg) : FnOk P w K mg base CX0 1 f fd ["value"] (spName K) := by
  obtain ⟨tm, gm⟩ := T.g_MAX_LETTERS
  refine F.ok sc_is_name (fun vs H Q E h => ?_) (fun cdv A outer s H vs Q E hr h => ?_)
  · obtain ⟨v, rfl, _⟩ := h
    rfl
  · obtain ⟨v, rfl, hv, q⟩ := h
    refine ⟨_, pss_cons (ps_if (PW.pt (pw_or (pt_not (pt_val (pe_callB call_isi (by rfl) T.b_isinstance (by decide +kernel) (pa_cons (pv 0) (pa_cons (pe_bltn (v := .ty "str") (by rfl) T.b_str (by decide +kernel) rfl) pa_nil)))))
          (pw_or1 (pt_not (pt_chain op_le op_le pe_int (pe_callB call_len_str (by rfl) T.b_len PySem.boot_len (pa_cons (pv 0) pa_nil)) (pe_glob (v := .int 8) (by rfl) gm ⟨_, rfl⟩))))))
        (pss_one (ps_ret pe_bl)) pss_nil)
      (pss_one (ps_ret (pe_and (pe_m0 PySem.F.slot_str_isascii PySem.F.type_str_isascii mt_isascii (pv 0))
        (pe_and (pe_m0 PySem.F.slot_str_isalpha PySem.F.type_str_isalpha mt_isalpha (pv 0)) (pe_one (pe_m0 PySem.F.slot_str_islower PySem.F.type_str_islower mt_islower (pv 0))))))), ?_⟩
    rcases hv with ⟨z, rfl, hz⟩ | ⟨hn, t, ht, hk⟩
    · have q' : Q (.bl (nameB z)) H := q
      refine ⟨_, rfl, _, .ty "str", .type "str", .type "str", true, rfl, .ty _, .base (.str z), kit_ty (by decide +kernel), true, rfl, ?_⟩
      refine ⟨_, rfl, _, rfl, hz, _, _, rfl, rfl, _, rfl, ite2 (fun e1 => ?_) (fun e1 => ?_)⟩
      · have h1 : 1 ≤ z.cps.size := by
          have e2 : (1 : Int) ≤ (z.length : Int) := of_decide_eq_true e1
          have e3 : z.length = z.cps.size := rfl
          omega
        refine ⟨_, _, rfl, rfl, _, rfl, ?_⟩
        have e3 : decide ((z.length : Int) ≤ 8) = decide (z.cps.size ≤ 8) := decide_eq_decide.mpr (by
          have e3 : z.length = z.cps.size := rfl
          omega)
        by_cases h8 : z.cps.size ≤ 8
        · have e4 : decide ((z.length : Int) ≤ 8) = true := e3.trans (decide_eq_true h8)
          rw [e4]
          have e5 : nameB z = (Txt.isascii z && (Txt.isalpha z && Txt.islower z)) := by
            rw [name_by z h1]
            unfold nameB
            rw [decide_eq_true h1, decide_eq_true h8, Bool.true_and, Bool.true_and]
          rw [e5] at q'
          refine ⟨_, rfl, ⟨_, rfl⟩, z, rfl, rfl, trivial, _, rfl, ?_⟩
          cases a1 : Txt.isascii z with
          | false =>
            rw [a1] at q'
            exact q'
          | true =>
            rw [a1] at q'
            refine ⟨_, rfl, ⟨_, rfl⟩, z, rfl, rfl, trivial, _, rfl, ?_⟩
            cases a2 : Txt.isalpha z with
            | false =>
              rw [a2] at q'
              exact q'
            | true =>
              rw [a2] at q'
              exact ⟨_, rfl, ⟨_, rfl⟩, z, rfl, rfl, trivial, q'⟩
        · have e4 : decide ((z.length : Int) ≤ 8) = false := e3.trans (decide_eq_false h8)
          rw [e4]
          show Q (.bl false) H
          have e5 : nameB z = false := by
            unfold nameB
            rw [decide_eq_false h8, Bool.and_false, Bool.false_and]
          rw [← e5]
          exact q'
      · have h1 : ¬ 1 ≤ z.cps.size := fun h => e1 (decide_eq_true (by
          have e3 : z.length = z.cps.size := rfl
          omega))
        refine ⟨_, rfl, ?_⟩
        show Q (.bl false) H
        have e5 : nameB z = false := by
          unfold nameB
          rw [decide_eq_false h1, Bool.false_and, Bool.false_and]
        rw [← e5]
        exact q'
    · refine ⟨_, rfl, _, .ty "str", t, .type "str", false, rfl, .ty _, ht, hk, false, rfl, ?_⟩
      rw [nameV_no hn] at q
      exact q
end
end Kl
set_option maxRecDepth 100000
set_option maxHeartbeats 4000000
namespace Kl
open PySem PySem.Spec PyProof.Rows L2 Gx Mx
abbrev Mak := List (Str × List Str)
/-- the names that are drawn -/
def POOL : List Str := ["a", "b", "ab", "c", "leaf", "zzzzzzzz", "d", "e", "f", "aa", "page", "to"]
theorem pool_names : POOL.all nameB = true := by decide +kernel
theorem pool_short : POOL.all (fun z => decide (z.length ≤ 8)) = true := by decide +kernel
theorem pool_name {z : Str} (h : z ∈ POOL) : nameB z = true := List.all_eq_true.mp pool_names z h
theorem pool_len {z : Str} (h : z ∈ POOL) : z.length ≤ 8 := of_decide_eq_true (List.all_eq_true.mp pool_short z h)
def keysOf (M : Mak) : List Str := M.map (·.1)
/-- these are kinds of drawn names -/
structure Vld (leaf : Str) (M : Mak) : Prop where
  lf : leaf ∈ POOL
  keys : ∀ z ∈ keysOf M, z ∈ POOL
  nd : (keysOf M).Nodup
  parts : ∀ m ∈ M, sortedS m.2 = true ∧ 2 ≤ m.2.length ∧ m.2.length ≤ 3 ∧ ∀ p ∈ m.2, p = leaf ∨ p ∈ keysOf M
  few : ∀ ns : List Str, ns.Nodup → (∀ z ∈ ns, z = leaf ∨ z ∈ keysOf M) → ns.length ≤ 6
theorem Vld.part {leaf : Str} {M : Mak} (v : Vld leaf M) {m : Str × List Str} (hm : m ∈ M) {p : Str} (hp : p ∈ m.2) : p ∈ POOL := by
  rcases (v.parts m hm).2.2.2 p hp with rfl | h
  · exact v.lf
  · exact v.keys p h
theorem Vld.len {leaf : Str} {M : Mak} (v : Vld leaf M) : M.length ≤ 6 := by
  have h := v.few (keysOf M) v.nd fun z hz => .inr hz
  unfold keysOf at h
  rw [List.length_map] at h
  exact h
/-- the ascending names of kinds -/
structure IsNames (leaf : Str) (ks ns : List Str) : Prop where
  srt : sortedS ns = true
  nd : ns.Nodup
  mem : ∀ z, z ∈ ns ↔ z = leaf ∨ z ∈ ks
theorem sorted_same {l m : List Str} (hl : sortedS l = true) (hm : sortedS m = true) (dl : l.Nodup) (dm : m.Nodup) (e : ∀ z, z ∈ l ↔ z ∈ m) : l = m :=
  sortedS_unique ((List.perm_ext_iff_of_nodup dl dm).mpr e) hl hm
theorem sortedS_sub {l m : List Str} (h : sortedS m = true) (s : l.Sublist m) : sortedS l = true := (sortedS_iff l).mpr (((sortedS_iff m).mp h).sublist s)
def lookM (M : Mak) (z : Str) : Option (List Str) := (M.find? fun m => decide (m.1 = z)).map (·.2)
theorem lookM_cons (m : Str × List Str) (M : Mak) (z : Str) : lookM (m :: M) z = if m.1 = z then some m.2 else lookM M z := by
  unfold lookM
  rw [List.find?_cons]
  by_cases h : m.1 = z
  · rw [if_pos h, decide_eq_true h]
    rfl
  · rw [if_neg h, decide_eq_false h]
theorem lookM_mem {M : Mak} (nd : (keysOf M).Nodup) {m : Str × List Str} (h : m ∈ M) : lookM M m.1 = some m.2 := by
  induction M with
  | nil => cases h
  | cons x M ih =>
    have nd' : (x.1 :: keysOf M).Nodup := nd
    rw [List.nodup_cons] at nd'
    rw [lookM_cons]
    rcases List.mem_cons.mp h with rfl | h
    · rw [if_pos rfl]
    · rw [if_neg fun e => nd'.1 (by rw [e]; exact List.mem_map.mpr ⟨m, h, rfl⟩)]
      exact ih nd'.2 h
theorem lookM_some {M : Mak} {z : Str} {ps : List Str} (h : lookM M z = some ps) : (z, ps) ∈ M := by
  induction M with
  | nil => cases h
  | cons x M ih =>
    rw [lookM_cons] at h
    by_cases e : x.1 = z
    · rw [if_pos e] at h
      cases h
      rw [← e]
      exact List.mem_cons_self
    · rw [if_neg e] at h
      exact List.mem_cons_of_mem _ (ih h)
theorem lookM_none {M : Mak} {z : Str} : lookM M z = none ↔ z ∉ keysOf M := by
  induction M with
  | nil => exact ⟨(fun _ h => nomatch h), fun _ => rfl⟩
  | cons x M ih =>
    rw [lookM_cons]
    show _ ↔ z ∉ x.1 :: keysOf M
    rw [List.mem_cons, not_or]
    by_cases e : x.1 = z
    · rw [if_pos e]
      exact ⟨(fun h => nomatch h), fun h => absurd e.symm h.1⟩
    · rw [if_neg e, ih]
      exact ⟨fun h => ⟨fun q => e q.symm, h⟩, fun h => h.2⟩
theorem lookM_in {M : Mak} {z : Str} (h : z ∈ keysOf M) : ∃ ps, lookM M z = some ps := by
  cases e : lookM M z with
  | none => exact absurd h (lookM_none.mp e)
  | some ps => exact ⟨ps, rfl⟩
/-- M' is M, ascending by its keys -/
structure OrdOf (M M' : Mak) : Prop where
  srt : sortedS (keysOf M') = true
  nd : (keysOf M').Nodup
  look : ∀ z, lookM M' z = lookM M z
theorem OrdOf.keys {M M' : Mak} (h : OrdOf M M') (z : Str) : z ∈ keysOf M' ↔ z ∈ keysOf M := by
  have e := h.look z
  constructor
  · intro q
    obtain ⟨ps, hp⟩ := lookM_in q
    rw [hp] at e
    cases c : decide (z ∈ keysOf M) with
    | true => exact of_decide_eq_true c
    | false =>
      rw [lookM_none.mpr (of_decide_eq_false c)] at e
      cases e
  · intro q
    obtain ⟨ps, hp⟩ := lookM_in q
    rw [hp] at e
    cases c : decide (z ∈ keysOf M') with
    | true => exact of_decide_eq_true c
    | false =>
      rw [lookM_none.mpr (of_decide_eq_false c)] at e
      cases e
theorem OrdOf.mk' {M : Mak} {ys : List Str} (hs : sortedS ys = true) (hp : ys.Perm (keysOf M)) (nd : (keysOf M).Nodup) : OrdOf M (ys.map fun z => (z, (lookM M z).getD [])) := by
  have ek : keysOf (ys.map fun z => (z, (lookM M z).getD [])) = ys := by
    unfold keysOf
    rw [List.map_map]
    exact List.map_id ys
  have dy : ys.Nodup := hp.nodup_iff.mpr nd
  refine ⟨by rw [ek]; exact hs, by rw [ek]; exact dy, fun z => ?_⟩
  by_cases h : z ∈ ys
  · have h1 := lookM_mem (M := ys.map fun z => (z, (lookM M z).getD [])) (by rw [ek]; exact dy) (List.mem_map.mpr ⟨z, h, rfl⟩)
    obtain ⟨ps, q⟩ := lookM_in (hp.mem_iff.mp h)
    rw [h1, q]
    rfl
  · rw [lookM_none.mpr (by rw [ek]; exact h), lookM_none.mpr fun q => h (hp.mem_iff.mpr q)]
theorem OrdOf.vld {leaf : Str} {M M' : Mak} (h : OrdOf M M') (v : Vld leaf M) : Vld leaf M' := by
  refine ⟨v.lf, fun z hz => v.keys z ((h.keys z).mp hz), h.nd, fun m hm => ?_, fun ns hn hs => v.few ns hn fun z hz => (hs z hz).imp id (h.keys z).mp⟩
  have e := h.look m.1
  rw [lookM_mem h.nd hm] at e
  obtain ⟨h1, h2, h3, h4⟩ := v.parts (m.1, m.2) (lookM_some e.symm)
  exact ⟨h1, h2, h3, fun p hp => (h4 p hp).imp id (h.keys p).mpr⟩
/-- a tuple in the heap whose object has no dict of its own -/
def TupZ (H : Hp) (a : Addr) (xs : List V) : Prop := ∃ ob : Obj, ob.dict = none ∧ H a = some (.frz ob (.tup xs))
theorem TupZ.sq {K : PySem.W.Frag} {H : Hp} {a : Addr} {xs : List V} (h : TupZ H a xs) : SqT K H a xs := by
  obtain ⟨ob, _, e⟩ := h
  exact .inl (.inr ⟨ob, e⟩)
theorem TupZ.ty {K : PySem.W.Frag} {H : Hp} {a : Addr} {xs : List V} (h : TupZ H a xs) : TyX K H (.ref a) (.type "tuple") := by
  obtain ⟨ob, _, e⟩ := h
  exact .fTuple e
theorem TupZ.at {H H' : Hp} {a : Addr} {xs : List V} (h : TupZ H a xs) (s : ∀ o, H a = some o → H' a = some o) : TupZ H' a xs := by
  obtain ⟨ob, d, e⟩ := h
  exact ⟨ob, d, s _ e⟩
theorem TupZ.mono {H H' : Hp} {a : Addr} {xs : List V} (h : TupZ H a xs) (s : Same H H') : TupZ H' a xs := h.at fun o e => s _ _ e
theorem TupZ.ne {H : Hp} {a b : Addr} {xs : List V} (h : TupZ H a xs) {o : HO} (e : H b = some o) (n : ∀ ob, o ≠ .frz ob (.tup xs)) : a ≠ b := fun z => by
  obtain ⟨ob, _, q⟩ := h
  rw [z, e] at q
  exact n ob (Option.some.inj q)
def MakAt (H : Hp) (kvs : List (Key × V)) (M : Mak) : Prop := Paired (fun (kv : Key × V) (m : Str × List Str) => kv.1 = Sum.inr m.1 ∧ ∃ a, kv.2 = .ref a ∧ TupZ H a (m.2.map V.str)) kvs M
theorem MakAt.same {H H' : Hp} {kvs : List (Key × V)} {M : Mak} (h : MakAt H kvs M) (s : ∀ a xs, TupZ H a xs → TupZ H' a xs) : MakAt H' kvs M := by
  unfold MakAt at h ⊢
  induction h with
  | nil => exact .nil
  | cons h _ ih =>
    obtain ⟨h1, a, h2, h3⟩ := h
    exact .cons ⟨h1, a, h2, s a _ h3⟩ ih
theorem MakAt.len {H : Hp} {kvs : List (Key × V)} {M : Mak} (h : MakAt H kvs M) : kvs.length = M.length := Paired.length h
theorem MakAt.keys {H : Hp} {kvs : List (Key × V)} {M : Mak} (h : MakAt H kvs M) : kvs.map (·.1) = (keysOf M).map Sum.inr := by
  unfold MakAt at h
  induction h with
  | nil => rfl
  | cons h _ ih =>
    exact congr (congrArg List.cons h.1) ih
theorem MakAt.get {H : Hp} {kvs : List (Key × V)} {M : Mak} (h : MakAt H kvs M) (z : Str) : (lookM M z = none ∧ valV kvs (Sum.inr z) = none) ∨ ∃ ps a, lookM M z = some ps ∧ valV kvs (Sum.inr z) = some (.ref a) ∧ TupZ H a (ps.map V.str) := by
  unfold MakAt at h
  induction h with
  | nil => exact .inl ⟨rfl, rfl⟩
  | @cons kv m kvs M h _ ih =>
    obtain ⟨h1, a, h2, h3⟩ := h
    rw [lookM_cons]
    by_cases e : m.1 = z
    · rw [if_pos e, valV_pos (by rw [h1, e])]
      exact .inr ⟨m.2, a, rfl, by rw [h2], h3⟩
    · rw [if_neg e, valV_neg (by rw [h1]; exact fun q => e (Sum.inr.inj q))]
      exact ih
theorem MakAt.at {H : Hp} {kvs : List (Key × V)} {M : Mak} (h : MakAt H kvs M) {i : Nat} {k : Key} {v : V} (e : kvs[i]? = some (k, v)) : ∃ m a, M[i]? = some m ∧ k = Sum.inr m.1 ∧ v = .ref a ∧ TupZ H a (m.2.map V.str) := by
  unfold MakAt at h
  induction h generalizing i with
  | nil => cases e
  | @cons kv m kvs M h _ ih =>
    cases i with
    | zero =>
      cases e
      obtain ⟨h1, a, h2, h3⟩ := h
      exact ⟨m, a, rfl, h1, h2, h3⟩
    | succ i => exact ih e
theorem MakAt.key {H : Hp} {kvs : List (Key × V)} {M : Mak} (h : MakAt H kvs M) {z : Str} (hz : z ∈ keysOf M) : ∃ ps a, lookM M z = some ps ∧ valV kvs (Sum.inr z) = some (.ref a) ∧ TupZ H a (ps.map V.str) := by
  rcases h.get z with ⟨e, _⟩ | h
  · exact absurd hz (lookM_none.mp e)
  · exact h
/-- kinds with this leaf and these makings stand at x, their dict at md, their names ns -/
def KindsAt (C : Addr) (H : Hp) (x md : Addr) (leaf : Str) (M : Mak) (ns : List Str) : Prop :=
  ∃ dx nt kvs, H x = some (.ins C dx [("_leaf", .str leaf), ("_makings", .ref md), ("_names", .ref nt)]) ∧ H md = some (.dK kvs) ∧ MakAt H kvs M ∧ H nt = some (.tup (ns.map V.str))
theorem KindsAt.keep {C : Addr} {H H' : Hp} {x md e : Addr} {leaf : Str} {M : Mak} {ns : List Str} (h : KindsAt C H x md leaf M ns) (s : ∀ b o, b ≠ e → H b = some o → H' b = some o) (n1 : x ≠ e) (n2 : md ≠ e) (n3 : ∀ xs, H e ≠ some (.tup xs)) (n4 : ∀ xs, ¬ TupZ H e xs) : KindsAt C H' x md leaf M ns := by
  obtain ⟨dx, nt, kvs, h1, h2, h3, h4⟩ := h
  have t : ∀ a xs, H a = some (.tup xs) → H' a = some (.tup xs) := fun a xs q => s a _ (fun z => n3 xs (z ▸ q)) q
  exact ⟨dx, nt, kvs, s _ _ n1 h1, s _ _ n2 h2, h3.same fun a xs q => q.at fun o e' => s _ _ (fun z => n4 xs (z ▸ q)) e', t _ _ h4⟩
theorem KindsAt.same {C : Addr} {H H' : Hp} {x md : Addr} {leaf : Str} {M : Mak} {ns : List Str} (h : KindsAt C H x md leaf M ns) (s : Same H H') : KindsAt C H' x md leaf M ns := by
  obtain ⟨dx, nt, kvs, h1, h2, h3, h4⟩ := h
  exact ⟨dx, nt, kvs, s _ _ h1, s _ _ h2, h3.same fun a xs q => q.mono s, s _ _ h4⟩
end Kl
set_option maxRecDepth 100000
set_option maxHeartbeats 4000000
namespace Gx
open PySem PySem.Spec PyProof.Rows L2
/-- the name x is a def called with n values by position and keywords ks, that keeps sp and raises nothing -/
def CalO (P : Program) (w : World) (K : PySem.W.Frag) (mg : Str → Option Value) (base : Heap) (k : Nat) (x : Str) (ps : List Str) (n : Nat) (ks : List Str) (gV : List V → List V → List V) (sp : Sp) : Prop :=
  ∃ (f : Addr) (fd : FuncData) (g : List Value → List Value → List Value), FnOk P w K mg base CX0 k f fd ps sp ∧ PySem.W.keepIn K (.ref f) = true ∧ KBn K fd ps n ks g gV ∧ mg x = some (.ref f)
section
variable {P : Program} {w : World} {K : PySem.W.Frag} {mg : Str → Option Value} {base : Heap}
theorem DefK.calO {x qual : Str} {st : Stmt} {ps ks : List Str} {n : Nat} (d : DefK K mg x qual st ps n ks) {k : Nat} {sp : Sp} (h : ∀ f fd, Fun K x qual st f fd → FnOk P w K mg base CX0 k f fd ps sp) : CalO P w K mg base k x ps n ks (fun vs zs => vs ++ zs) sp := by
  obtain ⟨f, fd, F, b, g⟩ := d
  exact ⟨f, fd, _, h f fd F, F.kp, b, g⟩
theorem CalO.mono {x : Str} {ps ks : List Str} {n j k : Nat} {gV : List V → List V → List V} {sp : Sp} (c : CalO P w K mg base j x ps n ks gV sp) (h : j ≤ k) : CalO P w K mg base k x ps n ks gV sp := by
  obtain ⟨f, fd, g, F, more⟩ := c
  exact ⟨f, fd, g, F.mono h, more⟩
end
section
variable {X : Cx}
def tClO (n m : Nat) (sp : Sp) (gV : List V → List V → List V) (t tk : TA) : TE := fun σ H Q => t σ H fun vs H1 => tk σ H1 fun zs H2 => vs.length = n ∧ zs.length = m ∧ sp (gV vs zs) H2 Q E0
theorem pe_calO {x : Str} {ps ks : List Str} {n : Nat} {gV : List V → List V → List V} {sp : Sp} {k : Nat} {e : Expr} {es : List Expr} {kws : List Keyword} {t tk : TA} {p pos : Pos} (c : CalO X.prog X.w X.K X.mg X.base k x ps n ks gV sp) (room : Room k X.A) (hg : Gl X x)
    (h : PA X (e :: es) t) (hk : PK X kws tk) (hall : (backToKw pos (keywordEach kws X.env)).all (·.1.isSome) = true := by rfl) (hks : (backToKw pos (keywordEach kws X.env)).filterMap (·.1) = ks := by rfl)
    (hdb : (x == ("__debug__" : Str)) = false := by decide) (hst : starEach (e :: es) X.env = (false, eval e X.env) :: starEach es X.env := by rfl)
    (hpl : ((backTo pos (starEach (e :: es) X.env)).any (·.1) || (backToKw pos (keywordEach kws X.env)).any (·.1.isNone)) = false := by rfl) :
    PE X (.Call (.Name x p) (e :: es) kws pos) (tClO n ks.length sp gV t tk) := by
  obtain ⟨f, fd, gg, F, kp, b, hm⟩ := c
  refine ⟨fun pins s σ H Q I want => wpAny_Call_Name_kw (ld_glob I hg hm ?_ hdb)⟩
  refine PySem.W.callWith_KW (h₀ := X.base) I.ok.mod.kin kp hall (thn (h.run pos pins s σ H _ I want) ?_) hpl hst
  rintro us s1 ⟨vs, H1, I1, r, q⟩
  refine thn (hk.run pos pins s1 σ H1 _ I1 q) ?_
  rintro ws s2 ⟨zs, H2, I2, rz, l1, l2, q2⟩
  refine ⟨I2.kIn, ?_⟩
  rw [hks]
  have rel := b.rel r rz
  have bt := b.to s2 us ws I2.kIn (r.length.symm.trans l1) (rz.length.symm.trans l2)
  refine wpAny_call (codeAny_mono (F.run X.A X.stack s2 H2 ⟨us, ks.zip ws⟩ _ _ Q E0 room I2.env0 bt rel q2) fun res s' hres => ?_)
  match res, hres with
  | .error e, hres => exact hres.elim
  | .ok (.ret u), hres => exact I2.after hres
end
section
variable {X : Cx} {K : PySem.W.Frag}
theorem pi_tupK {tg l : Expr} {tl : TE} (hk : X.K = K) (hl : PE X l tl) : PI X tg l (iTup K tl) := by
  subst hk
  exact pi_tup hl
theorem pi_listK {tg l : Expr} {tl : TE} (hk : X.K = K) (hl : PE X l tl) : PI X tg l (iList K tl) := by
  subst hk
  exact pi_list hl
theorem op_inSeqK (hk : X.K = K) : OpR X (compareOp .In) (rIn K false) := by
  subst hk
  exact op_in_seq
end
/-- a walk's bookkeeping, whatever its turn does -/
theorem walk_in {J : It} {n : Nat} {G : Hp → Prop} {Y : Nat → Hp → V → Hp → Prop} (w : Walk J n G Y) {H0 : Hp} {Qd : Hp → Prop} {body : V → Hp → (Hp → Prop) → Prop} (Pv : Nat → Hp → Prop) (h0 : Pv 0 H0) (hG : ∀ i H, i ≤ n → Pv i H → G H)
    (hs : ∀ i x H H', i < n → Pv i H → Y i H x H' → body x H' (Pv (i + 1))) (hd : ∀ H, Pv n H → Qd H) :
    ∃ W : Nat → Nat → Hp → Prop, (∃ m, W 0 m H0) ∧ ∀ i m H, W i m H → (J.stop i H ∧ Qd H) ∨ (J.go i H ∧ ∃ Nx : Hp → Prop, (∀ H', Nx H' → ∃ m', m' < m ∧ W (i + 1) m' H') ∧ ∀ x H', J.yld i H x H' → body x H' Nx) := by
  refine ⟨fun i m H => m = n - i ∧ i ≤ n ∧ Pv i H, ⟨n, (Nat.sub_zero n).symm, Nat.zero_le _, h0⟩, ?_⟩
  rintro i m H ⟨rfl, hi, p⟩
  have q := hG i H hi p
  rcases Nat.lt_or_ge i n with lt | ge
  · exact .inr ⟨w.goes i H lt q, Pv (i + 1), fun H' p' => ⟨n - (i + 1), by omega, rfl, lt, p'⟩, fun x H' y => hs i x H H' lt p (w.yields i H x H' lt q y)⟩
  · obtain rfl : i = n := Nat.le_antisymm hi ge
    exact .inl ⟨w.stops H q, hd H p⟩
end Gx
namespace Kl
open PySem PySem.Spec PyProof.Rows L2 Gx Mx
section
variable {P : Program} {w : World} {K : PySem.W.Frag} {mg : Str → Option Value} {base : Heap}
def spSorted (K : PySem.W.Frag) : Sp := fun vs H Q _ => ∃ (p : Addr) (zs : List Str) (M : Int), vs = [.ref p, .int M] ∧ SqT K H p (zs.map V.str) ∧ TyX K H (.ref p) (.type "tuple") ∧ 0 ≤ M ∧ M ≤ 100 ∧ zs.length ≤ 1000 ∧ (∀ z ∈ zs, z.length ≤ 1000) ∧
  ∀ H', Same H H' → Q (.bl (decide ((zs.length : Int) ≤ M) && (zs.all nameB && sortedS zs))) H'
theorem names_low {z : Str} (h : nameB z = true) : PyData.strOk z = true := by
  unfold nameB at h
  rw [Bool.and_eq_true] at h
  show z.cps.all _ = true
  rw [Array.all_eq_true']
  intro c hc
  have := List.all_eq_true.mp h.2 c (Array.mem_toList_iff.mpr hc)
  exact decide_eq_true (Nat.lt_trans (isLow_lt this) (by decide))
theorem ok_sorted {f : Addr} {fd : FuncData} (F : Fun K "is_sorted" "is_sorted" s_is_sorted f fd) (T : Top K mg) : FnOk P w K mg base CX0 3 f fd ["value", "most"] (spSorted K) := by
  have cc : Cal P w K mg base 2 "is_count" ["value"] (spCnt K) := T.d_is_count.cal fun f fd F => ok_cnt F T
  have cn : Cal P w K mg base 2 "is_name" ["value"] (spName K) := (T.d_is_name.cal fun f fd F => ok_name F T).mono (by decide)
  refine F.ok sc_is_sorted (fun vs H Q E h => ?_) (fun cdv A outer s H vs Q E hr h => ?_)
  · obtain ⟨p, zs, M, rfl, _⟩ := h
    rfl
  · obtain ⟨p, zs, M, rfl, hp, hT, hM, hM2, hlen, hz, hq⟩ := h
    refine ⟨_, pss_cons (ps_if (pt_not (pt_val (pe_cal cc hr (by rfl) (pa_cons (pv 1) pa_nil)))) (pss_one ps_never) pss_nil)
      (pss_cons (ps_if (PW.pt (pw_or (pt_not (pt_val (pe_callB call_isi (by rfl) T.b_isinstance (by decide +kernel) (pa_cons (pv 0) (pa_cons (pe_bltn (v := .ty "tuple") (by rfl) T.b_tuple (by decide +kernel) rfl) pa_nil)))))
          (pw_or1 (pt_cmpR op_gt (pe_callB call_len_seq (by rfl) T.b_len PySem.boot_len (pa_cons (pv 0) pa_nil)) (pv 1) (nomark _))))) (pss_one (ps_ret pe_bl)) pss_nil)
      (pss_cons (ps_if (pt_not (pt_val (pe_callB (cr_all rfl) (by rfl) T.b_all (by decide +kernel) (pa_cons (pe_lc (own := [("name", 2)]) (g := gName 2) (tt := tYes) rfl sc_is_sorted.nd (pi_tup (pv 0))
            (blkOk_by (N := ["value", "most", "name"]) (sc := defScope s_is_sorted) (by decide +kernel))
            (fun _ _ _ _ _ => pg_name (i := 2) sc_is_sorted.nd rfl (.inl rfl)) (fun _ _ _ _ _ => pts_nil) (fun _ _ _ _ _ => pe_cal cn hr (by rfl) (pa_cons (pv 2) pa_nil))) pa_nil)))) (pss_one (ps_ret pe_bl)) pss_nil)
      (pss_one (ps_ret (pe_cmpR (op_eqD hr.units) (pe_callTy call_list_of (by rfl) T.b_list (by decide +kernel) (pa_cons (pv 0) pa_nil)) (pe_callB cr_sortedTS (by rfl) T.b_sorted (by decide +kernel) (pa_cons (pv 0) pa_nil)) (nomark _)))))), ?_⟩
    have hc : cntV (.int M) = true := by
      show ((decide (-TEN60 < M) && decide (M < TEN60)) && decide (0 ≤ M)) = true
      rw [decide_eq_true (show -TEN60 < M by unfold TEN60; omega), decide_eq_true (show M < TEN60 by unfold TEN60; omega), decide_eq_true hM]
      rfl
    refine ⟨_, rfl, .int M, rfl, .inl ⟨M, rfl⟩, _, rfl, ?_⟩
    rw [hc]
    refine ⟨_, rfl, _, .ty "tuple", .type "tuple", .type "tuple", true, rfl, .ty _, hT, kit_ty (by decide +kernel), true, rfl, ?_⟩
    refine ⟨_, rfl, p, _, rfl, .inr hp, _, rfl, _, _, rfl, rfl, _, rfl, ite2 (fun e => ?_) (fun e => ?_)⟩
    · have e1 : decide ((zs.length : Int) ≤ M) = false := decide_eq_false (by
        have := of_decide_eq_true e
        rw [List.length_map] at this
        omega)
      rw [e1, Bool.false_and] at hq
      exact hq H (Same.refl H)
    · have e1 : decide ((zs.length : Int) ≤ M) = true := decide_eq_true (by
        have : ¬ (M < ((zs.map V.str).length : Int)) := fun z => e (decide_eq_true z)
        rw [List.length_map] at this
        omega)
      rw [e1, Bool.true_and] at hq
      refine ⟨_, rfl, p, rfl, ⟨_, hp⟩, fun D hD => ?_⟩
      refine lc_tup (xs := zs.map V.str) (fun j H2 => H2 D = some (.lst ((zs.take j).map fun z => V.bl (nameB z))) ∧ Same H H2) ⟨upd_same, fun b u e => by rw [upd_ne (ne_of_none e hD)]; exact e⟩ (fun j H2 _ hP => ?_) (fun j x H2 hj hP => ?_) (fun H2 hP => ?_)
      · rcases hp with (h | ⟨u, h⟩) | h
        · exact .inl (.inl (hP.2 _ _ h))
        · exact .inl (.inr ⟨u, hP.2 _ _ h⟩)
        · exact .inr h
      · obtain ⟨eD, sm⟩ := hP
        obtain ⟨z, hzj, rfl⟩ : ∃ z, zs[j]? = some z ∧ V.str z = x := by
          rw [List.getElem?_map] at hj
          cases e : zs[j]? with
          | none => rw [e] at hj; cases hj
          | some z => rw [e] at hj; exact ⟨z, rfl, by cases hj; rfl⟩
        refine ⟨rfl, _, rfl, _, rfl, .inl ⟨z, rfl, Nat.le_trans (hz z (List.mem_of_getElem? hzj)) (by decide)⟩, _, eD, ?_, ?_, fun b u e => by rw [upd_ne (ne_of_none e hD)]; exact sm b u e⟩
        · rw [List.length_map, List.length_take]
          exact Nat.lt_of_le_of_lt (Nat.le_trans (Nat.min_le_right _ _) hlen) (by decide)
        · rw [upd_same, List.take_add_one, hzj, List.map_append]
          rfl
      · obtain ⟨eD, sm⟩ := hP
        rw [List.length_map, List.take_length] at eD
        refine ⟨D, zs.map nameB, rfl, .inl (.inl (by rw [eD, List.map_map]; rfl)), _, rfl, ?_⟩
        have ea : (zs.map nameB).all id = zs.all nameB := by rw [List.all_map]; rfl
        rw [ea]
        cases hall : zs.all nameB with
        | false =>
          rw [hall, Bool.false_and] at hq
          exact hq _ sm
        | true =>
          rw [hall, Bool.true_and] at hq
          have hok : ∀ z ∈ zs, PyData.strOk z = true := fun z hz => names_low (List.all_eq_true.mp hall z hz)
          have hp2 : SqT K H2 p (zs.map V.str) := by
            rcases hp with (h | ⟨u, h⟩) | h
            · exact .inl (.inl (sm _ _ h))
            · exact .inl (.inr ⟨u, sm _ _ h⟩)
            · exact .inr h
          refine ⟨_, rfl, p, _, rfl, .inr hp2, fun l nl => ?_⟩
          have sm2 : Same H (upd H2 l (.lst (zs.map V.str))) := fun b u e => by rw [upd_ne (ne_of_none (sm b u e) nl)]; exact sm b u e
          have hp3 : SqT K (upd H2 l (.lst (zs.map V.str))) p (zs.map V.str) := by
            rcases hp with (h | ⟨u, h⟩) | h
            · exact .inl (.inl (sm2 _ _ h))
            · exact .inl (.inr ⟨u, sm2 _ _ h⟩)
            · exact .inr h
          refine ⟨_, rfl, p, zs, rfl, hp3, by omega, fun ys l2 hperm hsrt nl2 => ?_⟩
          refine ⟨.list (tD zs), .list (tD ys), ?_, ?_, shaped_texts hok, shaped_texts (fun z hz => hok z (hperm.mem_iff.mp hz)), ?_⟩
          · exact .lst (.inl (.inl (by rw [upd_ne (ne_of_none upd_same nl2), upd_same]))) (dp_texts zs)
          · exact .lst (.inl (.inl upd_same)) (dp_texts ys)
          · rw [PyData.eqv, eqv_texts, eq_sorted_iff hperm hsrt]
            exact hq _ (fun b u e => by rw [upd_ne (ne_of_none (sm2 b u e) nl2)]; exact sm2 b u e)
def spMaking (K : PySem.W.Frag) : Sp := fun vs H Q _ => ∃ (p : Addr) (zs : List Str), vs = [.ref p] ∧ TupZ H p (zs.map V.str) ∧ zs.all nameB = true ∧ sortedS zs = true ∧ 2 ≤ zs.length ∧ zs.length ≤ 3 ∧ (∀ z ∈ zs, z.length ≤ 1000) ∧ ∀ H', Same H H' → Q (.bl true) H'
theorem ok_making {f : Addr} {fd : FuncData} (F : Fun K "_is_making" "_is_making" s_is_making f fd) (T : Top K mg) : FnOk P w K mg base CX0 4 f fd ["value"] (spMaking K) := by
  obtain ⟨tm, gm⟩ := T.g_MAX_PARTS
  have cs : CalO P w K mg base 3 "is_sorted" ["value", "most"] 1 ["most"] (fun vs zs => vs ++ zs) (spSorted K) := T.d_is_sorted.calO fun f fd F => ok_sorted F T
  refine F.ok sc_is_making (fun vs H Q E h => ?_) (fun cdv A outer s H vs Q E hr h => ?_)
  · obtain ⟨p, zs, rfl, _⟩ := h
    rfl
  · obtain ⟨p, zs, rfl, hp, hn, hs, h2, h3, hz, q⟩ := h
    refine ⟨_, pss_one (ps_ret (pe_and (pe_calO cs hr (by rfl) (pa_cons (pv 0) pa_nil) (pk_cons (pe_glob (v := .int 3) (by rfl) gm ⟨_, rfl⟩) pk_nil))
      (pe_one (pe_cmpR op_ge (pe_callB call_len_seq (by rfl) T.b_len PySem.boot_len (pa_cons (pv 0) pa_nil)) pe_int (nomark _))))), ?_⟩
    refine ⟨_, rfl, rfl, rfl, p, zs, 3, rfl, hp.sq, hp.ty, by decide, by decide, by omega, hz, fun H1 s1 => ⟨_, rfl, ?_⟩⟩
    rw [hn, hs, decide_eq_true (show ((zs.length : Int) ≤ 3) by omega)]
    refine ⟨_, rfl, p, _, rfl, .inr (hp.mono s1).sq, _, _, rfl, rfl, ?_⟩
    have e : decide ((2 : Int) ≤ ((zs.map V.str).length : Int)) = true := decide_eq_true (by rw [List.length_map]; omega)
    show Q (.bl (decide ((2 : Int) ≤ ((zs.map V.str).length : Int)))) H1
    rw [e]
    exact q H1 s1
def spNames : Sp := fun vs H Q _ => ∃ (leaf : Str) (md : Addr) (kvs : List (Key × V)) (ks : List Str), vs = [.str leaf, .ref md] ∧ H md = some (.dK kvs) ∧ kvs.map (·.1) = ks.map Sum.inr ∧ ks.length ≤ 100 ∧
  ∀ (ns : List Str) (p : Addr) (H' : Hp), IsNames leaf ks ns → Same H H' → H p = none → H' p = some (.tup (ns.map V.str)) → Q (.ref p) H'
theorem ok_names {f : Addr} {fd : FuncData} (F : Fun K "_all_names" "_all_names" s_all_names f fd) (T : Top K mg) : FnOk P w K mg base CX0 1 f fd ["leaf", "makings"] spNames := by
  refine F.ok sc_all_names (fun vs H Q E h => ?_) (fun cdv A outer s H vs Q E hr h => ?_)
  · obtain ⟨leaf, md, kvs, ks, rfl, _⟩ := h
    rfl
  · obtain ⟨leaf, md, kvs, ks, rfl, hd, hk, hl, q⟩ := h
    refine ⟨_, pss_one (ps_ret (pe_callTy call_tuple_of (by rfl) T.b_tuple (by decide +kernel) (pa_cons (pe_callB (cr_sortedX rfl) (by rfl) T.b_sorted (by decide +kernel) (pa_cons
      (pe_callTy (cr_setX rfl) (by rfl) T.b_set (by decide +kernel) (pa_cons (pe_lst (pa_cons (pv 0) (pa_starD rfl (pv 1) pa_nil))) pa_nil)) pa_nil)) pa_nil))), ?_⟩
    have ek : (kvs.map fun kv => kV kv.1) = ks.map V.str := by
      have e := congrArg (List.map kV) hk
      rw [List.map_map, List.map_map] at e
      exact e
    have lk : kvs.length = ks.length := by
      have e := congrArg List.length hk
      rw [List.length_map, List.length_map] at e
      exact e
    have e1 : [V.str leaf] ++ ((kvs.map fun kv => kV kv.1) ++ []) = ((leaf :: ks).map V.str) := by rw [List.append_nil, ek]; rfl
    refine ⟨_, rfl, _, rfl, md, kvs, rfl, hd, ?_, fun l nl => ?_⟩
    · show (V.str leaf :: ((kvs.map fun kv => kV kv.1) ++ [])).length ≤ sizeLine
      rw [List.length_cons, List.append_nil, List.length_map]
      exact Nat.le_trans (show kvs.length + 1 ≤ 101 by omega) (by decide)
    have s1 : Same H (upd H l (.lst ((leaf :: ks).map V.str))) := fun b u e => by rw [upd_ne (ne_of_none e nl)]; exact e
    have e2 : upd H l (.lst (V.str leaf :: ((kvs.map fun kv => kV kv.1) ++ []))) = upd H l (.lst ((leaf :: ks).map V.str)) := by rw [← e1]; rfl
    rw [e2]
    generalize hH1 : upd H l (.lst ((leaf :: ks).map V.str)) = H1 at s1
    have h1l : H1 l = some (.lst ((leaf :: ks).map V.str)) := by rw [← hH1, upd_same]
    refine ⟨l, leaf :: ks, rfl, .inl (.inl h1l), by show (leaf :: ks).length ≤ 1000; rw [List.length_cons]; omega, fun a na => ?_⟩
    have s2 : Same H (upd H1 a (SetO' P w a (leaf :: ks))) := fun b u e => by rw [upd_ne (ne_of_none (s1 b u e) na)]; exact s1 b u e
    refine ⟨a, leaf :: ks, rfl, upd_same, by show (leaf :: ks).length ≤ 1000; rw [List.length_cons]; omega, fun ys p hs nd hm np => ?_⟩
    have s3 : Same H (upd (upd H1 a (SetO' P w a (leaf :: ks))) p (.lst (ys.map V.str))) := fun b u e => by rw [upd_ne (ne_of_none (s2 b u e) np)]; exact s2 b u e
    refine ⟨p, ys.map V.str, rfl, .inl ⟨.inl (.inl upd_same), fun t nt => ?_⟩⟩
    refine q ys t _ ⟨hs, nd, fun z => (hm z).trans List.mem_cons⟩ (fun b u e => by rw [upd_ne (ne_of_none (s3 b u e) nt)]; exact s3 b u e) ?_ upd_same
    exact s3.free nt
end
end Kl
set_option maxRecDepth 100000
set_option maxHeartbeats 4000000
namespace Kl
open PySem PySem.Spec PyProof.Rows L2 Gx Mx
section
variable {P : Program} {w : World} {K : PySem.W.Frag} {mg : Str → Option Value} {base : Heap}
def spDice (K : PySem.W.Frag) : Sp := fun vs H Q _ => ∃ (a : Addr) (ns : List Int) (i : Nat), vs = [.ref a, .int i] ∧ SqL K H a (ns.map V.int) ∧ ns.length ≤ 63 ∧ i ≤ 1000 ∧
  ∀ (p : Addr) (x b : Int), H p = none → Q (.ref p) (upd H p (.lst [.int x, .int b, .int 0]))
theorem ok_dice {f : Addr} {fd : FuncData} (F : Fun K "_law_dice" "_law_dice" s_law_dice f fd) (T : Top K mg) : FnOk P w K mg base CX0 1 f fd ["_law_script", "_law_spot"] (spDice K) := by
  refine F.ok sc_law_dice (fun vs H Q E h => ?_) (fun cdv A outer s H vs Q E hr h => ?_)
  · obtain ⟨a, ns, i, rfl, _⟩ := h
    rfl
  · obtain ⟨a, ns, i, rfl, hS, hlen, hi, q⟩ := h
    refine ⟨_, pss_cut (ps_set (i := 2) sc_law_dice.nd rfl (.inl rfl) (pe_ifExp
        (pt_cmpR op_lt (pv 1) (pe_callB call_len_seq (by rfl) T.b_len PySem.boot_len (pa_cons (pv 0) pa_nil)) (nomark _))
        (pe_callTy call_int1 (by rfl) T.b_int (by decide +kernel) (pa_cons (pe_ix ix_list (pv 0) (pv 1) (fun _ _ => rfl)) pa_nil))
        (pe_op op_add (pe_op op_mul pe_int (pv 1)) pe_int)))
      (pss_cons (ps_set (i := 3) sc_law_dice.nd rfl (.inl rfl) (pe_op op_mod
        (pe_callB (call_max2 rfl) (by rfl) T.b_max (by decide +kernel) (pa_cons pe_int (pa_cons (pe_op op_sub
          (pe_callB call_abs (by rfl) T.b_abs (by decide +kernel) (pa_cons (pv 2) pa_nil)) (pe_op op_pow pe_int pe_int)) pa_nil)))
        (pe_op op_mulW (pe_op op_pow pe_int pe_int) (pe_op op_pow pe_int pe_int))))
      (pss_one (ps_ret (pe_lst (pa_cons (pv 3) (pa_cons
        (pe_op op_add (pe_op op_add (pe_op op_add (pe_op op_mul (pe_op op_mod (pe_callB call_abs (by rfl) T.b_abs (by decide +kernel) (pa_cons (pv 2) pa_nil)) pe_int) pe_int)
          (pe_op op_mul pe_int (pv 1)))
          (pe_op op_mul pe_int (pe_callTy call_int1 (by rfl) T.b_int (by decide +kernel) (pa_cons (pe_cmpR op_lt (pv 2) pe_int (nomark _)) pa_nil)))) pe_int)
        (pa_cons pe_int pa_nil))))))), ?_⟩
    refine ⟨fun σ' H' => ∃ c : Int, σ' = [some (.ref a), some (.int i), some (.int c), none] ∧ H' = H, ?_, ?_⟩
    · refine ⟨_, rfl, .ref a, rfl, a, _, rfl, .inl hS, _, _, rfl, rfl, _, rfl, ite2 (fun e => ?_) (fun e => ?_)⟩
      · have e' : i < ns.length := by
          have := of_decide_eq_true e
          rw [List.length_map] at this
          omega
        refine ⟨.ref a, rfl, .int i, rfl, a, _, _, .int ns[i], rfl, rfl, hS, atI_nat (by rw [List.getElem?_map, List.getElem?_eq_getElem e']; rfl), .inl ⟨_, rfl, ns[i], rfl, rfl⟩⟩
      · refine ⟨_, rfl, _, _, rfl, rfl, .inl ⟨by decide, by decide⟩, _, _, rfl, rfl, _, rfl, rfl⟩
    · rintro σ' H' ⟨c, rfl, rfl⟩
      refine ⟨_, rfl, _, rfl, ?_⟩
      refine ⟨_, _, rfl, rfl, ⟨by decide, by decide, by decide⟩, ?_⟩
      refine ⟨_, _, rfl, rfl, ?_⟩
      refine ⟨_, _, rfl, ?_⟩
      refine ⟨_, _, rfl, rfl, ⟨by decide, by decide, by decide⟩, ?_⟩
      refine ⟨_, _, rfl, rfl, ⟨by decide, by decide, by decide⟩, ?_⟩
      refine ⟨_, _, rfl, rfl, wide_mul (a := 200) (b := 200) (by decide) (by decide) (by decide) (by decide) (by decide), ?_⟩
      refine ⟨_, _, rfl, rfl, by show (0 : Int) < _; decide, ?_⟩
      generalize (if (if c < 0 then -c else c) - 10 ^ Int.toNat 17 > 0 then (if c < 0 then -c else c) - 10 ^ Int.toNat 17 else 0) % (10 ^ Int.toNat 60 * 10 ^ Int.toNat 60) = left
      refine ⟨_, rfl, _, rfl, _, rfl, _, _, rfl, rfl, by show (0 : Int) < _; decide, _, _, rfl, rfl, .inr ⟨by decide, by decide⟩, ?_⟩
      refine ⟨_, rfl, _, _, rfl, rfl, .inl ⟨by decide, by decide⟩, _, _, rfl, rfl, _, rfl, _, _, rfl, rfl, .inr ⟨_, rfl, ?_⟩⟩
      refine ⟨_, _, rfl, rfl, .inl ⟨by decide, by decide⟩, _, _, rfl, rfl, _, _, rfl, rfl, by show 3 ≤ sizeLine; decide, fun p hp => ?_⟩
      exact q p _ _ hp
def spRoll : Sp := fun vs H Q _ => ∃ (d : Addr) (t : Int), vs = [.ref d, .int t] ∧ DiceAt H d ∧ 0 < t ∧ t.natAbs.log2 < 9000 ∧
  ∀ (r x b c : Int), 0 ≤ r → r < t → Q (.int r) (upd H d (.lst [.int x, .int b, .int c]))
theorem ok_roll {f : Addr} {fd : FuncData} (F : Fun K "_law_roll" "_law_roll" s_law_roll f fd) (T : Top K mg) : FnOk P w K mg base CX0 1 f fd ["_law_dice_here", "_law_total"] spRoll := by
  refine F.ok sc_law_roll (fun vs H Q E h => ?_) (fun cdv A outer s H vs Q E hr h => ?_)
  · obtain ⟨d, t, rfl, _⟩ := h
    rfl
  · obtain ⟨d, t, rfl, ⟨x, b, c, hd⟩, ht, ht2, q⟩ := h
    refine ⟨_, pss_cons (ps_if (pt_cmpR op_gt (pe_ix ix_list (pv 0) pe_int (fun _ _ => rfl)) pe_int (nomark _))
        (pss_cons (ps_set (i := 2) sc_law_roll.nd rfl (.inl rfl) (pe_op op_mod (pe_callTy call_int1 (by rfl) T.b_int (by decide +kernel) (pa_cons (pe_ix ix_list (pv 0) pe_int (fun _ _ => rfl)) pa_nil)) (pv 1)))
        (pss_cons (ps_asg (pe_op op_fdivW (pe_ix ix_list (pv 0) pe_int (fun _ _ => rfl)) (pv 1)) (pg_sub (pv 0) pe_int set_list))
        (pss_one (ps_ret (pv 2))))) pss_nil)
      (pss_cons (ps_asg (pe_op op_add (pe_ix ix_list (pv 0) pe_int (fun _ _ => rfl)) pe_int) (pg_sub (pv 0) pe_int set_list))
      (pss_cons (ps_set (i := 3) sc_law_roll.nd rfl (.inl rfl) (pe_op op_mod (pe_callTy call_int1 (by rfl) T.b_int (by decide +kernel) (pa_cons
        (pe_op op_add (pe_ix ix_list (pv 0) pe_int (fun _ _ => rfl)) (pe_op op_mul pe_int (pe_ix ix_list (pv 0) pe_int (fun _ _ => rfl)))) pa_nil)) pe_int))
      (pss_cons (ps_set (i := 4) sc_law_roll.nd rfl (.inl rfl) (pe_op op_add (pe_op op_mul (pe_op op_mod (pe_callTy call_int1 (by rfl) T.b_int (by decide +kernel) (pa_cons
        (pe_op op_add (pe_op op_mul (pv 3) (pv 3)) (pe_op op_mul pe_int (pe_ix ix_list (pv 0) pe_int (fun _ _ => rfl)))) pa_nil)) pe_int) pe_int) (pv 3)))
      (pss_one (ps_ret (pe_op op_mod (pe_callTy call_int1 (by rfl) T.b_int (by decide +kernel) (pa_cons (pe_op op_fdiv (pv 4) pe_int) pa_nil)) (pv 1))))))), ?_⟩
    have at0 : ∀ (x y z : V), atI [x, y, z] 0 = some x := fun x y z => atI_nat (j := 0) rfl
    have at1 : ∀ (x y z : V), atI [x, y, z] 1 = some y := fun x y z => atI_nat (j := 1) rfl
    have at2 : ∀ (x y z : V), atI [x, y, z] 2 = some z := fun x y z => atI_nat (j := 2) rfl
    have hS : SqL K H d [.int x, .int b, .int c] := .inl (.inl hd)
    refine ⟨_, rfl, d, _, _, _, rfl, rfl, hS, at0 _ _ _, _, _, rfl, rfl, _, rfl, ite2 (fun e => ?_) (fun e => ?_)⟩
    · refine ⟨_, rfl, d, _, _, _, rfl, rfl, hS, at0 _ _ _, .inl ⟨_, rfl, _, rfl, _, _, rfl, rfl, ht, ?_⟩⟩
      refine ⟨_, rfl, d, _, _, _, rfl, rfl, hS, at0 _ _ _, _, rfl, _, _, rfl, rfl, ⟨ht, ht2⟩, ?_⟩
      refine ⟨_, rfl, d, _, _, 0, rfl, rfl, hd, rfl, ?_⟩
      refine ⟨_, rfl, ?_⟩
      exact q _ _ _ _ (Int.emod_nonneg _ (by omega)) (Int.emod_lt_of_pos _ ht)
    · refine ⟨_, rfl, d, _, _, _, rfl, rfl, hS, at2 _ _ _, _, _, rfl, rfl, ?_⟩
      refine ⟨_, rfl, d, _, _, 2, rfl, rfl, hd, rfl, ?_⟩
      have hd1 : (upd H d (.lst ([V.int x, V.int b, V.int c].set 2 (.int (c + 1))))) d = some (.lst [V.int x, V.int b, V.int (c + 1)]) := upd_same
      have hS1 : SqL K (upd H d (.lst ([V.int x, V.int b, V.int c].set 2 (.int (c + 1))))) d [V.int x, V.int b, V.int (c + 1)] := .inl (.inl hd1)
      refine ⟨_, rfl, d, _, _, _, rfl, rfl, hS1, at1 _ _ _, _, rfl, d, _, _, _, rfl, rfl, hS1, at2 _ _ _, _, _, rfl, rfl, .inl ⟨by decide, by decide⟩, _, _, rfl, rfl, .inl ⟨_, rfl, ?_⟩⟩
      refine ⟨_, _, rfl, rfl, by show (0 : Int) < _; decide, ?_⟩
      have h1 := Int.emod_nonneg (b + 7919 * (c + 1)) (show (2305843009213693907 : Int) ≠ 0 by decide)
      have h2 := Int.emod_lt_of_pos (b + 7919 * (c + 1)) (show (0 : Int) < 2305843009213693907 by decide)
      generalize (b + 7919 * (c + 1)) % 2305843009213693907 = one at h1 h2
      refine ⟨_, rfl, _, rfl, _, _, rfl, rfl, .inl ⟨by omega, by omega⟩, _, rfl, d, _, _, _, rfl, rfl, hS1, at2 _ _ _, _, _, rfl, rfl, .inl ⟨by decide, by decide⟩, _, _, rfl, rfl, .inl ⟨_, rfl, ?_⟩⟩
      refine ⟨_, _, rfl, rfl, by show (0 : Int) < _; decide, _, _, rfl, rfl, .inr ⟨by decide, by decide⟩, _, rfl, _, _, rfl, rfl, ?_⟩
      refine ⟨_, rfl, _, _, rfl, rfl, ⟨by decide, by decide⟩, .inl ⟨_, rfl, _, rfl, _, _, rfl, rfl, ht, ?_⟩⟩
      exact q _ _ _ _ (Int.emod_nonneg _ (by omega)) (Int.emod_lt_of_pos _ ht)
/-- what may be picked from: the items of a list, a tuple, a text -/
def Items (K : PySem.W.Frag) (H : Hp) (d : Addr) (x : V) (xs : List V) : Prop :=
  (∃ p, x = .ref p ∧ p ≠ d ∧ (SqL K H p xs ∨ SqT K H p xs)) ∨ ∃ z : Str, x = .str z ∧ xs = signV z ∧ z.length ≤ sizeLine
def spPick (K : PySem.W.Frag) : Sp := fun vs H Q _ => ∃ (d : Addr) (x : V) (xs : List V), vs = [.ref d, x] ∧ DiceAt H d ∧ Items K H d x xs ∧ xs ≠ [] ∧ xs.length ≤ 100000 ∧
  ∀ (v : V) (x b c : Int), v ∈ xs → Q v (upd H d (.lst [.int x, .int b, .int c]))
theorem log2_small {n : Nat} (h : n ≤ 100000) : ((n : Int).natAbs).log2 < 9000 := by
  have h1 : ((n : Int).natAbs) < 2 ^ 20 := by
    rw [Int.natAbs_natCast]
    exact Nat.lt_of_le_of_lt h (by decide)
  exact Nat.lt_of_lt_of_le (PySem.Flt.log2_lt_of (by decide) h1) (by decide)
theorem ok_pick {f : Addr} {fd : FuncData} (F : Fun K "_law_pick" "_law_pick" s_law_pick f fd) (T : Top K mg) : FnOk P w K mg base CX0 2 f fd ["_law_dice_here", "_law_items"] (spPick K) := by
  have cr : Cal P w K mg base 1 "_law_roll" ["_law_dice_here", "_law_total"] spRoll := T.d_law_roll.cal fun f fd F => ok_roll F T
  refine F.ok sc_law_pick (fun vs H Q E h => ?_) (fun cdv A outer s H vs Q E hr h => ?_)
  · obtain ⟨d, x, xs, rfl, _⟩ := h
    rfl
  · obtain ⟨d, x, xs, rfl, hd, hI, hne, hlen, q⟩ := h
    refine ⟨_, pss_one (ps_ret (pe_ix ix_seq (pv 1) (pe_cal cr hr (by rfl) (pa_cons (pv 0) (pa_cons (pe_callB call_len (by rfl) T.b_len PySem.boot_len (pa_cons (pv 1) pa_nil)) pa_nil))) (fun _ _ => rfl))), ?_⟩
    have hpos : 0 < xs.length := List.length_pos_iff.mpr hne
    rcases hI with ⟨p, rfl, hp, hs⟩ | ⟨z, rfl, rfl, hz⟩
    · refine ⟨_, rfl, _, rfl, _, rfl, _, (xs.length : Nat), rfl, ?_, ?_⟩
      · rcases hs with hs | hs
        · exact .inl ⟨_, hs, rfl⟩
        · exact .inr ⟨_, hs, rfl⟩
      · refine ⟨d, _, rfl, hd, by omega, log2_small hlen, fun r x b c h0 h1 => ?_⟩
        obtain ⟨v, hv, ha⟩ := atI_int (xs := xs) h0 h1
        rcases hs with hs | hs
        · exact .inl ⟨p, _, _, v, rfl, rfl, sqL_ne hp hs, ha, q v x b c hv⟩
        · exact .inr (.inl ⟨p, _, _, v, rfl, rfl, sqT_ne hp hs, ha, q v x b c hv⟩)
    · have hlz := signV_len z
      refine ⟨_, rfl, _, rfl, _, rfl, _, (z.length : Nat), rfl, ⟨hz, rfl⟩, ?_⟩
      refine ⟨d, _, rfl, hd, by omega, log2_small (by omega), fun r x b c h0 h1 => ?_⟩
      obtain ⟨v, hv, ha⟩ := atI_int (xs := z.cps.toList) h0 (by rw [Array.length_toList]; exact h1)
      exact .inr (.inr ⟨z, r, v, rfl, rfl, hz, ha, q _ x b c (List.mem_map.mpr ⟨_, hv, rfl⟩)⟩)
end
end Kl
set_option maxRecDepth 100000
set_option maxHeartbeats 4000000
namespace Kl
open PySem PySem.Spec PyProof.Rows L2 Gx Mx
/-- all but what stands at d is as it was -/
def SameX (d : Addr) (H H' : Hp) : Prop := ∀ b o, b ≠ d → H b = some o → H' b = some o
theorem SameX.refl (d : Addr) (H : Hp) : SameX d H H := fun _ _ _ e => e
theorem SameX.trans {d : Addr} {H H' H'' : Hp} (h : SameX d H H') (h' : SameX d H' H'') : SameX d H H'' := fun b o n e => h' b o n (h b o n e)
theorem SameX.atd {d : Addr} {H H' : Hp} {o : HO} (h : SameX d H H') : SameX d H (upd H' d o) := fun b u n e => by rw [upd_ne n]; exact h b u n e
theorem SameX.new {d p : Addr} {H H' : Hp} {o : HO} (h : SameX d H H') (n : H' p = none) : SameX d H (upd H' p o) := fun b u nb e => by
  have e' := h b u nb e
  rw [upd_ne (ne_of_none e' n)]
  exact e'
theorem SameX.at {d p : Addr} {H H' : Hp} {o : HO} (h : SameX d H H') (n : H p = none) : SameX d H (upd H' p o) := fun b u nb e => by
  rw [upd_ne (ne_of_none e n)]
  exact h b u nb e
theorem SameX.of {d : Addr} {H H' : Hp} (h : Same H H') : SameX d H H' := fun b o _ e => h b o e
theorem SameX.free {d p : Addr} {H H' : Hp} (h : SameX d H H') (n : p ≠ d) (e : H' p = none) : H p = none := by
  cases q : H p with
  | none => rfl
  | some o => rw [h p o n q] at e; cases e
theorem dice_ne {H : Hp} {d p : Addr} (h : DiceAt H d) (e : H p = none) : p ≠ d := fun q => by
  obtain ⟨_, _, _, h⟩ := h
  rw [q, h] at e
  cases e
theorem dice_upd {H : Hp} {d p : Addr} {o : HO} (h : DiceAt H d) (n : p ≠ d) : DiceAt (upd H p o) d := by
  obtain ⟨a, b, c, h⟩ := h
  exact ⟨a, b, c, by rw [upd_ne n.symm]; exact h⟩
theorem dice_new {H : Hp} {d : Addr} (x b c : Int) : DiceAt (upd H d (.lst [.int x, .int b, .int c])) d := ⟨_, _, _, upd_same⟩
end Kl
set_option maxRecDepth 100000
set_option maxHeartbeats 4000000
namespace L2
open PySem PySem.Spec PyProof.Rows
def eqS (z : Str) (u : Value) : Bool := match u with
  | .str y _ => y == z
  | _ => false
theorem eqS_gives {z : Str} {t : Tok} : ∀ {zs : List Str} {us : List Value}, Vals (zs.map V.str) us → ∀ y ∈ us, MeetsSeq.EqGives y (.str z t) (eqS z y)
  | [], _, .nil => fun y hy => nomatch hy
  | x :: zs, _, .cons r rest => fun y hy => by
    obtain ⟨k, rfl⟩ := r
    rcases List.mem_cons.mp hy with rfl | hy
    · show MeetsSeq.EqGives _ _ (x == z)
      rw [← SeqAt.str_beq]
      exact SeqRoads2.EqGives.str x z k t
    · exact eqS_gives rest y hy
theorem eqS_at {z : Str} : ∀ {zs : List Str} {us : List Value}, Vals (zs.map V.str) us → ∀ (m : Nat) (h : m < us.length), eqS z us[m] = true ↔ zs[m]? = some z
  | [], _, .nil, m, h => absurd h (Nat.not_lt_zero _)
  | x :: zs, _, .cons r rest, 0, _ => by
    obtain ⟨k, rfl⟩ := r
    show (x == z) = true ↔ some x = some z
    rw [beq_iff_eq, Option.some_inj]
  | x :: zs, _, .cons r rest, m + 1, h => eqS_at rest m (Nat.lt_of_succ_lt_succ h)
theorem erase_mapS : ∀ (l : List Str) (j : Nat), (l.map V.str).eraseIdx j = (l.eraseIdx j).map V.str
  | [], j => by simp
  | a :: r, 0 => by simp
  | a :: r, j + 1 => by
    have ih := erase_mapS r j
    simp [ih]
section
variable {X : Cx}
def rRemS : V → List V → Hp → VK → Prop := fun x xs H Q => ∃ (l : Addr) (zs : List Str) (z : Str) (j : Nat), x = .ref l ∧ xs = [.str z] ∧ H l = some (.lst (zs.map V.str)) ∧ zs[j]? = some z ∧ (∀ m : Nat, m < j → zs[m]? ≠ some z) ∧ Q .non (upd H l (.lst ((zs.eraseIdx j).map V.str)))
theorem mt_removeS : MtM X "list.remove" rRemS := by
  intro pins s σ H x xs v us Q I rx rxs h
  obtain ⟨l, zs, z, j, rfl, rfl, hH, hj, hno, q⟩ := h
  cases rx
  obtain ⟨u, rfl, ru⟩ := rxs.one
  obtain ⟨t, rfl⟩ := ru
  obtain ⟨hz, its, n, r, hl, e⟩ := I.lstM hH
  rw [List.length_map] at hl hz
  have hjn : j < zs.length := (List.getElem?_eq_some_iff.mp hj).1
  have hjl : j < its.toArray.size := by rw [List.size_toArray]; omega
  refine call_meets PySem.F.slot_list_remove ⟨_, e, rfl⟩ PySem.F.entry_list_remove (PySem.F.args_list_remove_2 _ _)
    (MeetsSeq.list_remove l its.toArray n (.str z t) (eqS z) (fun y hy => eqS_gives r y (by simpa using hy)) j hjl ?_ ?_ (by rw [List.size_toArray]; omega)) ⟨e, ?_⟩
  · exact (eqS_at r j (by simpa using hjl)).mpr hj
  · intro m hm hmj
    cases c : eqS z its.toArray[m] with
    | false => rfl
    | true => exact absurd ((eqS_at r m (by simpa using hm)).mp c) (hno m hmj)
  · have rr := r.eraseIdx j
    rw [erase_mapS] at rr
    refine ⟨.non, _, I.lset (its' := its.eraseIdx j) (t' := s.toks) hH e ?_ rr ?_, rfl, q⟩
    · show its.toArray.eraseIdxIfInBounds j = (its.eraseIdx j).toArray
      rw [List.eraseIdxIfInBounds_toArray]
    · rw [List.length_map]
      have : (zs.eraseIdx j).length ≤ zs.length := by rw [List.length_eraseIdx]; split <;> omega
      omega
end
end L2
set_option maxRecDepth 100000
set_option maxHeartbeats 4000000
namespace Gx
open PySem PySem.Spec PyProof.Rows L2
theorem sqT_st {K : PySem.W.Frag} {H H' : Hp} {a : Addr} {xs : List V} (s : ∀ b o, H b = some o → H' b = some o) (h : SqT K H a xs) : SqT K H' a xs := by
  rcases h with (h | ⟨o, h⟩) | h
  · exact .inl (.inl (s _ _ h))
  · exact .inl (.inr ⟨o, s _ _ h⟩)
  · exact .inr h
theorem sqL_st {K : PySem.W.Frag} {H H' : Hp} {a : Addr} {xs : List V} (s : ∀ b o, H b = some o → H' b = some o) (h : SqL K H a xs) : SqL K H' a xs := by
  rcases h with (h | ⟨o, h⟩) | h
  · exact .inl (.inl (s _ _ h))
  · exact .inl (.inr ⟨o, s _ _ h⟩)
  · exact .inr h
mutual
theorem dp_st {K : PySem.W.Frag} {H H' : Hp} (s : ∀ b o, H b = some o → H' b = some o) : ∀ (d : PyData) (v : V), Dp K H v d → Dp K H' v d
  | .none, _, h => by cases h; exact .non
  | .bool _, _, h => by cases h; exact .bl _
  | .int _, _, h => by cases h; exact .int _
  | .str _, _, h => by cases h; exact .str _
  | .list ds, _, h => by
    cases h with
    | lst e r => exact .lst (sqL_st s e) (dpAll_st s ds _ r)
  | .tuple ds, _, h => by
    cases h with
    | tup e r => exact .tup (sqT_st s e) (dpAll_st s ds _ r)
  | .dict _, _, h => by cases h
theorem dpAll_st {K : PySem.W.Frag} {H H' : Hp} (s : ∀ b o, H b = some o → H' b = some o) : ∀ (ds : List PyData) (vs : List V), DpAll K H vs ds → DpAll K H' vs ds
  | [], _, h => by cases h; exact .nil
  | d :: ds, _, h => by
    cases h with
    | cons a r => exact .cons (dp_st s d _ a) (dpAll_st s ds _ r)
end
theorem _root_.L2.Dp.st {K : PySem.W.Frag} {H H' : Hp} {v : V} {d : PyData} (h : Dp K H v d) (s : ∀ b o, H b = some o → H' b = some o) : Dp K H' v d := dp_st s d v h
theorem _root_.L2.DpAll.st {K : PySem.W.Frag} {H H' : Hp} {vs : List V} {ds : List PyData} (h : DpAll K H vs ds) (s : ∀ b o, H b = some o → H' b = some o) : DpAll K H' vs ds := dpAll_st s ds vs h
end Gx
set_option maxRecDepth 100000
set_option maxHeartbeats 4000000
namespace Kl
open PySem PySem.Spec PyProof.Rows L2 Gx Mx
theorem cps_app' (a b : Str) : (a ++ b).cps.toList = a.cps.toList ++ b.cps.toList := by
  show (a.cps ++ b.cps).toList = _
  rw [Array.toList_append]
theorem sum_by {n : Nat} : ∀ {q : List Str}, (∀ z ∈ q, z.length ≤ n) → (q.map (·.length)).sum ≤ q.length * n
  | [], _ => Nat.zero_le _
  | a :: r, h => by
    have h1 := h a List.mem_cons_self
    have h2 := sum_by fun z hz => h z (List.mem_cons_of_mem _ hz)
    rw [List.map_cons, List.sum_cons, List.length_cons, Nat.add_mul]
    omega
theorem name_len {z : Str} (h : nameB z = true) : z.length ≤ 8 := by
  unfold nameB at h
  simp only [Bool.and_eq_true, decide_eq_true_eq] at h
  exact h.1.2
theorem low_no {z : Str} (h : nameB z = true) {c : Nat} (hc : c ∈ z.cps.toList) : 97 ≤ c ∧ c ≤ 122 := by
  unfold nameB at h
  rw [Bool.and_eq_true] at h
  have := List.all_eq_true.mp h.2 c hc
  exact of_decide_eq_true this
def goodM (m : Nat) (q : List Str) : Bool := decide (q.length ≤ m) && (q.all nameB && sortedS q)
def textD (q : List Str) : Str := if q = [] then "0" else Txt.join "+" q
theorem good_len {m : Nat} {q : List Str} (h : goodM m q = true) : q.length ≤ m := by
  unfold goodM at h
  rw [Bool.and_eq_true] at h
  exact of_decide_eq_true h.1
theorem good_names {m : Nat} {q : List Str} (h : goodM m q = true) : ∀ z ∈ q, nameB z = true := fun z hz => by
  unfold goodM at h
  rw [Bool.and_eq_true, Bool.and_eq_true] at h
  exact List.all_eq_true.mp h.2.1 z hz
theorem good_up {m n : Nat} {q : List Str} (h : goodM m q = true) (hn : m ≤ n) : goodM n q = true := by
  unfold goodM at h ⊢
  rw [Bool.and_eq_true] at h ⊢
  exact ⟨decide_eq_true (Nat.le_trans (of_decide_eq_true h.1) hn), h.2⟩
theorem split_names {q : List Str} (h : ∀ z ∈ q, nameB z = true) (hne : q ≠ []) : Txt.split (Txt.join "+" q) "+" = q :=
  TL.split_join (s := 43) (S := []) (by decide +kernel) (by decide +kernel) hne fun p hp hc => by
    have := low_no (h p hp) hc
    omega
theorem textD_no {q : List Str} (hn : ∀ z ∈ q, nameB z = true) (c : Nat) (hc : c ∈ (textD q).cps.toList) : c = 48 ∨ c = 43 ∨ (97 ≤ c ∧ c ≤ 122) := by
  unfold textD at hc
  split at hc
  · left
    have : ("0" : Str).cps.toList = [48] := by decide +kernel
    rw [this] at hc
    exact List.mem_singleton.mp hc
  · rename_i e
    rw [TL.join_eq] at hc
    clear e
    induction q with
    | nil => cases hc
    | cons a r ih =>
      cases r with
      | nil => exact .inr (.inr (low_no (hn a List.mem_cons_self) hc))
      | cons b r =>
        have hc : c ∈ (a ++ "+" ++ Str.join "+" (b :: r)).cps.toList := hc
        rw [cps_app', cps_app'] at hc
        rcases List.mem_append.mp hc with hc | hc
        · rcases List.mem_append.mp hc with hc | hc
          · exact .inr (.inr (low_no (hn a List.mem_cons_self) hc))
          · have : ("+" : Str).cps.toList = [43] := by decide +kernel
            rw [this] at hc
            exact .inr (.inl (List.mem_singleton.mp hc))
        · exact ih (fun z hz => hn z (List.mem_cons_of_mem _ hz)) hc
structure Pg where
  note : Str
  pool : List Str
  made : List Str
  after : Str
deriving DecidableEq
structure PgOk (g : Pg) : Prop where
  n : nameB g.note = true
  p : goodM 8 g.pool = true
  m : goodM 2 g.made = true
  a : nameB g.after = true
def wordsP (g : Pg) : List Str := ["page", g.note, textD g.pool, "to", textD g.made, "then", g.after]
end Kl
set_option maxRecDepth 100000
set_option maxHeartbeats 4000000
set_option maxRecDepth 100000
set_option maxHeartbeats 4000000
namespace Kl
open PySem PySem.Spec PyProof.Rows L2 Gx Mx
section
variable {P : Program} {w : World} {K : PySem.W.Frag} {mg : Str → Option Value} {base : Heap}
theorem flat_strs' (zs : List Str) : (zs.map V.str).all flatV = true := by
  rw [List.all_map]
  exact List.all_eq_true.mpr fun _ _ => rfl
theorem inV_strs (z : Str) (zs : List Str) : inV (.str z) (zs.map V.str) = decide (z ∈ zs) := by
  unfold inV
  rw [List.any_map]
  have e : (fun y => eqV y (V.str z)) ∘ V.str = fun y => decide (y = z) := by
    funext y
    show (y == z) = decide (y = z)
    by_cases h : y = z
    · subst h
      rw [decide_eq_true rfl]
      exact beq_self_eq_true y
    · rw [decide_eq_false h]
      exact beq_eq_false_iff_ne.mpr h
  rw [e, Bool.eq_iff_iff, List.any_eq_true, decide_eq_true_eq]
  constructor
  · rintro ⟨y, hy, q⟩
    rw [← of_decide_eq_true q]
    exact hy
  · intro h
    exact ⟨z, h, decide_eq_true rfl⟩
def spAre : Sp := fun vs H Q _ => ∃ (leaf : Str) (md : Addr) (kvs : List (Key × V)) (M : Mak), vs = [.str leaf, .ref md] ∧ H md = some (.dK kvs) ∧ MakAt H kvs M ∧ Vld leaf M ∧ ∀ H', Same H H' → Q (.bl true) H'
theorem all_true (n : Nat) : (List.replicate n true).all id = true := by
  induction n with
  | zero => rfl
  | succ n ih => rw [List.replicate_succ, List.all_cons, ih]; rfl
theorem rep_snoc (j : Nat) : (List.replicate j (V.bl true)) ++ [V.bl true] = List.replicate (j + 1) (V.bl true) := by
  rw [List.replicate_succ', ]
theorem rep_map (n : Nat) : List.replicate n (V.bl true) = (List.replicate n true).map V.bl := by rw [List.map_replicate]
abbrev NA : List Str := ["leaf", "makings", "names", "name", "part"]
theorem ok_are {f : Addr} {fd : FuncData} (F : Fun K "_are_kinds" "_are_kinds" s_are_kinds f fd) (T : Top K mg) : FnOk P w K mg base CX0 5 f fd ["leaf", "makings"] spAre := by
  obtain ⟨tm, gm⟩ := T.g_MAX_KINDS
  have cn : Cal P w K mg base 4 "is_name" ["value"] (spName K) := (T.d_is_name.cal fun f fd F => ok_name F T).mono (by decide)
  have cm : Cal P w K mg base 4 "_is_making" ["value"] (spMaking K) := T.d_is_making.cal fun f fd F => ok_making F T
  have ca : Cal P w K mg base 4 "_all_names" ["leaf", "makings"] spNames := (T.d_all_names.cal fun f fd F => ok_names F T).mono (by decide)
  refine F.ok sc_are_kinds (fun vs H Q E h => ?_) (fun cdv A outer s H vs Q E hr h => ?_)
  · obtain ⟨leaf, md, kvs, M, rfl, _⟩ := h
    rfl
  · obtain ⟨leaf, md, kvs, M, rfl, hd, hM, hV, q⟩ := h
    have hu := hu_of hr
    refine ⟨_, pss_cons (ps_if (PW.pt (pw_or (pt_not (pt_val (pe_cal cn hr (by rfl) (pa_cons (pv 0) pa_nil)))) (pw_or1 (pt_not (pt_val (pe_callB call_isi (by rfl) T.b_isinstance (by decide +kernel) (pa_cons (pv 1) (pa_cons (pe_bltn (v := .ty "dict") (by rfl) T.b_dict (by decide +kernel) rfl) pa_nil))))))))
          (pss_one (ps_ret pe_bl)) pss_nil)
      (pss_cons (ps_if (pt_not (pt_val (pe_callB (cr_all rfl) (by rfl) T.b_all (by decide +kernel) (pa_cons (pe_lock (pe_lc (own := [("name", 3)]) (g := gName 3) (tt := tYes) rfl sc_are_kinds.nd (pi_keys (pv 1))
            (blkOk_by (N := NA) (sc := defScope s_are_kinds) (by decide +kernel)) (fun _ _ _ _ _ => pg_name (i := 3) sc_are_kinds.nd rfl (.inl rfl)) (fun _ _ _ _ _ => pts_nil)
            (fun _ _ _ _ _ => pe_and (pe_cal cn hr (by rfl) (pa_cons (pv 3) pa_nil)) (pe_one (pe_cal cm hr (by rfl) (pa_cons (pe_dget hu (pv 1) (pv 3) (fun _ _ => rfl)) pa_nil)))))) pa_nil)))) (pss_one (ps_ret pe_bl)) pss_nil)
      (pss_cons (ps_set (i := 2) sc_are_kinds.nd rfl (.inr rfl) (pe_cal ca hr (by rfl) (pa_cons (pv 0) (pa_cons (pv 1) pa_nil))))
      (pss_cons (ps_if (pt_cmpR op_gt (pe_callB call_len_seq (by rfl) T.b_len PySem.boot_len (pa_cons (pv 2) pa_nil)) (pe_glob (v := .int 6) (by rfl) gm ⟨_, rfl⟩) (nomark _)) (pss_one (ps_ret pe_bl)) pss_nil)
      (pss_one (ps_ret (pe_callB (cr_all rfl) (by rfl) T.b_all (by decide +kernel) (pa_cons (pe_lock (pe_lc2 (own := [("name", 3), ("part", 4)]) (vs1 := [4]) (g := gName 3) (g1 := gName 4) (tt := tYes) (tt1 := tYes) rfl sc_are_kinds.nd (pi_keys (pv 1))
            (blkOk_by (N := NA) (sc := defScope s_are_kinds) (by decide +kernel)) (by decide) (fun _ _ _ _ _ => pg_name (i := 3) sc_are_kinds.nd rfl (.inl rfl)) (fun _ _ _ _ _ => pts_nil) (fun _ _ _ _ _ => pi_tupK (K := K) (by exact rfl) (pe_dget hu (pv 1) (pv 3) (fun _ _ => rfl)))
            (fun _ _ _ _ _ => pg_name (i := 4) sc_are_kinds.nd rfl (.inl rfl)) (fun _ _ _ _ _ => pts_nil)
            (fun _ _ _ _ _ => pe_cmpR (op_inSeqK (K := K) (by exact rfl)) (pv 4) (pv 2) (by rfl)))) pa_nil))))))), ?_⟩
    have lM := hV.len
    have lk := hM.len
    -- is_name(leaf), isinstance(makings, dict)
    refine ⟨_, rfl, .str leaf, rfl, .inl ⟨leaf, rfl, Nat.le_trans (pool_len hV.lf) (by decide)⟩, _, rfl, ?_⟩
    rw [show nameV (.str leaf) = true from pool_name hV.lf]
    refine ⟨_, rfl, _, .ty "dict", .type "dict", .type "dict", true, rfl, .ty _, .base (.dK hd), kit_ty (by decide +kernel), true, rfl, ?_⟩
    -- all([..])
    refine ⟨md, _, hd, trivial, fun od => ?_⟩
    have dM : ∀ {j : Nat} {m : Str × List Str}, M[j]? = some m → ∀ {H2 : Hp}, Same (upd H md (.frz od (.dK kvs))) H2 → ∃ a, DGet H2 md (.str m.1) (some (.ref a)) ∧ TupZ H2 a (m.2.map V.str) := by
      intro j m hj H2 s2
      obtain ⟨ps, a, e1, e2, e3⟩ := hM.key (z := m.1) (List.mem_map.mpr ⟨m, List.mem_of_getElem? hj, rfl⟩)
      rw [lookM_mem hV.nd (List.mem_of_getElem? hj)] at e1
      cases e1
      have na : a ≠ md := e3.ne hd (fun _ => nofun)
      refine ⟨a, .inl ⟨kvs, Sum.inr m.1, .inr ⟨od, s2 _ _ upd_same⟩, rfl, e2.symm⟩, (e3.at fun o e => by rw [upd_ne na]; exact e).mono s2⟩
    refine ⟨_, rfl, md, od, rfl, .inl ⟨kvs, upd_same, fun D hD => ?_⟩⟩
    refine lc_it walk_keys (fun j H2 => H2 D = some (.lst (List.replicate j (V.bl true))) ∧ Same (upd H md (.frz od (.dK kvs))) H2) ⟨upd_same, fun b u e => by rw [upd_ne (ne_of_none e hD)]; exact e⟩ (fun j H2 _ hP => hP.2 _ _ upd_same) (fun j x H2 H2' hj hP hy => ?_) (fun H2 hP => ?_)
    · obtain ⟨eD, sm⟩ := hP
      obtain ⟨rfl, k, v, hkv, rfl⟩ := hy
      obtain ⟨m, a, hm, rfl, rfl, _⟩ := hM.at hkv
      have hmM := List.mem_of_getElem? hm
      obtain ⟨p1, p2, p3, p4⟩ := hV.parts m hmM
      obtain ⟨a', hg, ha⟩ := dM hm sm
      have hpool : m.1 ∈ POOL := hV.keys _ (List.mem_map.mpr ⟨m, hmM, rfl⟩)
      refine ⟨rfl, _, rfl, .str m.1, rfl, .inl ⟨m.1, rfl, Nat.le_trans (pool_len hpool) (by decide)⟩, _, rfl, ?_⟩
      rw [show nameV (.str m.1) = true from pool_name hpool]
      refine ⟨_, rfl, _, rfl, md, _, rfl, hg, a', m.2, rfl, ha, List.all_eq_true.mpr fun z hz => pool_name (hV.part hmM hz), p1, p2, p3, fun z hz => Nat.le_trans (pool_len (hV.part hmM hz)) (by decide), fun H3 s3 => ?_⟩
      refine ⟨_, s3 _ _ eD, ?_, ?_, fun b u e => by rw [upd_ne (ne_of_none e hD)]; exact s3 _ _ (sm b u e)⟩
      · rw [List.length_replicate]
        exact Nat.lt_of_le_of_lt (show j ≤ 6 by omega) (by decide)
      · rw [upd_same, rep_snoc]
    obtain ⟨eD, sm⟩ := hP
    have s1 := same_unlock hd sm
    refine ⟨sm _ _ upd_same, D, List.replicate kvs.length true, rfl, .inl (.inl ?_), _, rfl, ?_⟩
    · have nD : D ≠ md := fun z => by
        rw [z, upd_same] at hD
        cases hD
      rw [upd_ne nD, eD, rep_map]
    rw [all_true]
    generalize upd H2 md (.dK kvs) = H3 at s1
    have hd3 := s1 _ _ hd
    have hM3 : MakAt H3 kvs M := hM.same fun a xs e => e.mono s1
    -- names
    refine ⟨_, rfl, _, rfl, leaf, md, kvs, keysOf M, rfl, hd3, hM3.keys, by unfold keysOf; rw [List.length_map]; omega, fun ns p H4 hns s4 np hp => ?_⟩
    refine ⟨_, rfl, p, _, rfl, .inr (.inl (.inl hp)), _, _, rfl, rfl, _, rfl, ?_⟩
    have few : ns.length ≤ 6 := hV.few ns hns.nd fun z hz => (hns.mem z).mp hz
    refine ite2 (fun e => ?_) (fun _ => ?_)
    · exfalso
      have e := of_decide_eq_true e
      rw [List.length_map] at e
      omega
    have hd4 := s4 _ _ hd3
    have hM4 : MakAt H4 kvs M := hM3.same fun a xs e => e.mono s4
    have s14 : Same H H4 := fun b u e => s4 _ _ (s1 _ _ e)
    clear hd hM hd3 hM3 s1 s4 hD eD sm dM
    refine ⟨md, _, hd4, trivial, fun od => ?_⟩
    have npm : p ≠ md := fun z => by
      rw [z, hd4] at hp
      cases hp
    refine ⟨_, rfl, md, od, rfl, .inl ⟨kvs, upd_same, fun D hD => ?_⟩⟩
    refine walk_in walk_keys (fun j H2 => ∃ n, H2 D = some (.lst (List.replicate n (V.bl true))) ∧ n ≤ 3 * j ∧ Same (upd H4 md (.frz od (.dK kvs))) H2) ⟨0, upd_same, Nat.zero_le _, fun b u e => by rw [upd_ne (ne_of_none e hD)]; exact e⟩ (fun j H2 _ hP => by obtain ⟨_, _, _, s5⟩ := hP; exact s5 _ _ upd_same) (fun j x H2 H2' hj hP hy => ?_) (fun H2 hP => ?_)
    · obtain ⟨n, eD, ln, sm⟩ := hP
      obtain ⟨rfl, k, v, hkv, rfl⟩ := hy
      obtain ⟨m, a, hm, rfl, rfl, ha⟩ := hM4.at hkv
      have hmM := List.mem_of_getElem? hm
      obtain ⟨p1, p2, p3, p4⟩ := hV.parts m hmM
      have na : a ≠ md := ha.ne hd4 (fun _ => nofun)
      have ha1 : TupZ (upd H4 md (.frz od (.dK kvs))) a (m.2.map V.str) := ha.at fun o e => by rw [upd_ne na]; exact e
      have hv : valV kvs (Sum.inr m.1) = some (.ref a) := by
        obtain ⟨ps, a', e1, e2, e3⟩ := hM4.key (z := m.1) (List.mem_map.mpr ⟨m, hmM, rfl⟩)
        have e4 : (kvs.map (·.1)).Nodup := by
          rw [hM4.keys]
          exact List.Pairwise.map Sum.inr (fun a b h q => h (Sum.inr.inj q)) hV.nd
        have e5 := val_nodup e4 (Sum.inr m.1, .ref a) (List.mem_of_getElem? hkv)
        exact e5
      refine ⟨rfl, ?_⟩
      refine ⟨_, rfl, _, rfl, md, .ref a, rfl, .inl ⟨kvs, Sum.inr m.1, .inr ⟨od, sm _ _ upd_same⟩, rfl, hv.symm⟩, a, rfl, ⟨_, (ha1.mono sm).sq⟩, ?_⟩
      refine walk_in (walk_tup (K := K) (a := a) (xs := m.2.map V.str)) (fun i H3 => H3 D = some (.lst (List.replicate (n + i) (V.bl true))) ∧ Same (upd H4 md (.frz od (.dK kvs))) H3) ⟨eD, sm⟩ (fun i H3 _ hP => (ha1.mono hP.2).sq) (fun i x H3 H3' hi hP hy => ?_) (fun H3 hP => ?_)
      · obtain ⟨eD3, sm3⟩ := hP
        obtain ⟨rfl, hx⟩ := hy
        obtain ⟨z, hz, rfl⟩ : ∃ z, m.2[i]? = some z ∧ V.str z = x := by
          rw [List.getElem?_map] at hx
          cases e : m.2[i]? with
          | none => rw [e] at hx; cases hx
          | some z => rw [e] at hx; exact ⟨z, rfl, by cases hx; rfl⟩
        have hin : z ∈ ns := (hns.mem z).mpr (p4 z (List.mem_of_getElem? hz))
        refine ⟨rfl, _, rfl, _, rfl, p, ns.map V.str, rfl, .inr (.inl (.inl (sm3 _ _ (by rw [upd_ne npm]; exact hp)))), rfl, flat_strs' ns, ?_⟩
        show ∃ acc, _
        rw [List.length_map] at hi
        refine ⟨_, eD3, ?_, ?_, fun b u e => by rw [upd_ne (ne_of_none e hD)]; exact sm3 b u e⟩
        · rw [List.length_replicate]
          exact Nat.lt_of_le_of_lt (show n + i ≤ 100 by omega) (by decide)
        · rw [upd_same]
          have e : inV (V.str z) (ns.map V.str) = true := by rw [inV_strs, decide_eq_true hin]
          simp only [e, Bool.false_eq_true, if_false]
          rw [rep_snoc, Nat.add_assoc]
      · obtain ⟨eD3, sm3⟩ := hP
        rw [List.length_map] at eD3
        exact ⟨_, eD3, by omega, sm3⟩
    · obtain ⟨n, eD, ln, sm⟩ := hP
      have s1 := same_unlock hd4 sm
      refine ⟨sm _ _ upd_same, D, List.replicate n true, rfl, .inl (.inl ?_), ?_⟩
      · have nD : D ≠ md := fun z => by
          rw [z, upd_same] at hD
          cases hD
        rw [upd_ne nD, eD, rep_map]
      rw [all_true]
      exact q _ fun b u e => s1 _ _ (s14 _ _ e)
end
end Kl
set_option maxRecDepth 100000
set_option maxHeartbeats 4000000
namespace Kl
open PySem PySem.Spec PyProof.Rows L2 Gx Mx
section
variable {P : Program} {w : World} {K : PySem.W.Frag} {mg : Str → Option Value} {base : Heap}
theorem kLM : ("_leaf" : Str) ≠ "_makings" := by decide +kernel
theorem kLN : ("_leaf" : Str) ≠ "_names" := by decide +kernel
theorem kMN : ("_makings" : Str) ≠ "_names" := by decide +kernel
theorem putF_app {k : Str} {v : V} : ∀ fs : List (Str × V), (∀ p ∈ fs, p.1 ≠ k) → putF k v fs = fs ++ [(k, v)]
  | [], _ => rfl
  | p :: fs, h => by
    have ih := putF_app (v := v) fs fun q hq => h q (List.mem_cons_of_mem _ hq)
    obtain ⟨a, b⟩ := p
    show (if a = k then (a, v) :: fs else (a, b) :: putF k v fs) = _
    rw [if_neg (h (a, b) List.mem_cons_self), ih]
    rfl
theorem same_new {H H1 : Hp} {p : Addr} {o : HO} (s : Same H H1) (n : H1 p = none) : Same H (upd H1 p o) := fun b u e => by
  rw [upd_ne (ne_of_none (s b u e) n)]
  exact s b u e
theorem at_texts {zs : List Str} {j : Nat} {x : V} (hj : (zs.map V.str)[j]? = some x) : ∃ z, zs[j]? = some z ∧ V.str z = x := by
  rw [List.getElem?_map] at hj
  cases e : zs[j]? with
  | none => rw [e] at hj; cases hj
  | some z => rw [e] at hj; exact ⟨z, rfl, by cases hj; rfl⟩
/-- the pairs of a dict, for some of its keys -/
def pairsOf' (kvs : List (Key × V)) (ys : List Str) : List (Key × V) := ys.map fun z => (Sum.inr z, (valV kvs (Sum.inr z)).getD .non)
theorem pairs_none {kvs : List (Key × V)} {ys : List Str} {z : Str} (h : z ∉ ys) : valV (pairsOf' kvs ys) (Sum.inr z) = none := by
  induction ys with
  | nil => rfl
  | cons y ys ih =>
    rw [List.mem_cons, not_or] at h
    show valV ((Sum.inr y, _) :: pairsOf' kvs ys) (Sum.inr z) = none
    rw [valV_neg (fun q => h.1 (Sum.inr.inj q).symm)]
    exact ih h.2
theorem mak_pairs {H : Hp} {kvs : List (Key × V)} {M : Mak} (h : MakAt H kvs M) : ∀ {ys : List Str}, (∀ z ∈ ys, z ∈ keysOf M) → MakAt H (pairsOf' kvs ys) (ys.map fun z => (z, (lookM M z).getD []))
  | [], _ => .nil
  | y :: ys, hy => by
    obtain ⟨ps, a, e1, e2, e3⟩ := h.key (hy y List.mem_cons_self)
    refine .cons ⟨rfl, a, ?_, ?_⟩ (mak_pairs h fun z hz => hy z (List.mem_cons_of_mem _ hz))
    · show (valV kvs (Sum.inr y)).getD .non = .ref a
      rw [e2]
      rfl
    · show TupZ H a (((lookM M y).getD []).map V.str)
      rw [e1]
      exact e3
def spInit (C : Addr) : Sp := fun vs H Q _ => ∃ (x dx : Addr) (leaf : Str) (pd : Addr) (kvs : List (Key × V)) (M : Mak), vs = [.ref x, .str leaf, .ref pd] ∧ H x = some (.ins C dx []) ∧ H pd = some (.dK kvs) ∧ MakAt H kvs M ∧ Vld leaf M ∧
  ∀ (H' : Hp) (md : Addr) (M' : Mak) (ns : List Str), KindsAt C H' x md leaf M' ns → OrdOf M M' → IsNames leaf (keysOf M) ns → H md = none → (∀ b o, b ≠ x → H b = some o → H' b = some o) → Q .non H'
abbrev NI : List Str := ["self", "leaf", "makings", "name"]
theorem ok_init {C f : Addr} {fd : FuncData} (F : Fun K "__init__" "Kinds.__init__" s_Kinds_init f fd) (T : Top K mg) (TC : Cl_Kinds K mg C) : FnOk P w K mg base CX0 6 f fd ["self", "leaf", "makings"] (spInit C) := by
  have ca : Cal P w K mg base 5 "_are_kinds" ["leaf", "makings"] spAre := T.d_are_kinds.cal fun f fd F => ok_are F T
  have cn : Cal P w K mg base 5 "_all_names" ["leaf", "makings"] spNames := (T.d_all_names.cal fun f fd F => ok_names F T).mono (by decide)
  refine F.ok sc_Kinds_init (fun vs H Q E h => ?_) (fun cdv A outer s H vs Q E hr h => ?_)
  · obtain ⟨x, dx, leaf, pd, kvs, M, rfl, _⟩ := h
    rfl
  · obtain ⟨x, dx, leaf, pd, kvs, M, rfl, hx, hd, hM, hV, q⟩ := h
    have hu := hu_of hr
    refine ⟨_, pss_cons (ps_if (pt_not (pt_val (pe_cal ca hr (by rfl) (pa_cons (pv 1) (pa_cons (pv 2) pa_nil))))) (pss_one ps_never) pss_nil)
      (pss_cons (ps_fld (pv 0) (pv 1) rfl)
      (pss_cons (ps_fld (pv 0) (pe_dc (own := [("name", 3)]) (g := gName 3) (tt := tYes) rfl sc_Kinds_init.nd (pi_list (pe_callB (call_sortedD rfl) (by rfl) T.b_sorted (by decide +kernel) (pa_cons (pv 2) pa_nil)))
          (blkOk_by (N := NI) (sc := defScope s_Kinds_init) (by decide +kernel)) (fun _ _ _ _ _ => pg_name (i := 3) sc_Kinds_init.nd rfl (.inl rfl)) (fun _ _ _ _ _ => pts_nil) (fun _ _ _ _ _ => pv 3) (fun _ _ _ _ _ => pe_dget hu (pv 2) (pv 3) (fun _ _ => rfl))) rfl)
      (pss_one (ps_fld (pv 0) (pe_cal cn hr (by rfl) (pa_cons (pv 1) (pa_cons (pv 2) pa_nil))) rfl)))), ?_⟩
    have lM := hV.len
    have lk := hM.len
    refine ⟨_, rfl, _, rfl, leaf, pd, kvs, M, rfl, hd, hM, hV, fun H1 s1 => ⟨_, rfl, ?_⟩⟩
    -- self._leaf = leaf
    have hx1 := s1 _ _ hx
    refine ⟨_, rfl, _, rfl, x, C, dx, [], rfl, hx1, TC.cl, TC.n_leaf, by decide, ?_⟩
    have npx : pd ≠ x := fun z => by
      rw [z, hx] at hd
      cases hd
    have tupx : ∀ {H2 : Hp}, (∀ b o, b ≠ x → H b = some o → H2 b = some o) → MakAt H2 kvs M := fun {H2} s2 => hM.same fun a xs e => e.at fun o => s2 _ _ (e.ne hx (fun _ => nofun))
    have k1 : ∀ b o, b ≠ x → H b = some o → (upd H1 x (.ins C dx (putF "_leaf" (.str leaf) []))) b = some o := fun b o n e => by
      rw [upd_ne n]
      exact s1 b o e
    have x1 : (upd H1 x (.ins C dx (putF "_leaf" (.str leaf) []))) x = some (.ins C dx [("_leaf", .str leaf)]) := by
      rw [upd_same]
      rfl
    have f1 : ∀ b, (upd H1 x (.ins C dx (putF "_leaf" (.str leaf) []))) b = none → H b = none := fun b e => by
      have n : b ≠ x := fun z => by
        rw [z, upd_same] at e
        cases e
      rw [upd_ne n] at e
      exact s1.free e
    generalize upd H1 x (.ins C dx (putF "_leaf" (.str leaf) [])) = H2 at k1 x1 f1
    clear s1 hx1
    have hd2 := k1 _ _ npx hd
    have hM2 := tupx k1
    -- self._makings
    refine ⟨_, rfl, pd, kvs, keysOf M, rfl, .inl hd2, hM.keys, by unfold keysOf; rw [List.length_map]; omega, fun ys p hperm hsrt np => ?_⟩
    have nd : (keysOf M).Nodup := hV.nd
    have ndY : ys.Nodup := hperm.nodup_iff.mpr nd
    have lY : ys.length ≤ 6 := by
      rw [hperm.length_eq]
      unfold keysOf
      rw [List.length_map]
      exact lM
    refine ⟨p, rfl, ⟨_, .inl (.inl upd_same)⟩, fun D hD => ?_⟩
    have s2 : Same H2 (upd H2 p (.lst (ys.map V.str))) := same_new (Same.refl H2) np
    refine walk_in (walk_list (K := K) (a := p) (xs := ys.map V.str)) (fun j G => G D = some (.dK (pairsOf' kvs (ys.take j))) ∧ Same (upd H2 p (.lst (ys.map V.str))) G) ⟨upd_same, same_new (Same.refl _) hD⟩ (fun j G _ hP => .inl (.inl (hP.2 _ _ upd_same))) (fun j v G G' hj hP hy => ?_) (fun G hP => ?_)
    · obtain ⟨eD, sm⟩ := hP
      obtain ⟨rfl, hv⟩ := hy
      obtain ⟨z, hz, rfl⟩ := at_texts hv
      have hzM : z ∈ keysOf M := hperm.mem_iff.mp (List.mem_of_getElem? hz)
      obtain ⟨ps, a, e1, e2, e3⟩ := hM2.key hzM
      refine ⟨rfl, _, rfl, _, rfl, _, rfl, pd, .ref a, rfl, .inl ⟨kvs, Sum.inr z, .inl (sm _ _ (s2 _ _ hd2)), rfl, e2.symm⟩, pairsOf' kvs (ys.take j), Sum.inr z, rfl, eD, ?_, ?_, fun b u e => by rw [upd_ne (ne_of_none e hD)]; exact sm b u e⟩
      · unfold pairsOf'
        rw [List.length_map, List.length_take]
        exact Nat.lt_of_le_of_lt (Nat.le_trans (Nat.min_le_right _ _) lY) (by decide)
      · have hnot : z ∉ ys.take j := by
          intro hin
          obtain ⟨i, hi⟩ := List.mem_iff_getElem?.mp hin
          rw [List.getElem?_take] at hi
          by_cases c : i < j
          · rw [if_pos c] at hi
            have h1 := (List.getElem?_eq_some_iff.mp hi)
            have h2 := (List.getElem?_eq_some_iff.mp hz)
            have h3 := (List.getElem_inj (h₀ := h1.1) (h₁ := h2.1) ndY).mp (h1.2.trans h2.2.symm)
            omega
          · rw [if_neg c] at hi
            cases hi
        rw [upd_same, putK_new _ (pairs_none hnot), List.take_add_one, hz]
        unfold pairsOf'
        rw [List.map_append]
        show some (HO.dK (_ ++ [(Sum.inr z, V.ref a)])) = some (HO.dK (_ ++ [(Sum.inr z, (valV kvs (Sum.inr z)).getD .non)]))
        rw [e2]
        rfl
    obtain ⟨eD, sm⟩ := hP
    rw [List.length_map, List.take_length] at eD
    have s3 : Same H2 G := fun b u e => sm _ _ (s2 _ _ e)
    have fD : H2 D = none := s2.free hD
    have hx3 := s3 _ _ x1
    have nDx : D ≠ x := fun z => by
      rw [z, x1] at fD
      cases fD
    refine ⟨_, rfl, x, C, dx, _, rfl, hx3, TC.cl, TC.n_makings, by show 1 < 1000; decide, ?_⟩
    have e4 : putF "_makings" (.ref D) [("_leaf", .str leaf)] = [(("_leaf" : Str), V.str leaf), ("_makings", .ref D)] := putF_app _ fun p hp => by
      simp only [List.mem_cons, List.not_mem_nil, or_false] at hp
      subst hp
      exact kLM
    rw [e4]
    have k3 : ∀ b o, b ≠ x → H b = some o → (upd G x (.ins C dx [("_leaf", .str leaf), ("_makings", .ref D)])) b = some o := fun b o n e => by
      rw [upd_ne n]
      exact s3 _ _ (k1 b o n e)
    have x3 : (upd G x (.ins C dx [("_leaf", .str leaf), ("_makings", .ref D)])) x = some (.ins C dx [("_leaf", .str leaf), ("_makings", .ref D)]) := upd_same
    have d3 : (upd G x (.ins C dx [("_leaf", .str leaf), ("_makings", .ref D)])) D = some (.dK (pairsOf' kvs ys)) := by
      rw [upd_ne nDx]
      exact eD
    generalize upd G x (.ins C dx [("_leaf", .str leaf), ("_makings", .ref D)]) = H3 at k3 x3 d3
    clear sm eD s3 hx3 s2 x1 hM2 hd2
    have hM3 := tupx k3
    -- self._names
    refine ⟨_, rfl, _, rfl, leaf, pd, kvs, keysOf M, rfl, k3 _ _ npx hd, hM3.keys, by unfold keysOf; rw [List.length_map]; omega, fun ns t H4 hns s4 nt ht => ?_⟩
    refine ⟨_, rfl, x, C, dx, _, rfl, s4 _ _ x3, TC.cl, TC.n_names, by show 2 < 1000; decide, ?_⟩
    have e5 : putF "_names" (.ref t) [("_leaf", .str leaf), ("_makings", .ref D)] = [(("_leaf" : Str), V.str leaf), ("_makings", .ref D), ("_names", .ref t)] := putF_app _ fun p hp => by
      simp only [List.mem_cons, List.not_mem_nil, or_false] at hp
      rcases hp with rfl | rfl
      · exact kLN
      · exact kMN
    rw [e5]
    have k4 : ∀ b o, b ≠ x → H b = some o → (upd H4 x (.ins C dx [("_leaf", .str leaf), ("_makings", .ref D), ("_names", .ref t)])) b = some o := fun b o n e => by
      rw [upd_ne n]
      exact s4 _ _ (k3 b o n e)
    have ntx : t ≠ x := fun z => by
      rw [z, x3] at nt
      cases nt
    refine q _ D (ys.map fun z => (z, (lookM M z).getD [])) ns ⟨dx, t, pairsOf' kvs ys, upd_same, ?_, mak_pairs (tupx k4) fun z hz => hperm.mem_iff.mp hz, ?_⟩ (OrdOf.mk' hsrt hperm nd) hns (f1 _ fD) k4
    · rw [upd_ne nDx]
      exact s4 _ _ d3
    · rw [upd_ne ntx]
      exact ht
end
end Kl
set_option maxRecDepth 100000
set_option maxHeartbeats 4000000
namespace Kl
open PySem PySem.Spec PyProof.Rows L2 Gx Mx
theorem goodM_int (m : Nat) (q : List Str) : (decide ((q.length : Int) ≤ (m : Int)) && (q.all nameB && sortedS q)) = goodM m q := by
  unfold goodM
  rw [show decide (((q.length : Nat) : Int) ≤ (m : Int)) = decide (q.length ≤ m) by rw [decide_eq_decide]; omega]
end Kl
set_option maxRecDepth 100000
set_option maxHeartbeats 4000000
namespace Gx
open PySem PySem.Spec PyProof.Rows L2
section
variable {X : Cx} {K : PySem.W.Frag} {e o : Expr} {f : Str} {te to : TE} {pos apos : Pos}
theorem pe_fldK (hk : X.K = K) (he : PE X e te) (hb : attributeBase e f X.env (eval e X.env) = eval e X.env := by rfl) : PE X (.Attribute e f pos) (tFld K te f) := by
  subst hk
  exact pe_fld he hb
/-- sep.join(xs) -/
def rJoin (K : PySem.W.Frag) : V → List V → Hp → VK → Prop := fun x xs H Q => ∃ a p, ∃ ys : List Str, x = .str a ∧ xs = [.ref p] ∧ (SqL K H p (ys.map V.str) ∨ SqT K H p (ys.map V.str)) ∧ (ys.map (·.length)).sum + ys.length * a.length ≤ 16777216 ∧ Q (.str (Txt.join a ys)) H
theorem pe_joinK (hk : X.K = K) (ho : PE X o to) (he : PE X e te) (hs : starEach [e] X.env = [(false, eval e X.env)] := by rfl) (hbase : attributeBase o "join" X.env (eval o X.env) = eval o X.env := by rfl) (hline : (apos.endLine == pos.line) = true := by rfl) :
    PE X (.Call (.Attribute o "join" apos) [e] [] pos) (tM1 (rJoin K) to te) := by
  subst hk
  exact pe_join ho he hs hbase hline
end
end Gx
namespace Kl
open PySem PySem.Spec PyProof.Rows L2 Gx Mx
section
variable {P : Program} {w : World} {K : PySem.W.Frag} {mg : Str → Option Value} {base : Heap}
abbrev kf (leaf : Str) (md nt : Addr) : List (Str × V) := [("_leaf", .str leaf), ("_makings", .ref md), ("_names", .ref nt)]
theorem kf_mak (leaf : Str) (md nt : Addr) : List.lookup ("_makings" : Str) (kf leaf md nt) = some (.ref md) := by
  have h : (("_makings" : Str) == "_leaf") = false := beq_eq_false_iff_ne.mpr (Ne.symm kLM)
  simp [List.lookup, h]
theorem kf_names (leaf : Str) (md nt : Addr) : List.lookup ("_names" : Str) (kf leaf md nt) = some (.ref nt) := by
  have h : (("_names" : Str) == "_leaf") = false := beq_eq_false_iff_ne.mpr (Ne.symm kLN)
  have h2 : (("_names" : Str) == "_makings") = false := beq_eq_false_iff_ne.mpr (Ne.symm kMN)
  simp [List.lookup, h, h2]
end
end Kl
set_option maxRecDepth 100000
set_option maxHeartbeats 4000000
namespace Kl
open PySem PySem.Spec PyProof.Rows L2 Gx Mx
abbrev pf (n : Str) (pp mp : Addr) (a : Str) : List (Str × V) := [("_note", .str n), ("_pool", .ref pp), ("_made", .ref mp), ("_after", .str a)]
theorem pf_note (n : Str) (pp mp : Addr) (a : Str) : List.lookup ("_note" : Str) (pf n pp mp a) = some (.str n) := by simp [List.lookup]
theorem pf_pool (n : Str) (pp mp : Addr) (a : Str) : List.lookup ("_pool" : Str) (pf n pp mp a) = some (.ref pp) := by
  have h : (("_pool" : Str) == "_note") = false := by decide +kernel
  simp [List.lookup, h]
theorem pf_made (n : Str) (pp mp : Addr) (a : Str) : List.lookup ("_made" : Str) (pf n pp mp a) = some (.ref mp) := by
  have h : (("_made" : Str) == "_note") = false := by decide +kernel
  have h2 : (("_made" : Str) == "_pool") = false := by decide +kernel
  simp [List.lookup, h, h2]
theorem pf_after (n : Str) (pp mp : Addr) (a : Str) : List.lookup ("_after" : Str) (pf n pp mp a) = some (.str a) := by
  have h : (("_after" : Str) == "_note") = false := by decide +kernel
  have h2 : (("_after" : Str) == "_pool") = false := by decide +kernel
  have h3 : (("_after" : Str) == "_made") = false := by decide +kernel
  simp [List.lookup, h, h2, h3]
/-- a page stands at x -/
def PageAt (K : PySem.W.Frag) (C : Addr) (H : Hp) (x : Addr) (g : Pg) : Prop :=
  ∃ dx pp mp, H x = some (.ins C dx (pf g.note pp mp g.after)) ∧ SqT K H pp (g.pool.map V.str) ∧ SqT K H mp (g.made.map V.str)
theorem PageAt.same {K : PySem.W.Frag} {C x : Addr} {H H' : Hp} {g : Pg} (h : PageAt K C H x g) (s : Same H H') : PageAt K C H' x g := by
  obtain ⟨dx, pp, mp, a, b, c⟩ := h
  exact ⟨dx, pp, mp, s _ _ a, sqT_st s b, sqT_st s c⟩
theorem name_arg {K : PySem.W.Frag} {H : Hp} {z : Str} (h : z.length ≤ 1000) : NameArg K H (.str z) := .inl ⟨z, rfl, Nat.le_trans h (by decide)⟩
theorem tyx_sqT {K : PySem.W.Frag} {H : Hp} {p : Addr} {xs : List V} (h : SqT K H p xs) : TyX K H (.ref p) (.type "tuple") := by
  rcases h with (h | ⟨o, h⟩) | ⟨o, its, n, h, c, _⟩
  · exact .base (.tup h)
  · exact .fTuple h
  · exact .kTuple h c
theorem pf_2 (a p : V) : putF ("_pool" : Str) p [("_note", a)] = ([("_note", a), ("_pool", p)] : List (Str × V)) := putF_app _ fun q hq => by
  rw [List.mem_singleton.mp hq]
  show ("_note" : Str) ≠ "_pool"
  decide +kernel
theorem pf_3 (a p m : V) : putF ("_made" : Str) m [("_note", a), ("_pool", p)] = ([("_note", a), ("_pool", p), ("_made", m)] : List (Str × V)) := putF_app _ fun q hq => by
  rcases List.mem_cons.mp hq with rfl | hq
  · show ("_note" : Str) ≠ "_made"
    decide +kernel
  · rw [List.mem_singleton.mp hq]
    show ("_pool" : Str) ≠ "_made"
    decide +kernel
theorem pf_4 (a p m b : V) : putF ("_after" : Str) b [("_note", a), ("_pool", p), ("_made", m)] = ([("_note", a), ("_pool", p), ("_made", m), ("_after", b)] : List (Str × V)) := putF_app _ fun q hq => by
  rcases List.mem_cons.mp hq with rfl | hq
  · show ("_note" : Str) ≠ "_after"
    decide +kernel
  rcases List.mem_cons.mp hq with rfl | hq
  · show ("_pool" : Str) ≠ "_after"
    decide +kernel
  · rw [List.mem_singleton.mp hq]
    show ("_made" : Str) ≠ "_after"
    decide +kernel
section
variable {P : Program} {w : World} {K : PySem.W.Frag} {mg : Str → Option Value} {base : Heap}
def spPlace (K : PySem.W.Frag) : Sp := fun vs H Q _ => ∃ (t pp : Addr) (n : Str) (p : List Str), vs = [.ref t] ∧ SqT K H t [.str n, .ref pp] ∧ TyX K H (.ref t) (.type "tuple") ∧ nameB n = true ∧ SqT K H pp (p.map V.str) ∧ goodM 8 p = true ∧ ∀ H', Same H H' → Q (.bl true) H'
theorem ok_place {f : Addr} {fd : FuncData} (F : Fun K "_is_place" "_is_place" s_is_place f fd) (T : Top K mg) : FnOk P w K mg base CX0 4 f fd ["value"] (spPlace K) := by
  obtain ⟨tm, gm⟩ := T.g_MAX_POOL
  have cn : Cal P w K mg base 3 "is_name" ["value"] (spName K) := (T.d_is_name.cal fun f fd F => ok_name F T).mono (by decide)
  have cs : CalO P w K mg base 3 "is_sorted" ["value", "most"] 1 ["most"] (fun vs zs => vs ++ zs) (spSorted K) := T.d_is_sorted.calO fun f fd F => ok_sorted F T
  refine F.ok sc_is_place (fun vs H Q E h => ?_) (fun cdv A outer s H vs Q E hr h => ?_)
  · obtain ⟨t, pp, n, p, rfl, _⟩ := h
    rfl
  · obtain ⟨t, pp, n, p, rfl, ht, ty, hn, hp, hg, q⟩ := h
    refine ⟨_, pss_one (ps_ret (pe_and (pe_callB call_isi (by rfl) T.b_isinstance (by decide +kernel) (pa_cons (pv 0) (pa_cons (pe_bltn (v := .ty "tuple") (by rfl) T.b_tuple (by decide +kernel) rfl) pa_nil)))
      (pe_and (pe_cmpR op_eq (pe_callB call_len_seq (by rfl) T.b_len PySem.boot_len (pa_cons (pv 0) pa_nil)) pe_int (nomark _))
      (pe_and (pe_cal cn hr (by rfl) (pa_cons (pe_ix ix_tup (pv 0) pe_int (fun _ _ => rfl)) pa_nil))
        (pe_one (pe_calO cs hr (by rfl) (pa_cons (pe_ix ix_tup (pv 0) pe_int (fun _ _ => rfl)) pa_nil) (pk_cons (pe_glob (v := .int 8) (by rfl) gm ⟨_, rfl⟩) pk_nil))))))), ?_⟩
    refine ⟨_, rfl, _, .ty "tuple", .type "tuple", .type "tuple", true, rfl, .ty _, ty, kit_ty (by decide +kernel), true, rfl, ?_⟩
    rw [if_pos rfl]
    refine ⟨_, rfl, t, _, rfl, .inr ht, rfl, _, rfl, ?_⟩
    show (if decide (V.int 2 = V.int 2) = true then _ else _)
    rw [decide_eq_true rfl, if_pos rfl]
    refine ⟨_, rfl, t, _, _, .str n, rfl, rfl, ht, rfl, .str n, rfl, name_arg (Nat.le_trans (name_len hn) (by decide)), _, rfl, ?_⟩
    show (if nameB n = true then _ else _)
    rw [if_pos hn]
    refine ⟨_, rfl, t, _, _, .ref pp, rfl, rfl, ht, rfl, rfl, rfl, pp, p, 8, rfl, hp, tyx_sqT hp, by decide, by decide, Nat.le_trans (good_len hg) (by decide), fun z hz => Nat.le_trans (name_len (good_names hg z hz)) (by decide), fun H' s => ?_⟩
    have e : (decide ((p.length : Int) ≤ 8) && (p.all nameB && sortedS p)) = true := (goodM_int 8 p).trans hg
    rw [e]
    exact q H' s
def spPInit (K : PySem.W.Frag) (C : Addr) : Sp := fun vs H Q _ => ∃ (x dx pp mp : Addr) (g : Pg), vs = [.ref x, .str g.note, .ref pp, .ref mp, .str g.after] ∧ H x = some (.ins C dx []) ∧ SqT K H pp (g.pool.map V.str) ∧ SqT K H mp (g.made.map V.str) ∧ PgOk g ∧
  ∀ H', PageAt K C H' x g → (∀ b o, b ≠ x → H b = some o → H' b = some o) → Q .non H'
theorem ok_pinit {C f : Addr} {fd : FuncData} (F : Fun K "__init__" "Page.__init__" s_Page_init f fd) (T : Top K mg) (TC : Cl_Page K mg C) : FnOk P w K mg base CX0 5 f fd ["self", "note", "pool", "made", "after"] (spPInit K C) := by
  obtain ⟨tm, gm⟩ := T.g_MAX_MADE
  have cn : Cal P w K mg base 4 "is_name" ["value"] (spName K) := (T.d_is_name.cal fun f fd F => ok_name F T).mono (by decide)
  have cs : CalO P w K mg base 4 "is_sorted" ["value", "most"] 1 ["most"] (fun vs zs => vs ++ zs) (spSorted K) := (T.d_is_sorted.calO fun f fd F => ok_sorted F T).mono (by decide)
  have cp : Cal P w K mg base 4 "_is_place" ["value"] (spPlace K) := T.d_is_place.cal fun f fd F => ok_place F T
  refine F.ok sc_Page_init (fun vs H Q E h => ?_) (fun cdv A outer s H vs Q E hr h => ?_)
  · obtain ⟨x, dx, pp, mp, g, rfl, _⟩ := h
    rfl
  · obtain ⟨x, dx, pp, mp, g, rfl, hx, hp, hm, hg, q⟩ := h
    refine ⟨_, pss_cut (ps_if (PW.pt (pw_or (pt_not (pt_val (pe_cal cp hr (by rfl) (pa_cons (pe_tup (pa_cons (pv 1) (pa_cons (pv 2) pa_nil))) pa_nil))))
        (pw_or (pt_not (pt_val (pe_calO cs hr (by rfl) (pa_cons (pv 3) pa_nil) (pk_cons (pe_glob (v := .int 2) (by rfl) gm ⟨_, rfl⟩) pk_nil))))
          (pw_or1 (pt_not (pt_val (pe_cal cn hr (by rfl) (pa_cons (pv 4) pa_nil)))))))) (pss_one ps_never) pss_nil)
      (pss_cons (ps_fld (pv 0) (pv 1) rfl) (pss_cons (ps_fld (pv 0) (pv 2) rfl) (pss_cons (ps_fld (pv 0) (pv 3) rfl) (pss_one (ps_fld (pv 0) (pv 4) rfl))))), ?_⟩
    refine ⟨fun σ' G => σ' = [some (.ref x), some (.str g.note), some (.ref pp), some (.ref mp), some (.str g.after)] ∧ Same H G, ?_, ?_⟩
    · refine ⟨_, rfl, _, rfl, by show 2 ≤ sizeLine; decide, fun t nt => ?_⟩
      have s1 := same_new (o := .tup [.str g.note, .ref pp]) (Same.refl H) nt
      refine ⟨t, pp, g.note, g.pool, rfl, .inl (.inl upd_same), .base (.tup upd_same), hg.n, sqT_st s1 hp, hg.p, fun H2 s2 => ⟨_, rfl, ?_⟩⟩
      show (if (!true) = true then _ else _)
      rw [if_neg (by decide)]
      have s12 : Same H H2 := fun b o e => s2 _ _ (s1 _ _ e)
      refine ⟨_, rfl, rfl, rfl, mp, g.made, 2, rfl, sqT_st s12 hm, tyx_sqT (sqT_st s12 hm), by decide, by decide, Nat.le_trans (good_len hg.m) (by decide), fun z hz => Nat.le_trans (name_len (good_names hg.m z hz)) (by decide), fun H3 s3 => ?_⟩
      have e : (decide ((g.made.length : Int) ≤ 2) && (g.made.all nameB && sortedS g.made)) = true := (goodM_int 2 g.made).trans hg.m
      rw [e]
      refine ⟨_, rfl, ?_⟩
      show (if (!true) = true then _ else _)
      rw [if_neg (by decide)]
      refine ⟨_, rfl, .str g.after, rfl, name_arg (Nat.le_trans (name_len hg.a) (by decide)), _, rfl, ?_⟩
      show (if (!nameB g.after) = true then _ else _)
      rw [hg.a, if_neg (by decide)]
      exact ⟨rfl, fun b o e => s3 _ _ (s12 _ _ e)⟩
    rintro σ' G ⟨rfl, s1⟩
    have kp : ∀ {y : Addr} {xs : List V} {G' : Hp}, SqT K H y xs → (∀ b o, b ≠ x → H b = some o → G' b = some o) → SqT K G' y xs := fun {y xs G'} h k => by
      rcases h with (h | ⟨o, h⟩) | h
      · exact .inl (.inl (k _ _ (fun z => by rw [z, hx] at h; cases h) h))
      · exact .inl (.inr ⟨o, k _ _ (fun z => by rw [z, hx] at h; cases h) h⟩)
      · exact .inr h
    refine ⟨_, rfl, _, rfl, x, C, dx, [], rfl, s1 _ _ hx, TC.cl, TC.n_note, by decide, ?_⟩
    rw [show putF ("_note" : Str) (V.str g.note) [] = ([("_note", .str g.note)] : List (Str × V)) from rfl]
    refine ⟨_, rfl, _, rfl, x, C, dx, _, rfl, upd_same, TC.cl, TC.n_pool, by show 1 < 1000; omega, ?_⟩
    rw [pf_2]
    refine ⟨_, rfl, _, rfl, x, C, dx, _, rfl, upd_same, TC.cl, TC.n_made, by show 2 < 1000; omega, ?_⟩
    rw [pf_3]
    refine ⟨_, rfl, _, rfl, x, C, dx, _, rfl, upd_same, TC.cl, TC.n_after, by show 3 < 1000; omega, ?_⟩
    rw [pf_4]
    have fin : ∀ b o, b ≠ x → H b = some o → (upd (upd (upd (upd G x (.ins C dx [("_note", .str g.note)])) x (.ins C dx [("_note", .str g.note), ("_pool", .ref pp)])) x (.ins C dx [("_note", .str g.note), ("_pool", .ref pp), ("_made", .ref mp)])) x (.ins C dx (pf g.note pp mp g.after))) b = some o := fun b o n e => by
      rw [upd_ne n, upd_ne n, upd_ne n, upd_ne n]
      exact s1 b o e
    exact q _ ⟨dx, pp, mp, upd_same, kp hp fin, kp hm fin⟩ fin
end
end Kl
set_option maxRecDepth 100000
set_option maxHeartbeats 4000000
namespace Gx
open PySem PySem.Spec PyProof.Rows L2 Mx
structure Lay (n : Nat) (d : PyData) : Prop where
  c : d.canLay0 = true
  p : d.depth ≤ n
theorem lay_all {n : Nat} : ∀ {ds : List PyData}, (∀ d ∈ ds, Lay n d) → PyData.canLayAll0 ds = true ∧ PyData.depthAll ds ≤ n
  | [], _ => ⟨rfl, Nat.zero_le _⟩
  | d :: ds, h => by
    obtain ⟨i1, i2⟩ := lay_all (ds := ds) fun x hx => h x (List.mem_cons_of_mem _ hx)
    obtain ⟨a, b⟩ := h d List.mem_cons_self
    exact ⟨by rw [PyData.canLayAll0, a, i1]; rfl, by rw [PyData.depthAll]; exact Nat.max_le.mpr ⟨b, i2⟩⟩
theorem Lay.tup {n : Nat} {ds : List PyData} (h : ∀ d ∈ ds, Lay n d) : Lay (n + 1) (.tuple ds) := by
  obtain ⟨a, b⟩ := lay_all h
  exact ⟨by simp only [PyData.canLay0]; exact a, by rw [PyData.depth]; omega⟩
theorem Lay.lst {n : Nat} {ds : List PyData} (h : ∀ d ∈ ds, Lay n d) : Lay (n + 1) (.list ds) := by
  obtain ⟨a, b⟩ := lay_all h
  exact ⟨by simp only [PyData.canLay0]; exact a, by rw [PyData.depth]; omega⟩
theorem Lay.str {n : Nat} {z : Str} (h : PyData.strOk z = true) : Lay n (.str z) := ⟨by simp only [PyData.canLay0]; exact h, by rw [PyData.depth]; exact Nat.zero_le _⟩
theorem Lay.int {n : Nat} (i : Int) : Lay n (.int i) := ⟨rfl, by rw [PyData.depth]; exact Nat.zero_le _⟩
theorem Lay.bl {n : Nat} (b : Bool) : Lay n (.bool b) := ⟨rfl, by rw [PyData.depth]; exact Nat.zero_le _⟩
theorem Lay.non {n : Nat} : Lay n .none := ⟨rfl, by rw [PyData.depth]; exact Nat.zero_le _⟩
theorem Lay.up {m n : Nat} {d : PyData} (h : Lay m d) (k : m ≤ n) : Lay n d := ⟨h.c, Nat.le_trans h.p k⟩
theorem Lay.txts {n : Nat} {q : List Str} (h : ∀ z ∈ q, PyData.strOk z = true) : Lay (n + 1) (.tuple (tD q)) := .tup fun d hd => by
  obtain ⟨z, hz, rfl⟩ := List.mem_map.mp hd
  exact .str (h z hz)
theorem lay_cons {n : Nat} {d : PyData} {ds : List PyData} (h : Lay n d) (r : ∀ e ∈ ds, Lay n e) : ∀ e ∈ d :: ds, Lay n e := fun e he => by
  rcases List.mem_cons.mp he with rfl | he
  · exact h
  · exact r e he
theorem lay_nil {n : Nat} : ∀ e ∈ ([] : List PyData), Lay n e := fun e he => nomatch he
theorem Lay.shaped {n : Nat} {d : PyData} (h : Lay n d) (hn : n ≤ 64) : SeqAt.shaped d = true := by
  unfold SeqAt.shaped
  rw [Bool.and_eq_true]
  exact ⟨h.c, decide_eq_true (Nat.le_trans h.p hn)⟩
end Gx
set_option maxRecDepth 100000
set_option maxHeartbeats 4000000
namespace Kl
open PySem PySem.Spec PyProof.Rows L2 Gx Mx
section
variable {P : Program} {w : World} {K : PySem.W.Frag} {mg : Str → Option Value} {base : Heap}
def spPMade (K : PySem.W.Frag) (C : Addr) : Sp := fun vs H Q _ => ∃ (x : Addr) (g : Pg), vs = [.ref x] ∧ PageAt K C H x g ∧ ∀ p, SqT K H p (g.made.map V.str) → Q (.ref p) H
theorem ok_pmade {C f : Addr} {fd : FuncData} (F : Fun K "made" "Page.made" s_Page_made f fd) (TC : Cl_Page K mg C) : FnOk P w K mg base CX0 1 f fd ["self"] (spPMade K C) := by
  refine F.ok sc_Page_made (fun vs H Q E h => ?_) (fun cdv A outer s H vs Q E hr h => ?_)
  · obtain ⟨x, g, rfl, _⟩ := h
    rfl
  · obtain ⟨x, g, rfl, ⟨dx, pp, mp, hx, hp, hm⟩, q⟩ := h
    refine ⟨_, pss_one (ps_ret (pe_fld (pv 0) rfl)), ?_⟩
    exact ⟨_, rfl, x, C, dx, _, _, rfl, hx, TC.cl, TC.n_made, pf_made _ _ _ _, q mp hm⟩
def spPAfter (K : PySem.W.Frag) (C : Addr) : Sp := fun vs H Q _ => ∃ (x : Addr) (g : Pg), vs = [.ref x] ∧ PageAt K C H x g ∧ Q (.str g.after) H
theorem ok_pafter {C f : Addr} {fd : FuncData} (F : Fun K "after" "Page.after" s_Page_after f fd) (TC : Cl_Page K mg C) : FnOk P w K mg base CX0 1 f fd ["self"] (spPAfter K C) := by
  refine F.ok sc_Page_after (fun vs H Q E h => ?_) (fun cdv A outer s H vs Q E hr h => ?_)
  · obtain ⟨x, g, rfl, _⟩ := h
    rfl
  · obtain ⟨x, g, rfl, ⟨dx, pp, mp, hx, hp, hm⟩, q⟩ := h
    refine ⟨_, pss_one (ps_ret (pe_fld (pv 0) rfl)), ?_⟩
    exact ⟨_, rfl, x, C, dx, _, _, rfl, hx, TC.cl, TC.n_after, pf_after _ _ _ _, q⟩
def spPPlace (K : PySem.W.Frag) (C : Addr) : Sp := fun vs H Q _ => ∃ (x : Addr) (g : Pg), vs = [.ref x] ∧ PageAt K C H x g ∧ ∀ t pp H', Same H H' → SqT K H' t [.str g.note, .ref pp] → SqT K H' pp (g.pool.map V.str) → Q (.ref t) H'
theorem ok_pplace {C f : Addr} {fd : FuncData} (F : Fun K "place" "Page.place" s_Page_place f fd) (TC : Cl_Page K mg C) : FnOk P w K mg base CX0 1 f fd ["self"] (spPPlace K C) := by
  refine F.ok sc_Page_place (fun vs H Q E h => ?_) (fun cdv A outer s H vs Q E hr h => ?_)
  · obtain ⟨x, g, rfl, _⟩ := h
    rfl
  · obtain ⟨x, g, rfl, ⟨dx, pp, mp, hx, hp, hm⟩, q⟩ := h
    refine ⟨_, pss_one (ps_ret (pe_tup (pa_cons (pe_fld (pv 0) rfl) (pa_cons (pe_fld (pv 0) rfl) pa_nil)))), ?_⟩
    refine ⟨_, rfl, x, C, dx, _, _, rfl, hx, TC.cl, TC.n_note, pf_note _ _ _ _, _, rfl, x, C, dx, _, _, rfl, hx, TC.cl, TC.n_pool, pf_pool _ _ _ _, by show 2 ≤ sizeLine; decide, fun t nt => ?_⟩
    have s := same_new (o := .tup [V.str g.note, .ref pp]) (Same.refl H) nt
    exact q t pp _ s (.inl (.inl upd_same)) (sqT_st s hp)
end
end Kl
set_option maxRecDepth 100000
set_option maxHeartbeats 4000000
namespace Kl
open PySem PySem.Spec PyProof.Rows L2 Gx Mx
theorem idx_no {ps : List Str} {t : Str} {m : Nat} (h : m < ps.idxOf t) : ps[m]? ≠ some t := by
  intro e
  obtain ⟨hm, e⟩ := List.getElem?_eq_some_iff.mp e
  have n : (ps[m] == t) = false := List.not_of_lt_findIdx (p := (· == t)) h
  rw [e, beq_self_eq_true] at n
  cases n
theorem idx_at {ps : List Str} {t : Str} (h : t ∈ ps) : ps[ps.idxOf t]? = some t := by
  have hl := List.idxOf_lt_length_of_mem h
  rw [List.getElem?_eq_getElem hl]
  exact congrArg some (List.getElem_idxOf hl)
def outS (r : List Str) (p : Str) : List Str := r.eraseIdx (r.idxOf p)
def takeAll : List Str → List Str → Option (List Str)
  | r, [] => some r
  | r, p :: ps => if p ∈ r then takeAll (outS r p) ps else none
def leftM : List Str → List (List Str) → Option (List Str)
  | r, [] => some r
  | r, m :: ms => if m = [] then none else (takeAll r m).bind fun r' => leftM r' ms
theorem take_app : ∀ (xs : List Str) (r ys : List Str), takeAll r (xs ++ ys) = (takeAll r xs).bind fun r' => takeAll r' ys
  | [], r, ys => rfl
  | x :: xs, r, ys => by
    show (if x ∈ r then takeAll (outS r x) (xs ++ ys) else none) = (if x ∈ r then takeAll (outS r x) xs else none).bind _
    by_cases c : x ∈ r
    · rw [if_pos c, if_pos c, take_app xs]
    · rw [if_neg c, if_neg c]
      rfl
theorem left_app : ∀ (xs : List (List Str)) (r : List Str) (ys : List (List Str)), leftM r (xs ++ ys) = (leftM r xs).bind fun r' => leftM r' ys
  | [], r, ys => rfl
  | x :: xs, r, ys => by
    show (if x = [] then none else (takeAll r x).bind fun r' => leftM r' (xs ++ ys)) = (if x = [] then none else (takeAll r x).bind fun r' => leftM r' xs).bind _
    by_cases c : x = []
    · rw [if_pos c, if_pos c]
      rfl
    · rw [if_neg c, if_neg c]
      cases takeAll r x with
      | none => rfl
      | some r' => exact left_app xs r' ys
theorem take_bad {r r' ps : List Str} {j : Nat} {p : Str} (h : takeAll r (ps.take j) = some r') (hp : ps[j]? = some p) (n : p ∉ r') : takeAll r ps = none := by
  have e : ps = ps.take j ++ (p :: ps.drop (j + 1)) := by
    obtain ⟨hl, e⟩ := List.getElem?_eq_some_iff.mp hp
    rw [← e, ← List.drop_eq_getElem_cons hl, List.take_append_drop]
  rw [e, take_app, h]
  show (if p ∈ r' then _ else none) = none
  rw [if_neg n]
theorem take_go {r r' ps : List Str} {j : Nat} {p : Str} (h : takeAll r (ps.take j) = some r') (hp : ps[j]? = some p) (n : p ∈ r') : takeAll r (ps.take (j + 1)) = some (outS r' p) := by
  rw [List.take_add_one, hp, take_app, h]
  show (if p ∈ r' then _ else none) = _
  rw [if_pos n]
  rfl
theorem left_bad {r r' : List Str} {ms : List (List Str)} {j : Nat} {m : List Str} (h : leftM r (ms.take j) = some r') (hm : ms[j]? = some m) (n : m = [] ∨ takeAll r' m = none) : leftM r ms = none := by
  have e : ms = ms.take j ++ (m :: ms.drop (j + 1)) := by
    obtain ⟨hl, e⟩ := List.getElem?_eq_some_iff.mp hm
    rw [← e, ← List.drop_eq_getElem_cons hl, List.take_append_drop]
  rw [e, left_app, h]
  show (if m = [] then none else (takeAll r' m).bind _) = none
  rcases n with n | n
  · rw [if_pos n]
  · rw [n]
    split <;> rfl
theorem left_go {r r' r2 : List Str} {ms : List (List Str)} {j : Nat} {m : List Str} (h : leftM r (ms.take j) = some r') (hm : ms[j]? = some m) (n : m ≠ []) (e : takeAll r' m = some r2) : leftM r (ms.take (j + 1)) = some r2 := by
  rw [List.take_add_one, hm, left_app, h]
  show (if m = [] then none else (takeAll r' m).bind fun r => leftM r []) = _
  rw [if_neg n, e]
  rfl
theorem take_len : ∀ (ps : List Str) {r r' : List Str}, takeAll r ps = some r' → r'.length ≤ r.length ∧ ∀ z ∈ r', z ∈ r
  | [], r, r', h => by cases h; exact ⟨Nat.le_refl _, fun z hz => hz⟩
  | p :: ps, r, r', h => by
    have h : (if p ∈ r then takeAll (outS r p) ps else none) = some r' := h
    split at h
    · obtain ⟨a, b⟩ := take_len ps h
      refine ⟨Nat.le_trans a (List.length_eraseIdx_le _ _), fun z hz => List.mem_of_mem_eraseIdx (b z hz)⟩
    · cases h
section
variable {P : Program} {w : World} {K : PySem.W.Frag} {mg : Str → Option Value} {base : Heap}
def spWo (K : PySem.W.Frag) : Sp := fun vs H Q _ => ∃ (p q : Addr) (r ps : List Str), vs = [V.ref p, V.ref q] ∧ SqT K H p (r.map V.str) ∧ SqT K H q (ps.map V.str) ∧ r.length ≤ 100 ∧ ps.length ≤ 100 ∧
  (∀ t r' H', takeAll r ps = some r' → Same H H' → H' t = some (.tup (r'.map V.str)) → Q (.ref t) H') ∧ (∀ H', takeAll r ps = none → Same H H' → Q .non H')
theorem ok_wt {f : Addr} {fd : FuncData} (F : Fun K "_law_without" "_law_without" s_law_without f fd) (T : Top K mg) : FnOk P w K mg base CX0 1 f fd ["_law_pool", "_law_parts"] (spWo K) := by
  refine F.ok sc_law_without (fun vs H Q E h => ?_) (fun cdv A outer s H vs Q E hr h => ?_)
  · obtain ⟨p, q, r, ps, rfl, _⟩ := h
    rfl
  · obtain ⟨p, q, r, ps, rfl, hp, hq, l1, l2, q1, q2⟩ := h
    refine ⟨_, pss_cut (ps_set (i := 2) sc_law_without.nd rfl (.inl rfl) (pe_callTy call_list_of (by rfl) T.b_list (by decide +kernel) (pa_cons (pv 0) pa_nil)))
      (pss_cut (ps_for PassesOwn.never rfl (pi_tup (pv 1)) (pg_name (i := 3) sc_law_without.nd rfl (.inl rfl))
        (pss_cons (ps_if (pt_cmpR op_notIn_seq (pv 3) (pv 2) (by rfl)) (pss_one (ps_ret pe_non)) pss_nil)
        (pss_one (ps_expr (pe_bm PySem.F.plainAttrs_list PySem.F.slot_list_remove PySem.F.type_list_remove mt_removeS (pv 2) (pa_cons (pv 3) pa_nil))))))
      (pss_one (ps_ret (pe_callTy call_tuple_of (by rfl) T.b_tuple (by decide +kernel) (pa_cons (pv 2) pa_nil))))), ?_⟩
    refine ⟨fun σ' G => ∃ l : Addr, σ' = [some (.ref p), some (.ref q), some (.ref l), none] ∧ G l = some (.lst (r.map V.str)) ∧ H l = none ∧ Same H G, ?_, ?_⟩
    · exact ⟨_, rfl, p, _, rfl, .inr hp, fun l nl => ⟨l, rfl, upd_same, nl, same_new (Same.refl H) nl⟩⟩
    rintro σ' G ⟨l, rfl, el, nl, s0⟩
    refine ⟨fun σ' G' => ∃ (y3 : Option V) (r' : List Str), σ' = [some (.ref p), some (.ref q), some (.ref l), y3] ∧ G' l = some (.lst (r'.map V.str)) ∧ takeAll r ps = some r' ∧ Same H G', ?_, ?_⟩
    · refine ⟨_, rfl, q, rfl, ⟨_, sqT_st s0 hq⟩, ?_⟩
      refine for_it (walk_tup (K := K) (a := q) (xs := ps.map V.str)) (fun j σ' G' => ∃ (y3 : Option V) (r' : List Str), σ' = [some (.ref p), some (.ref q), some (.ref l), y3] ∧ G' l = some (.lst (r'.map V.str)) ∧ takeAll r (ps.take j) = some r' ∧ Same H G')
        ⟨none, r, rfl, el, rfl, s0⟩ (fun j σ' G' _ h => by obtain ⟨_, _, _, _, _, sm⟩ := h; exact sqT_st sm hq) (fun j u σ' Gx G' hj h hy => ?_) (fun σ' G' h => ?_)
      rotate_left
      · obtain ⟨y3, r', e, h1, h2, h3⟩ := h
        rw [List.length_map, List.take_length] at h2
        exact ⟨y3, r', e, h1, h2, h3⟩
      obtain ⟨y3, r', rfl, eL, ht, sm⟩ := h
      obtain ⟨rfl, hu⟩ := hy
      have hu : (ps.map V.str)[j]? = some u := hu
      rw [List.getElem?_map] at hu
      obtain ⟨y, hy, rfl⟩ := Option.map_eq_some_iff.mp hu
      refine ⟨_, rfl, _, rfl, l, _, rfl, .inl (.inl (.inl eL)), rfl, flat_strs' r', _, rfl, ?_⟩
      rw [inV_strs]
      by_cases c : y ∈ r'
      · rw [decide_eq_true c]
        show (if (!true) = true then _ else _)
        rw [if_neg (by decide)]
        refine ⟨_, rfl, ⟨.inl ⟨rfl, _, .inl (.inl eL)⟩, ?_⟩⟩
        exact ⟨_, rfl, l, r', y, r'.idxOf y, rfl, rfl, eL, idx_at c, fun m hm => idx_no hm, _, outS r' y, rfl, upd_same, take_go ht hy c, fun b o e => by rw [upd_ne (ne_of_none e nl)]; exact sm _ _ e⟩
      · rw [decide_eq_false c]
        show (if (!false) = true then _ else _)
        rw [if_pos (by decide)]
        exact q2 G' (take_bad ht hy c) sm
    rintro σ' G1 ⟨y3, r', rfl, eL, ht, sm⟩
    refine ⟨_, rfl, l, _, rfl, .inl ⟨.inl (.inl eL), fun tq ntq => ?_⟩⟩
    exact q1 tq r' _ ht (same_new sm ntq) upd_same
def spLeft (K : PySem.W.Frag) : Sp := fun vs H Q _ => ∃ (p l : Addr) (r : List Str) (LL : List (Addr × List Str)), vs = [V.ref p, V.ref l] ∧ SqT K H p (r.map V.str) ∧ H l = some (.lst (LL.map fun q => V.ref q.1)) ∧ (∀ q ∈ LL, SqT K H q.1 (q.2.map V.str)) ∧
  (∀ t r' H', leftM r (LL.map (·.2)) = some r' → Same H H' → H' t = some (.tup (r'.map V.str)) → Q (.ref t) H') ∧ (∀ H', leftM r (LL.map (·.2)) = none → Same H H' → Q .non H')
theorem ok_left {f : Addr} {fd : FuncData} (F : Fun K "_left" "_left" s_left f fd) (T : Top K mg) : FnOk P w K mg base CX0 1 f fd ["pool", "makings"] (spLeft K) := by
  refine F.ok sc_left (fun vs H Q E h => ?_) (fun cdv A outer s H vs Q E hr h => ?_)
  · obtain ⟨p, l, r, LL, rfl, _⟩ := h
    rfl
  · obtain ⟨p, m, r, LL, rfl, hp, hm, hT, q1, q2⟩ := h
    refine ⟨_, pss_cut (ps_set (i := 2) sc_left.nd rfl (.inl rfl) (pe_callTy call_list_of (by rfl) T.b_list (by decide +kernel) (pa_cons (pv 0) pa_nil)))
      (pss_cut (ps_for PassesOwn.never rfl (pi_list (pv 1)) (pg_name (i := 3) sc_left.nd rfl (.inl rfl))
        (pss_cons (ps_if (pt_not (pt_truth (pv 3) (fun _ => rfl))) (pss_one (ps_ret pe_non)) pss_nil)
        (pss_one (ps_for PassesOwn.never rfl (pi_tup (pv 3)) (pg_name (i := 4) sc_left.nd rfl (.inl rfl))
          (pss_cons (ps_if (pt_cmpR op_notIn_seq (pv 4) (pv 2) (by rfl)) (pss_one (ps_ret pe_non)) pss_nil)
          (pss_one (ps_expr (pe_bm PySem.F.plainAttrs_list PySem.F.slot_list_remove PySem.F.type_list_remove mt_removeS (pv 2) (pa_cons (pv 4) pa_nil)))))))))
      (pss_one (ps_ret (pe_callTy call_tuple_of (by rfl) T.b_tuple (by decide +kernel) (pa_cons (pv 2) pa_nil))))), ?_⟩
    refine ⟨fun σ' G => ∃ l : Addr, σ' = [some (.ref p), some (.ref m), some (.ref l), none, none] ∧ G l = some (.lst (r.map V.str)) ∧ H l = none ∧ Same H G, ?_, ?_⟩
    · exact ⟨_, rfl, p, _, rfl, .inr hp, fun l nl => ⟨l, rfl, upd_same, nl, same_new (Same.refl H) nl⟩⟩
    rintro σ' G ⟨l, rfl, el, nl, s0⟩
    refine ⟨fun σ' G' => ∃ (y3 y4 : Option V) (r' : List Str), σ' = [some (.ref p), some (.ref m), some (.ref l), y3, y4] ∧ G' l = some (.lst (r'.map V.str)) ∧ leftM r (LL.map (·.2)) = some r' ∧ Same H G', ?_, ?_⟩
    · refine ⟨_, rfl, m, rfl, ⟨_, .inl (.inl (s0 _ _ hm))⟩, ?_⟩
      refine for_it (walk_list (K := K) (a := m) (xs := LL.map fun q => V.ref q.1)) (fun j σ' G' => ∃ (y3 y4 : Option V) (r' : List Str), σ' = [some (.ref p), some (.ref m), some (.ref l), y3, y4] ∧ G' l = some (.lst (r'.map V.str)) ∧ leftM r ((LL.map (·.2)).take j) = some r' ∧ Same H G')
        ⟨none, none, r, rfl, el, rfl, s0⟩ (fun j σ' G' _ h => by obtain ⟨_, _, _, _, _, _, sm⟩ := h; exact .inl (.inl (sm _ _ hm))) (fun j u σ' Gx G' hj h hy => ?_) (fun σ' G' h => ?_)
      rotate_left
      · obtain ⟨y3, y4, r', e, h1, h2, h3⟩ := h
        rw [List.length_map, List.take_of_length_le (by rw [List.length_map]; exact Nat.le_refl _)] at h2
        exact ⟨y3, y4, r', e, h1, h2, h3⟩
      obtain ⟨y3, y4, r', rfl, eL, ht, sm⟩ := h
      obtain ⟨rfl, hu⟩ := hy
      have hu : (LL.map fun q => V.ref q.1)[j]? = some u := hu
      rw [List.getElem?_map] at hu
      obtain ⟨q0, hq0, rfl⟩ := Option.map_eq_some_iff.mp hu
      have hq2 : (LL.map (·.2))[j]? = some q0.2 := by rw [List.getElem?_map, hq0]; rfl
      have hs0 := hT q0 (List.mem_of_getElem? hq0)
      refine ⟨_, rfl, !(q0.2.map V.str).isEmpty, .inr (.inl ⟨_, sqT_st sm hs0, rfl⟩), ?_⟩
      by_cases cE : q0.2 = []
      · rw [cE]
        show (if (!(!true)) = true then _ else _)
        rw [if_pos (by decide)]
        exact q2 G' (left_bad ht hq2 (.inl cE)) sm
      have e0 : (q0.2.map V.str).isEmpty = false := by
        cases h : q0.2 with
        | nil => exact absurd h cE
        | cons a b => rfl
      rw [e0]
      show (if (!(!false)) = true then _ else _)
      rw [if_neg (by decide)]
      refine ⟨_, rfl, q0.1, rfl, ⟨_, sqT_st sm hs0⟩, ?_⟩
      refine for_it (walk_tup (K := K) (a := q0.1) (xs := q0.2.map V.str)) (fun k σ' G' => ∃ (y4 : Option V) (r2 : List Str), σ' = [some (.ref p), some (.ref m), some (.ref l), some (.ref q0.1), y4] ∧ G' l = some (.lst (r2.map V.str)) ∧ takeAll r' (q0.2.take k) = some r2 ∧ Same H G')
        ⟨y4, r', rfl, eL, rfl, sm⟩ (fun j σ' G' _ h => by obtain ⟨_, _, _, _, _, sm⟩ := h; exact sqT_st sm hs0) (fun k u σ' Gx G2 hk h hy => ?_) (fun σ' G2 h => ?_)
      rotate_left
      · obtain ⟨y4, r2, rfl, h1, h2, h3⟩ := h
        rw [List.length_map, List.take_length] at h2
        exact ⟨_, _, r2, rfl, h1, left_go ht hq2 cE h2, h3⟩
      obtain ⟨y4, r2, rfl, eL2, ht2, sm2⟩ := h
      obtain ⟨rfl, hu⟩ := hy
      have hu : (q0.2.map V.str)[k]? = some u := hu
      rw [List.getElem?_map] at hu
      obtain ⟨y, hy, rfl⟩ := Option.map_eq_some_iff.mp hu
      refine ⟨_, rfl, _, rfl, l, _, rfl, .inl (.inl (.inl eL2)), rfl, flat_strs' r2, _, rfl, ?_⟩
      rw [inV_strs]
      by_cases c : y ∈ r2
      · rw [decide_eq_true c]
        show (if (!true) = true then _ else _)
        rw [if_neg (by decide)]
        refine ⟨_, rfl, ⟨.inl ⟨rfl, _, .inl (.inl eL2)⟩, ?_⟩⟩
        exact ⟨_, rfl, l, r2, y, r2.idxOf y, rfl, rfl, eL2, idx_at c, fun m hm => idx_no hm, _, outS r2 y, rfl, upd_same, take_go ht2 hy c, fun b o e => by rw [upd_ne (ne_of_none e nl)]; exact sm2 _ _ e⟩
      · rw [decide_eq_false c]
        show (if (!false) = true then _ else _)
        rw [if_pos (by decide)]
        exact q2 G2 (left_bad ht hq2 (.inr (take_bad ht2 hy c))) sm2
    rintro σ' G1 ⟨y3, y4, r', rfl, eL, ht, sm⟩
    refine ⟨_, rfl, l, _, rfl, .inl ⟨.inl (.inl eL), fun tq ntq => ?_⟩⟩
    exact q1 tq r' _ ht (same_new sm ntq) upd_same
end
end Kl
set_option maxRecDepth 100000
set_option maxHeartbeats 4000000
namespace Gx
open PySem PySem.Spec PyProof.Rows L2 SeqAt Mx
open AutoSeq1 (wpAny_loadPart')
theorem str_eq_dict (b : Str) (u : Tok) (l : Addr) (dd : Option Addr) (sl : Array (Option Value)) (es : Array DictEntry) (ep : Nat) :
    Meets (Builtin.«str.__eq__» ⟨[.str b u, .ref l], []⟩) (fun _ R s => s.heap.get? l = some { cls := .type "dict", dict := dd, data := .dict es ep, slots := sl } ∧ R (.ok (.ret .notImplemented)) s) :=
  .of_wp fun prog w A R s h => by obtain ⟨hp, g, d, tk, os⟩ := s; obtain ⟨hl, h⟩ := h; wp_walk using wpAny_loadPart' hl, wpAny_load hl; exact ⟨_, rfl, h⟩
theorem dict_eq_str {prog : Program} {w : World} {A : Around} {E : Value → Shared → Prop} {s : Shared} {Q : Value → Shared → Prop} {a : Addr} {b : Str} {u : Tok} (da : s.TypeIs (.ref a) "dict") (h : Q .notImplemented s) :
    wpAny (model prog w) A (call (.builtin "dict.__eq__") [.ref a, .str b u]) Q E s := by
  refine wpAny_call_entry PySem.F.slot_dict_eq da PySem.F.entry_dict_eq ?_ (PySem.F.args_dict_eq_2 _ _)
  show wpAny _ _ (Builtin.Dict.dictSlotArgs "__eq__" ⟨[.ref a, .str b u], []⟩ >>= _) _ _ s
  refine wpAny_bind ?_
  unfold Builtin.Dict.dictSlotArgs
  refine wpAny_bind (wpAny_notOrdered_dict da ?_)
  show wpAny _ _ (pure (Value.ref a, Value.str b u)) _ _ s
  refine wpAny_pure ?_
  refine wpAny_bind (wpAny_isInstance (T := "str") (typeIs_str s b u) PySem.F.sub_str_dict ?_)
  simp only [Bool.not_false, if_true]
  exact wpAny_bind (wpAny_rule (wpAny_bind (wpAny_pure (wpAny_pure ⟨_, rfl, h⟩))))
section
variable {A : Around} {s : Shared}
theorem eqAt_str_dict {l : Addr} {ob : Obj} (b : Str) (u : Tok) (hl : s.heap.get? l = some ob) (hc : ob.cls = .type "dict") {es : Array DictEntry} {ep : Nat} (hde : ob.data = .dict es ep) (hu : A.units < cLine) : EqAt A s (.str b u) (.ref l) false := fun prog w E Q h => by
  unfold eqBool
  refine wpAny_holding ?_
  refine wpAny_ite_split (fun hab => absurd (eq_of_beq hab) nofun) (fun _ => ?_)
  obtain ⟨cls2, dd2, data2, sl2⟩ := ob
  simp only at hc hde
  subst hc hde
  refine wpAny_bind ?_
  exact rc_eq_decline_or (k := false) (typeIs_str s b u) ⟨_, hl, rfl⟩ (by decide) F.sub_dict_str F.slot_str_eq F.slot_dict_eq_refl
    (fun _ hq => call_meets F.slot_str_eq (typeIs_str s b u) F.entry_str_eq (F.args_str_eq_2 _ _) (str_eq_dict b u l dd2 sl2 es ep) ⟨hl, hq⟩)
    (fun _ hq => dict_eq_str ⟨_, hl, rfl⟩ hq)
    (fun _ hq => wpAny_of_eq (rfl : isSame (.str b u) (.ref l) = pure false) hq) (.inr hu) (wpAny_truthy_bool h)
end
section
variable {X : Cx}
theorem vals_mem : ∀ {zs : List Str} {its : List Value} {y : Value}, Vals (zs.map V.str) its → y ∈ its → ∃ z t, y = .str z t
  | [], _, _, .nil, h => nomatch h
  | z :: zs, _, y, .cons r t, h => by
    rcases List.mem_cons.mp h with rfl | h
    · obtain ⟨tk, e⟩ := r
      exact ⟨z, tk, e⟩
    · exact vals_mem t h
/-- x in a tuple of texts: data that are not deep, or a dict -/
def rInTx (K : PySem.W.Frag) : R2 := fun x y H Q => ∃ (p : Addr) (zs : List Str), y = .ref p ∧ SqT K H p (zs.map V.str) ∧ (∀ z ∈ zs, PyData.strOk z = true) ∧
  ((∃ d, Dp K H x d ∧ d.canLay0 = true ∧ d.depth ≤ 10 ∧ Q (.bl ((tD zs).any fun z => PyData.eqv z d)) H) ∨ ∃ a kvs, x = .ref a ∧ H a = some (.dK kvs) ∧ Q (.bl false) H)
theorem op_inTx (hu : X.A.units + 64 < cLine) : OpR X (compareOp .In) (rInTx X.K) := by
  intro pins s σ H x y v u Q I rx ry h
  obtain ⟨p, zs, rfl, hp, ok, h⟩ := h
  rcases h with ⟨d, hd, sd, dp, q⟩ | ⟨a, kvs, rfl, ea, q⟩
  · obtain ⟨as, r1⟩ := Dp.reads I d x v hd rx
    obtain ⟨bs, r2⟩ := Dp.reads I (.tuple (tD zs)) (.ref p) u (.tup hp (dp_texts zs)) ry
    exact SeqAt.in_tuple_reads r2 r1 (canLay_texts zs ok) sd (by omega) ⟨.bl _, H, I, rfl, q⟩
  · cases rx
    cases ry
    obtain ⟨its, rv, pl, hz⟩ := I.tuple hp
    obtain ⟨_, _, vs, _, hd⟩ := dk_of I.hok ea
    obtain ⟨ob, hb, hD⟩ := Heap.dictOf_iff.mp hd
    obtain ⟨es, ep, ex, ed, _⟩ := hD
    have hcb : ob.cls = .type "dict" := ex.1
    refine SeqAt.in_tupleAt (fun _ => false) pl (fun y hy => ?_) ⟨.bl false, H, I, ?_, q⟩
    · rw [List.mem_toArray] at hy
      obtain ⟨z, t, rfl⟩ := vals_mem rv hy
      exact eqAt_str_dict z t hb hcb ed (by show X.A.units + 1 < cLine; omega)
    · show Value.bool _ = Value.bool false
      rw [Array.any_eq_false' |>.mpr (fun _ _ => by simp)]
end
end Gx
set_option maxRecDepth 100000
set_option maxHeartbeats 4000000
namespace Kl
open PySem PySem.Spec PyProof.Rows L2 Gx Mx
section
variable {P : Program} {w : World} {K : PySem.W.Frag} {mg : Str → Option Value} {base : Heap}
def spKHas (K : PySem.W.Frag) (C : Addr) : Sp := fun vs H Q _ => ∃ (x md : Addr) (leaf : Str) (M : Mak) (ns : List Str) (v : V), vs = [V.ref x, v] ∧ KindsAt C H x md leaf M ns ∧ (∀ z ∈ ns, PyData.strOk z = true) ∧
  ((∃ d, Dp K H v d ∧ d.canLay0 = true ∧ d.depth ≤ 10 ∧ Q (.bl ((tD ns).any fun z => PyData.eqv z d)) H) ∨ ∃ a kvs, v = .ref a ∧ H a = some (.dK kvs) ∧ Q (.bl false) H)
theorem ok_khas {C f : Addr} {fd : FuncData} (F : Fun K "__contains__" "Kinds.__contains__" s_Kinds_contains f fd) (T : Top K mg) (TC : Cl_Kinds K mg C) : FnOk P w K mg base CX0 1 f fd ["self", "value"] (spKHas K C) := by
  refine F.ok sc_Kinds_contains (fun vs H Q E h => ?_) (fun cdv A outer s H vs Q E hr h => ?_)
  · obtain ⟨x, md, leaf, M, ns, v, rfl, _⟩ := h
    rfl
  · obtain ⟨x, md, leaf, M, ns, v, rfl, ⟨dx, nt, kvs, hx, hd, hM, hn⟩, ok, q⟩ := h
    have hu := hu_of hr
    refine ⟨_, pss_one (ps_ret (pe_cmpR (op_inTx hr.units) (pv 1) (pe_fld (pv 0) rfl) (by rfl))), ?_⟩
    exact ⟨_, rfl, _, rfl, x, C, dx, _, _, rfl, hx, TC.cl, TC.n_names, kf_names _ _ _, nt, ns, rfl, .inl (.inl hn), ok, q⟩
def spKGet (C : Addr) : Sp := fun vs H Q _ => ∃ (x md : Addr) (leaf : Str) (M : Mak) (ns : List Str) (z : Str), vs = [V.ref x, .str z] ∧ KindsAt C H x md leaf M ns ∧ z ∈ ns ∧
  ∀ p H', Same H H' → ((∃ ps, lookM M z = some ps ∧ TupZ H' p (ps.map V.str)) ∨ (lookM M z = none ∧ H' p = some (.tup []))) → Q (.ref p) H'
theorem ok_kget {C f : Addr} {fd : FuncData} (F : Fun K "__getitem__" "Kinds.__getitem__" s_Kinds_getitem f fd) (T : Top K mg) (TC : Cl_Kinds K mg C) : FnOk P w K mg base CX0 1 f fd ["self", "name"] (spKGet C) := by
  refine F.ok sc_Kinds_getitem (fun vs H Q E h => ?_) (fun cdv A outer s H vs Q E hr h => ?_)
  · obtain ⟨x, md, leaf, M, ns, z, rfl, _⟩ := h
    rfl
  · obtain ⟨x, md, leaf, M, ns, z, rfl, ⟨dx, nt, kvs, hx, hd, hM, hn⟩, hz, q⟩ := h
    have hu := hu_of hr
    refine ⟨_, pss_cons (ps_if (pt_cmpR op_notIn_seq (pv 1) (pe_fld (pv 0) rfl) (by rfl)) (pss_one ps_never) pss_nil)
      (pss_one (ps_ret (pe_dget2 hu (pe_fld (pv 0) rfl) (pv 1) (pe_tup pa_nil) (by constructor <;> rfl)))), ?_⟩
    refine ⟨_, rfl, _, rfl, x, C, dx, _, _, rfl, hx, TC.cl, TC.n_names, kf_names _ _ _, nt, _, rfl, .inr (.inl (.inl hn)), rfl, flat_strs' ns, _, rfl, ?_⟩
    have e : inV (V.str z) (ns.map V.str) = true := by rw [inV_strs, decide_eq_true hz]
    simp only [e, if_true, Bool.not_true, Bool.false_eq_true, if_false]
    refine ⟨_, rfl, x, C, dx, _, _, rfl, hx, TC.cl, TC.n_makings, kf_mak _ _ _, md, rfl, .inl ⟨kvs, .inl hd⟩, _, rfl, Nat.zero_le _, fun p np => ?_⟩
    have s1 : Same H (upd H p (.tup [])) := same_new (Same.refl H) np
    have hd1 := s1 _ _ hd
    rcases hM.get z with ⟨e1, e2⟩ | ⟨ps, a, e1, e2, e3⟩
    · refine ⟨none, .inl ⟨kvs, Sum.inr z, .inl hd1, rfl, e2.symm⟩, ?_⟩
      exact q p _ s1 (.inr ⟨e1, upd_same⟩)
    · refine ⟨some (.ref a), .inl ⟨kvs, Sum.inr z, .inl hd1, rfl, e2.symm⟩, ?_⟩
      exact q a _ s1 (.inl ⟨ps, e1, e3.mono s1⟩)
end
end Kl
set_option maxRecDepth 100000
set_option maxHeartbeats 4000000
namespace Kl
open PySem PySem.Spec PyProof.Rows L2 Gx Mx
theorem any_mem (ns : List Str) (z : Str) : ((tD ns).any fun y => PyData.eqv y (.str z)) = decide (z ∈ ns) := by
  unfold tD
  rw [List.any_map, Bool.eq_iff_iff, List.any_eq_true, decide_eq_true_eq]
  constructor
  · rintro ⟨y, hy, e⟩
    have e : PyData.eqv (.str y) (.str z) = true := e
    have e2 : (y == z) = true := e
    rw [← eq_of_beq e2]
    exact hy
  · intro h
    refine ⟨z, h, ?_⟩
    show (z == z) = true
    exact beq_self_eq_true z
abbrev partsM (M : Mak) (g : Pg) : List (List Str) := g.made.map fun z => (lookM M z).getD []
theorem take_sn {α : Type} {l : List α} {i : Nat} {x : α} (h : l[i]? = some x) : l.take (i + 1) = l.take i ++ [x] := by
  rw [List.take_add_one, h]
  rfl
theorem all_in {ns zs : List Str} : ((zs.map fun z => decide (z ∈ ns)).all id) = decide (∀ z ∈ zs, z ∈ ns) := by
  rw [Bool.eq_iff_iff, List.all_eq_true, decide_eq_true_eq]
  constructor
  · intro h z hz
    exact of_decide_eq_true (h _ (List.mem_map.mpr ⟨z, hz, rfl⟩))
  · rintro h b hb
    obtain ⟨z, hz, rfl⟩ := List.mem_map.mp hb
    exact decide_eq_true (h z hz)
section
variable {P : Program} {w : World} {K : PySem.W.Frag} {mg : Str → Option Value} {base : Heap}
def spPLeft (K : PySem.W.Frag) (C CK Co : Addr) : Sp := fun vs H Q E => ∃ (x kx md : Addr) (leaf : Str) (M : Mak) (ns : List Str) (g : Pg), vs = [V.ref x, .ref kx] ∧ PageAt K C H x g ∧ PgOk g ∧ KindsAt CK H kx md leaf M ns ∧ (∀ z ∈ ns, PyData.strOk z = true) ∧
  (∀ t r' H', (∀ z ∈ g.pool ++ g.made, z ∈ ns) → leftM g.pool (partsM M g) = some r' → Same H H' → H' t = some (.tup (r'.map V.str)) → Q (.ref t) H') ∧
  (∀ H', ¬ ((∀ z ∈ g.pool ++ g.made, z ∈ ns) ∧ leftM g.pool (partsM M g) ≠ none) → Same H H' → E (.ref Co) none H')
theorem ok_pleft {C CK Co f : Addr} {fd : FuncData} (F : Fun K "left" "Page.left" s_Page_left f fd) (T : Top K mg) (TC : Cl_Page K mg C) (TK : Cl_Kinds K mg CK) (XO : XPln K mg "InvalidOperation" "ValueError.__new__" "ValueError.__init__" [.type "ValueError", .type "Exception", .type "BaseException", .type "object"] Co) (XC : XCls K Co) :
    FnOk P w K mg base (L2.CX P w) 4 f fd ["self", "kinds"] (spPLeft K C CK Co) := by
  have kHas : CalM P w K mg base CK "__contains__" 1 ["self", "value"] (spKHas K CK) := TK.m_contains.cal fun f fd F => ok_khas F T TK
  have kGet : CalM P w K mg base CK "__getitem__" 1 ["self", "name"] (spKGet CK) := TK.m_getitem.cal fun f fd F => ok_kget F T TK
  have cl : Cal P w K mg base 3 "_left" ["pool", "makings"] (spLeft K) := (T.d_left.cal fun f fd F => ok_left F T).mono (by decide)
  refine F.okX sc_Page_left (fun vs H Q E h => ?_) (fun cdv A outer s H vs Q E hr h => ?_)
  · obtain ⟨x, kx, md, leaf, M, ns, g, rfl, _⟩ := h
    rfl
  · obtain ⟨x, kx, md, leaf, M, ns, g, rfl, hP, hg, hK, ok, q1, q2⟩ := h
    refine ⟨_, pss_cons (ps_if (pt_not (pt_val (pe_callB call_isi (by rfl) T.b_isinstance (by decide +kernel) (pa_cons (pv 1) (pa_cons (pe_glob (v := .ref CK) (by rfl) TK.gC rfl) pa_nil))))) (pss_one ps_never) pss_nil)
      (pss_cut (ps_if (pt_not (pt_val (pe_callB (cr_all rfl) (by rfl) T.b_all (by decide +kernel) (pa_cons (pe_lc (own := [("name", 3)]) (g := gName 3) (tt := tYes) rfl sc_Page_left.nd (pi_tup (pe_tup (StX.pa_star (pe_fld (pv 0) rfl) (StX.pa_star (pe_fld (pv 0) rfl) pa_nil))))
            (blkOk_by (N := ["self", "kinds", "rest", "name"]) (sc := defScope s_Page_left) (by decide +kernel)) (fun _ _ _ _ _ => pg_name (i := 3) sc_Page_left.nd rfl (.inl rfl)) (fun _ _ _ _ _ => pts_nil) (fun _ _ _ _ _ => pe_cmpR (op_inM kHas (hr.mono (by decide))) (pv 3) (pv 1) (by rfl))) pa_nil))))
          (pss_one (ps_raise rfl (takes_of rfl rfl rfl rfl) (pmk_P PySem.F.excBase_ValueError XO XC (pa_cons pe_str pa_nil) (by rfl)))) pss_nil)
      (pss_cut (ps_set (i := 2) sc_Page_left.nd rfl (.inl rfl) (pe_cal cl hr (by rfl) (pa_cons (pe_fld (pv 0) rfl) (pa_cons (pe_lc (own := [("name", 3)]) (g := gName 3) (tt := tYes) rfl sc_Page_left.nd (pi_tup (pe_fld (pv 0) rfl))
            (blkOk_by (N := ["self", "kinds", "rest", "name"]) (sc := defScope s_Page_left) (by decide +kernel)) (fun _ _ _ _ _ => pg_name (i := 3) sc_Page_left.nd rfl (.inl rfl)) (fun _ _ _ _ _ => pts_nil) (fun _ _ _ _ _ => pe_ixM kGet (hr.mono (by decide)) (pv 1) (pv 3) (fun _ _ => rfl))) pa_nil))))
      (pss_cons (ps_if (pt_cmpR op_isN (pv 2) pe_non (nomark _)) (pss_one (ps_raise rfl (takes_of rfl rfl rfl rfl) (pmk_P PySem.F.excBase_ValueError XO XC (pa_cons pe_str pa_nil) (by rfl)))) pss_nil)
      (pss_one (ps_ret (pv 2)))))), ?_⟩
    have big : 100000 ≤ sizeLine := by decide
    have okG : g.pool.length ≤ 8 ∧ g.made.length ≤ 2 := ⟨good_len hg.p, good_len hg.m⟩
    have stN : ∀ z ∈ g.pool ++ g.made, PyData.strOk z = true := fun z hz => names_low (by
      rcases List.mem_append.mp hz with h | h
      · exact good_names hg.p z h
      · exact good_names hg.m z h)
    -- isinstance
    obtain ⟨dk, nt, kvs, hk, hk2⟩ := id hK
    refine ⟨_, rfl, _, _, .ref CK, .ref CK, true, rfl, .own CK, .base (.ins hk TK.cl TK.ca TK.cg TK.ct TK.ob), TK.kit, true, rfl, ?_⟩
    show (if (!true) = true then _ else _)
    rw [if_neg (by decide)]
    -- all are kinds
    obtain ⟨dx, pp, mp, hx, hp, hm⟩ := id hP
    refine ⟨fun σ' G => σ' = [some (.ref x), some (.ref kx), none, none] ∧ Same H G ∧ ∀ z ∈ g.pool ++ g.made, z ∈ ns, ?_, ?_⟩
    · refine ⟨_, rfl, x, C, dx, _, _, rfl, hx, TC.cl, TC.n_pool, pf_pool _ _ _ _, pp, g.pool.map V.str, rfl, .inl hp, _, rfl, x, C, dx, _, _, rfl, hx, TC.cl, TC.n_made, pf_made _ _ _ _, mp, g.made.map V.str, rfl, .inl hm, ?_⟩
      refine ⟨by rw [List.length_append, List.length_append, List.length_map, List.length_map]; show _ + (_ + 0) ≤ _; omega, fun tp ntp => ?_⟩
      rw [List.append_nil, ← List.map_append]
      have s1 : Same H (upd H tp (.tup ((g.pool ++ g.made).map V.str))) := same_new (Same.refl H) ntp
      have et : (upd H tp (.tup ((g.pool ++ g.made).map V.str))) tp = some (.tup ((g.pool ++ g.made).map V.str)) := upd_same
      generalize upd H tp (.tup ((g.pool ++ g.made).map V.str)) = H1 at s1 et
      refine ⟨tp, rfl, ⟨_, .inl (.inl et)⟩, fun D hD => ?_⟩
      refine lc_it (g := gName 3) (tt := tYes) (vs := [3]) (walk_tup (K := K) (a := tp) (xs := (g.pool ++ g.made).map V.str)) (fun j G' => G' D = some (.lst ((((g.pool ++ g.made).take j).map fun z => decide (z ∈ ns)).map V.bl)) ∧ Same H1 G')
        ⟨upd_same, same_new (Same.refl H1) hD⟩ (fun j G' _ h => .inl (.inl (h.2 _ _ et))) (fun j u Gx G' hj h hy => ?_) (fun G' h => ?_)
      · obtain ⟨eD, sm⟩ := h
        obtain ⟨rfl, hu2⟩ := hy
        obtain ⟨z, hz, rfl⟩ := at_texts hu2
        have hKg := (hK.same s1).same sm
        obtain ⟨dk, nt, kvs, hk, hk2⟩ := id hKg
        refine ⟨rfl, _, rfl, _, rfl, kx, dk, _, rfl, hk, kx, md, leaf, M, ns, .str z, rfl, hKg, ok, .inl ⟨.str z, .str _, stN z (List.mem_of_getElem? hz), by show 0 ≤ 10; omega, ?_⟩⟩
        rw [any_mem]
        refine ⟨_, rfl, _, eD, ?_, ?_, fun b o e => by rw [upd_ne (ne_of_none e hD)]; exact sm b o e⟩
        · rw [List.length_map, List.length_map, List.length_take, List.length_append]
          omega
        · rw [upd_same, take_sn hz, List.map_append, List.map_append]
          rfl
      · obtain ⟨eD, sm⟩ := h
        rw [List.length_map, List.take_length] at eD
        refine ⟨D, _, rfl, .inl (.inl eD), ?_⟩
        refine ⟨_, rfl, ?_⟩
        rw [all_in]
        by_cases c : ∀ z ∈ g.pool ++ g.made, z ∈ ns
        · rw [decide_eq_true c]
          show (if (!true) = true then _ else _)
          rw [if_neg (by decide)]
          exact ⟨rfl, fun b o e => sm _ _ (s1 _ _ e), c⟩
        · rw [decide_eq_false c]
          show (if (!false) = true then _ else _)
          rw [if_pos (by decide)]
          exact ⟨by decide, q2 _ (fun h => c h.1) fun b o e => sm _ _ (s1 _ _ e)⟩
    rintro σ' G ⟨rfl, s0, hin⟩
    -- what is left
    refine ⟨fun σ' G' => (∃ t r', leftM g.pool (partsM M g) = some r' ∧ σ' = [some (.ref x), some (.ref kx), some (.ref t), none] ∧ G' t = some (.tup (r'.map V.str)) ∧ Same H G') ∨ (leftM g.pool (partsM M g) = none ∧ σ' = [some (.ref x), some (.ref kx), some .non, none] ∧ Same H G'), ?_, ?_⟩
    · refine ⟨_, rfl, x, C, dx, _, _, rfl, s0 _ _ hx, TC.cl, TC.n_pool, pf_pool _ _ _ _, _, rfl, x, C, dx, _, _, rfl, s0 _ _ hx, TC.cl, TC.n_made, pf_made _ _ _ _, mp, rfl, ⟨_, sqT_st s0 hm⟩, fun D hD => ?_⟩
      refine lc_it (g := gName 3) (tt := tYes) (vs := [3]) (walk_tup (K := K) (a := mp) (xs := g.made.map V.str)) (fun j G' => ∃ LL : List (Addr × List Str), G' D = some (.lst (LL.map fun q => V.ref q.1)) ∧ LL.map (·.2) = (g.made.take j).map (fun z => (lookM M z).getD []) ∧ (∀ q ∈ LL, SqT K G' q.1 (q.2.map V.str) ∧ q.1 ≠ D) ∧ Same G G')
        ⟨[], upd_same, rfl, nofun, same_new (Same.refl G) hD⟩ (fun j G' _ h => by obtain ⟨_, _, _, _, sm⟩ := h; exact sqT_st sm (sqT_st s0 hm)) (fun j u Gx G' hj h hy => ?_) (fun G' h => ?_)
      · obtain ⟨LL, eD, eL, hT, sm⟩ := h
        obtain ⟨rfl, hu2⟩ := hy
        obtain ⟨z, hz, rfl⟩ := at_texts hu2
        have hKg := (hK.same s0).same sm
        obtain ⟨dk, nt, kvs, hk, hk2⟩ := id hKg
        refine ⟨rfl, _, rfl, _, rfl, kx, dk, _, rfl, hk, kx, md, leaf, M, ns, z, rfl, hKg, hin z (List.mem_append.mpr (.inr (List.mem_of_getElem? hz))), fun p G2 s2 hp2 => ?_⟩
        have hl : LL.length = min j g.made.length := by
          have := congrArg List.length eL
          rw [List.length_map, List.length_map, List.length_take] at this
          exact this
        have eD2 := s2 _ _ eD
        have hpt : SqT K G2 p (((lookM M z).getD []).map V.str) ∧ p ≠ D := by
          rcases hp2 with ⟨ps, e, h⟩ | ⟨e, h⟩
          · rw [e]
            exact ⟨h.sq, fun c => by
              obtain ⟨ob, _, h⟩ := h
              rw [c, eD2] at h
              cases h⟩
          · rw [e]
            exact ⟨.inl (.inl h), fun c => by rw [c, eD2] at h; cases h⟩
        have kp : ∀ {y : Addr} {xs : List V}, y ≠ D → SqT K G2 y xs → SqT K (upd G2 D (.lst (LL.map (fun q => V.ref q.1) ++ [V.ref p]))) y xs := fun {y xs} ny h => by
          rcases h with (h | ⟨o, h⟩) | h
          · exact .inl (.inl (by rw [upd_ne ny]; exact h))
          · exact .inl (.inr ⟨o, by rw [upd_ne ny]; exact h⟩)
          · exact .inr h
        refine ⟨_, eD2, by rw [List.length_map, hl]; omega, LL ++ [(p, (lookM M z).getD [])], ?_, ?_, ?_, fun b o e => by rw [upd_ne (ne_of_none e hD)]; exact s2 _ _ (sm b o e)⟩
        · rw [upd_same, List.map_append]
          rfl
        · rw [List.map_append, eL, take_sn hz, List.map_append]
          rfl
        · intro q hq
          rcases List.mem_append.mp hq with hq | hq
          · exact ⟨kp (hT q hq).2 (sqT_st s2 (hT q hq).1), (hT q hq).2⟩
          · rw [List.mem_singleton.mp hq]
            exact ⟨kp hpt.2 hpt.1, hpt.2⟩
      · obtain ⟨LL, eD, eL, hT, sm⟩ := h
        rw [List.length_map, List.take_length] at eL
        have sg : Same H G' := fun b o e => sm _ _ (s0 _ _ e)
        refine ⟨pp, D, g.pool, LL, rfl, sqT_st sg hp, eD, fun q hq => (hT q hq).1, fun t r' G3 e s3 et => ?_, fun G3 e s3 => ?_⟩
        · rw [eL] at e
          exact .inl ⟨t, r', e, rfl, et, fun b o e => s3 _ _ (sg _ _ e)⟩
        · rw [eL] at e
          exact .inr ⟨e, rfl, fun b o e => s3 _ _ (sg _ _ e)⟩
    rintro σ' G1 (⟨t, r', e, rfl, et, s1⟩ | ⟨e, rfl, s1⟩)
    · refine ⟨_, rfl, rfl, _, rfl, ?_⟩
      show (if decide (V.ref t = V.non) = true then _ else _)
      rw [decide_eq_false (fun h => nomatch h), if_neg (by decide)]
      exact ⟨_, rfl, q1 t r' G1 hin e s1 et⟩
    · refine ⟨_, rfl, rfl, _, rfl, ?_⟩
      show (if decide (V.non = V.non) = true then _ else _)
      rw [decide_eq_true rfl, if_pos rfl]
      exact ⟨by decide, q2 G1 (fun h => h.2 e) s1⟩
end
end Kl
set_option maxRecDepth 100000
set_option maxHeartbeats 4000000
namespace Gx
open PySem PySem.Spec PyProof.Rows L2 PpSet
section
variable {P : Program} {w : World} {A : Around} {E : Value → Shared → Prop} {s : Shared} {a : Addr} {L : List Str}
theorem SetX.typeIs (R : SetX P w s.heap a L) : s.TypeIs (.ref a) "set" := by
  obtain ⟨ob, _, _, _, here, ex, _⟩ := R
  exact ⟨ob, here, ex.1⟩
end
end Gx
set_option maxRecDepth 100000
set_option maxHeartbeats 4000000
namespace Gx
open PySem PySem.Spec PyProof.Rows L2
mutual
/-- the value v is the key k -/
inductive KeyV (K : PySem.W.Frag) (H : Hp) : NestedKey → V → Prop
  | none : KeyV K H .none .non
  | bool (b : Bool) : KeyV K H (.num (if b = true then 1 else 0)) (.bl b)
  | int (i : Int) : KeyV K H (.num i) (.int i)
  | text (x : Str) : KeyV K H (.text x) (.str x)
  | tup {a : Addr} {xs : List V} {ks : List NestedKey} : SqT K H a xs → KeyAll K H ks xs → KeyV K H (.tup ks) (.ref a)
inductive KeyAll (K : PySem.W.Frag) (H : Hp) : List NestedKey → List V → Prop
  | nil : KeyAll K H [] []
  | cons {k : NestedKey} {v : V} {ks : List NestedKey} {vs : List V} : KeyV K H k v → KeyAll K H ks vs → KeyAll K H (k :: ks) (v :: vs)
end
/-- at a stands the key k -/
def KeyA (K : PySem.W.Frag) (H : Hp) (a : Addr) (k : NestedKey) : Prop := KeyV K H k (.ref a) ∧ k.depth ≤ 8
mutual
theorem KeyV.mono {K : PySem.W.Frag} {H H' : Hp} (m : ∀ a xs, SqT K H a xs → SqT K H' a xs) : ∀ (k : NestedKey) (v : V), KeyV K H k v → KeyV K H' k v
  | .none, _, x => by cases x; exact .none
  | .num i, _, x => by
    cases x with
    | bool b => exact .bool b
    | int _ => exact .int _
  | .text x, _, h => by cases h; exact .text _
  | .tup ks, _, h => by
    cases h with
    | tup h1 h2 => exact .tup (m _ _ h1) (KeyAll.mono m ks _ h2)
theorem KeyAll.mono {K : PySem.W.Frag} {H H' : Hp} (m : ∀ a xs, SqT K H a xs → SqT K H' a xs) : ∀ (ks : List NestedKey) (vs : List V), KeyAll K H ks vs → KeyAll K H' ks vs
  | [], _, x => by cases x; exact .nil
  | k :: ks, _, x => by
    cases x with
    | cons h1 h2 => exact .cons (KeyV.mono m k _ h1) (KeyAll.mono m ks _ h2)
end
theorem KeyA.mono {K : PySem.W.Frag} {H H' : Hp} (m : ∀ a xs, SqT K H a xs → SqT K H' a xs) {a : Addr} {k : NestedKey} (h : KeyA K H a k) : KeyA K H' a k := ⟨h.1.mono m k _, h.2⟩
/-- the entries: key, the key's own tuple, value -/
abbrev NL := List (NestedKey × Addr × V)
def prN (L : NL) : List (NestedKey × V) := L.map fun x => (x.1, x.2.2)
def getN (L : NL) (k : NestedKey) : Option V := valV (prN L) k
def putN (L : NL) (k : NestedKey) (a : Addr) (v : V) : NL := if (getN L k).isSome = true then L.map (fun x => if x.1 = k then (x.1, x.2.1, v) else x) else L ++ [(k, a, v)]
def dropN (L : NL) (k : NestedKey) : NL := L.filter fun x => decide (x.1 ≠ k)
theorem prN_put (L : NL) (k : NestedKey) (a : Addr) (v : V) : prN (putN L k a v) = putK (prN L) k v := by
  unfold putN putK
  rw [valV_any]
  show prN (if (valV (prN L) k).isSome = true then _ else _) = _
  split
  · unfold prN
    rw [List.map_map, List.map_map]
    refine List.map_congr_left fun x _ => ?_
    by_cases h : x.1 = k <;> simp [h]
  · simp [prN]
theorem prN_len (L : NL) : (prN L).length = L.length := by simp [prN]
theorem putN_len (L : NL) (k : NestedKey) (a : Addr) (v : V) : (putN L k a v).length ≤ L.length + 1 := by
  rw [← prN_len, prN_put, ← prN_len L]
  exact length_putK _ _ _
abbrev NR : NL → List (NestedKey × Addr × Value) → Prop := Paired fun p q => q.1 = p.1 ∧ q.2.1 = p.2.1 ∧ RelV p.2.2 q.2.2
theorem NR.val {L : NL} {xs : List (NestedKey × Addr × Value)} (r : NR L xs) (k : NestedKey) : RelO (getN L k) ((atKey xs k).map (·.2)) := by
  unfold getN prN
  induction r with
  | nil => exact True.intro
  | @cons p q ps qs h t ih =>
    obtain ⟨h1, _, h2⟩ := h
    rw [List.map_cons]
    by_cases e : p.1 = k
    · have e' : q.1 = k := by rw [h1, e]
      have b : atKey (q :: qs) k = some q.2 := by simp [atKey, List.find?_cons, e']
      rw [valV_pos (p := (p.1, p.2.2)) e, b]; exact h2
    · have e' : ¬ q.1 = k := fun z => e (h1.symm.trans z)
      have b : atKey (q :: qs) k = atKey qs k := by simp [atKey, List.find?_cons, e']
      rw [valV_neg (p := (p.1, p.2.2)) e, b]; exact ih
theorem NR.repl {L : NL} {xs : List (NestedKey × Addr × Value)} (r : NR L xs) (k : NestedKey) {y : V} {u : Value} (ry : RelV y u) :
    NR (L.map fun x => if x.1 = k then (x.1, x.2.1, y) else x) (xs.map (putAt k u)) := by
  induction r with
  | nil => exact .nil
  | @cons p q ps qs h t ih =>
    rw [List.map_cons, List.map_cons]
    refine .cons ?_ ih
    obtain ⟨h1, h2, h3⟩ := h
    unfold putAt
    by_cases e : p.1 = k
    · rw [if_pos e, if_pos (by rw [h1, e])]; exact ⟨h1, h2, ry⟩
    · rw [if_neg e, if_neg (fun z => e (h1.symm.trans z))]; exact ⟨h1, h2, h3⟩
theorem NR.put {L : NL} {xs : List (NestedKey × Addr × Value)} (r : NR L xs) (k : NestedKey) {b : Addr} {y : V} {u : Value} (ry : RelV y u) : NR (putN L k b y) (storedH xs k b u) := by
  have e : (getN L k).isSome = (atKey xs k).isSome := by rw [(r.val k).isSome_eq, Option.isSome_map]
  unfold putN storedH
  rw [e]
  by_cases q : (atKey xs k).isSome = true
  · rw [if_pos q, if_pos q]; exact r.repl k ry
  · rw [if_neg q, if_neg q]; exact Paired.snoc r ⟨rfl, rfl, ry⟩
theorem NR.drop {L : NL} {xs : List (NestedKey × Addr × Value)} (r : NR L xs) (k : NestedKey) : NR (dropN L k) (withoutH xs k) := by
  unfold dropN withoutH
  induction r with
  | nil => exact .nil
  | @cons p q ps qs h t ih =>
    obtain ⟨h1, h2⟩ := h
    rw [List.filter_cons, List.filter_cons]
    by_cases e : p.1 = k
    · have a : ¬ decide (p.1 ≠ k) = true := by simp [e]
      have b : ¬ decide (q.1 ≠ k) = true := by simp [h1, e]
      rw [if_neg a, if_neg b]; exact ih
    · have e' : ¬ q.1 = k := fun z => e (h1.symm.trans z)
      have a : decide (p.1 ≠ k) = true := by simp [e]
      have b : decide (q.1 ≠ k) = true := by simp [e']
      rw [if_pos a, if_pos b]; exact .cons ⟨h1, h2⟩ ih
theorem NR.length {L : NL} {xs : List (NestedKey × Addr × Value)} (r : NR L xs) : L.length = xs.length := Paired.length r
/-- what is true of the dict's one object -/
def DNp (P : Program) (w : World) (d : Addr) (L : NL) (h : Heap) : Prop := L.length ≤ sizeLine ∧ (d == sysModules) = false ∧ ∃ xs, NR L xs ∧
  ∃ o es ep, h.get? d = some o ∧ o.ExactDict ∧ o.data = .dict es ep ∧ es.toList = xs.map (entryOfKey (nestedKind P w)) ∧ (xs.map (·.1)).Nodup
/-- the dict with the entries L stands at d -/
def DN (P : Program) (w : World) (d : Addr) (L : NL) : HO := .ext (DNp P w d L)
theorem dnp_at {P : Program} {w : World} {d : Addr} {L : NL} {h1 h2 : Heap} (x : DNp P w d L h1) (k : ∀ o, h1.get? d = some o → h2.get? d = some o) : DNp P w d L h2 := by
  obtain ⟨z, y, xs, r, o, es, ep, e, c⟩ := x
  exact ⟨z, y, xs, r, o, es, ep, k _ e, c⟩
theorem dn_ok {P : Program} {w : World} {d : Addr} {L : NL} {H : Hp} {h : Heap} (x : DNp P w d L h) : ObjOk P w H h d (DN P w d L) := by
  obtain ⟨z, y, xs, r, o, es, ep, e, c⟩ := id x
  exact ⟨x, ⟨o, e⟩, fun h1 h2 p k => dnp_at p k⟩
theorem dnp_of {P : Program} {w : World} {d : Addr} {L : NL} {H : Hp} {h : Heap} (ok : HOk P w H h) (e : Rd H d (DN P w d L)) : DNp P w d L h := (show ObjOk P w H h d (DN P w d L) from e.ok ok).1
/-- a dict that can be read, its keys standing -/
def NDict (P : Program) (w : World) (K : PySem.W.Frag) (H : Hp) (d : Addr) (L : NL) : Prop := Rd H d (DN P w d L) ∧ ∀ x ∈ L, KeyA K H x.2.1 x.1
section
variable {X : Cx} {pins : List (Addr × Obj)} {σ : L2.St} {H : Hp} {s : Shared} {d b : Addr} {L : NL} {k : NestedKey} {v z : V} {u r : Value} {A : Around} {E : Value → Shared → Prop}
mutual
theorem keyV_is (I : Inv X pins σ H s) : ∀ (k : NestedKey) (v : V) (u : Value), KeyV X.K H k v → RelV v u → NestedIs s.heap k u
  | .none, _, _, x, r => by cases x; obtain rfl := (show _ = Value.none from r); exact .none
  | .num i, _, _, x, r => by
    cases x with
    | bool b => obtain rfl := (show _ = Value.bool b from r); exact .bool rfl
    | int _ => obtain ⟨t, rfl⟩ := (show ∃ t, _ = Value.int i t from r); exact .int _ _
  | .text x, _, _, h, r => by cases h; obtain ⟨t, rfl⟩ := (show ∃ t, _ = Value.str x t from r); exact .text _ _
  | .tup ks, _, _, h, r => by
    cases h with
    | @tup a xs _ h1 h2 =>
      obtain rfl := (show _ = Value.ref a from r)
      obtain ⟨its, rv, ⟨o, e1, e2, n, e3⟩, _⟩ := I.tuple h1
      exact .tup e1 e2 e3 (by simpa using keyAll_is I ks _ _ h2 rv)
theorem keyAll_is (I : Inv X pins σ H s) : ∀ (ks : List NestedKey) (vs : List V) (us : List Value), KeyAll X.K H ks vs → Vals vs us → NestedAll s.heap ks us
  | [], _, _, x, r => by cases x; cases r; exact .nil
  | k :: ks, _, _, x, r => by
    cases x with
    | cons h1 h2 =>
      cases r with
      | cons r1 r2 => exact .cons (keyV_is I k _ _ h1 r1) (keyAll_is I ks _ _ h2 r2)
end
theorem nkey_of (I : Inv X pins σ H s) (h : KeyA X.K H b k) : (nestedKind X.prog X.w).is s.heap k b := ⟨keyV_is I k _ _ h.1 rfl, h.2⟩
theorem dn_rd (I : Inv X pins σ H s) (e : NDict X.prog X.w X.K H d L) : L.length ≤ sizeLine ∧ (d == sysModules) = false ∧ ∃ xs, NR L xs ∧ s.heap.DictOfH (nestedKind X.prog X.w) d xs := by
  obtain ⟨e, hk⟩ := e
  obtain ⟨z, y, xs, r, o, es, ep, h1, h2, h3, h4, h5⟩ := dnp_of I.hok e
  refine ⟨z, y, xs, r, o, es, ep, h1, h2, h3, h4, fun x hx => ?_, h5⟩
  have all : ∀ {l : NL} {m : List (NestedKey × Addr × Value)}, NR l m → (∀ x ∈ l, KeyA X.K H x.2.1 x.1) → ∀ x ∈ m, (nestedKind X.prog X.w).is s.heap x.1 x.2.1 := by
    intro l m q
    induction q with
    | nil => intro _ x hx; exact nomatch hx
    | @cons p q ps qs hq t ih =>
      intro hl x hx
      rcases List.mem_cons.mp hx with e | hx
      · subst e
        rw [hq.1, hq.2.1]
        exact nkey_of I (hl p List.mem_cons_self)
      · exact ih (fun y hy => hl y (List.mem_cons_of_mem _ hy)) x hx
  exact all r hk x hx
theorem roomN (hu : A.units + 64 < cLine) : (nestedKind X.prog X.w).room A.in1 := by
  show A.units + 1 + 8 < cLine
  omega
theorem n_getItem {Q : Value → Shared → Prop} (hu : A.units + 64 < cLine) (I : Inv X pins σ H s) (e : NDict X.prog X.w X.K H d L) (hb : KeyA X.K H b k) (hv : getN L k = some v) (h : ∀ w' s', Inv X pins σ H s' → RelV v w' → Q w' s') :
    wpAny (model X.prog X.w) A (getItem (.ref d) (.ref b)) Q E s := by
  obtain ⟨z, hd, xs, rel, dd⟩ := dn_rd I e
  obtain ⟨w', hw, rw'⟩ := RelO.some_of (v := v) (o := (atKey xs k).map (·.2)) (by rw [← hv]; exact rel.val k)
  obtain ⟨p, hp, hp2⟩ := Option.map_eq_some_iff.mp hw
  refine wpAny_getItem_heap (roomN (X := X) hu) (nkey_of I hb) dd hp ?_
  rw [hp2]
  exact h w' _ (I.tok _) rw'
theorem n_notIn {Q : Value → Shared → Prop} (hu : A.units + 64 < cLine) (I : Inv X pins σ H s) (e : NDict X.prog X.w X.K H d L) (hb : KeyA X.K H b k) (h : ∀ s', Inv X pins σ H s' → Q (.bool (!(getN L k).isSome)) s') :
    wpAny (model X.prog X.w) A (compareOp .NotIn (.ref b) (.ref d)) Q E s := by
  obtain ⟨z, hd, xs, rel, dd⟩ := dn_rd I e
  refine wpAny_notIn_heap (roomN (X := X) hu) (nkey_of I hb) hd dd ?_
  have q := (rel.val k).isSome_eq
  rw [Option.isSome_map] at q
  rw [← q]
  exact h _ (I.tok _)
theorem n_write {L' : NL} {xs : List (NestedKey × Addr × Value)} {h' : Heap} {t' : Nat} (I : Inv X pins σ H s) (e : H d = some (DN X.prog X.w d L)) (hl : L'.length ≤ sizeLine) (rel : NR L' xs) (dd : h'.DictOfH (nestedKind X.prog X.w) d xs) (hs : Heap.SameBut d s.heap h') :
    Inv X pins σ (upd H d (DN X.prog X.w d L')) { s with heap := h', toks := t' } := by
  obtain ⟨_, hd, _⟩ := dnp_of I.hok (.inl e)
  obtain ⟨q, es, ep, hq, h2, h3, h4, _, h5⟩ := dd
  exact d_write I (by rw [e]; exact True.intro) hs ⟨q, hq⟩ (dn_ok ⟨hl, hd, xs, rel, q, es, ep, hq, h2, h3, h4, h5⟩)
theorem n_setItem {Q : Unit → Shared → Prop} (hu : A.units + 64 < cLine) (I : Inv X pins σ H s) (e : H d = some (DN X.prog X.w d L)) (hk : ∀ x ∈ L, KeyA X.K H x.2.1 x.1) (hb : KeyA X.K H b k) (hz : L.length < sizeLine) (rv : RelV v r)
    (h : ∀ s', Inv X pins σ (upd H d (DN X.prog X.w d (putN L k b v))) s' → Q () s') : wpAny (model X.prog X.w) A (setItem (.ref d) (.ref b) r) Q E s := by
  obtain ⟨z, hd, xs, rel, dd⟩ := dn_rd I ⟨.inl e, hk⟩
  have hz' : xs.length ≤ sizeLine := by rw [← rel.length]; exact z
  exact wpAny_setItem_heap (hsz := hz') (roomN (X := X) hu) (nkey_of I hb) dd fun h' dd' hs => h _ (n_write I e (by have := putN_len L k b v; omega) (rel.put k rv) dd' hs)
theorem n_dictSet {Q : Unit → Shared → Prop} (hu : A.units + 64 < cLine) (I : Inv X pins σ H s) (e : H d = some (DN X.prog X.w d L)) (hk : ∀ x ∈ L, KeyA X.K H x.2.1 x.1) (hb : KeyA X.K H b k) (hz : L.length < sizeLine) (rv : RelV v r)
    (h : ∀ s', Inv X pins σ (upd H d (DN X.prog X.w d (putN L k b v))) s' → Q () s') : wpAny (model X.prog X.w) A (dictSet d (.ref b) r) Q E s := by
  obtain ⟨z, hd, xs, rel, dd⟩ := dn_rd I ⟨.inl e, hk⟩
  have hz' : xs.length ≤ sizeLine := by rw [← rel.length]; exact z
  exact wpAny_dictSet_heap (hsz := hz') (show A.units + 8 < cLine by omega) (nkey_of I hb) dd fun h' dd' hs => h _ (n_write I e (by have := putN_len L k b v; omega) (rel.put k rv) dd' hs)
theorem n_raw (I : Inv X pins σ H s) (e : Rd H d (DN X.prog X.w d L)) : L.length ≤ sizeLine ∧ (d == sysModules) = false ∧ ∃ es ep, s.heap.DictRaw d es ep ∧ es.size = L.length ∧
    ∀ (i : Nat) (x : NestedKey × Addr × V), L[i]? = some x → ∃ en, es[i]? = some en ∧ en.key = .ref x.2.1 ∧ RelV x.2.2 en.val := by
  obtain ⟨z, hd, xs, rel, o, es, ep, ho, hx, hdt, he, hn⟩ := dnp_of I.hok e
  refine ⟨z, hd, es, ep, ⟨o, ho, hx, hdt⟩, by rw [size_of_entries he, ← rel.length], fun i x hi => ?_⟩
  obtain ⟨y, hy, e1, e2, e3⟩ := paired_get rel hi
  have q := entry_at he i
  rw [hy] at q
  exact ⟨_, q, congrArg Value.ref e2, e3⟩
end
end Gx
set_option maxRecDepth 100000
set_option maxHeartbeats 4000000
namespace Gx
open PySem PySem.Spec PyProof.Rows L2
section
variable {P : Program} {w : World}
/-- v holds nothing of a class statement, n levels down -/
def Plainly (P : Program) (w : World) (n : Nat) (s : Shared) (v : Value) : Prop := ∀ (A : Around) (E : Value → Shared → Prop) (Q : Bool → Shared → Prop), Q false s → wpAny (model P w) A (ofAClassStatement n v) Q E s
/-- whether the hash goes by value is told, n levels down -/
def Sayable (P : Program) (w : World) (n : Nat) (s : Shared) (v : Value) : Prop := ∀ (A : Around) (E : Value → Shared → Prop) (Q : Bool → Shared → Prop), (∀ b, Q b s) → wpAny (model P w) A (hashByValue n v) Q E s
theorem Plainly.tuple {n : Nat} {s : Shared} {a : Addr} {ob : Obj} {its : Array Value} {m : Nat} (e1 : s.heap.get? a = some ob) (e2 : ob.cls = .type "tuple") (e3 : ob.data = .seq its m) (all : ∀ v ∈ its.toList, Plainly P w n s v) : Plainly P w (n + 1) s (.ref a) := fun A E Q q => by
  have tp : s.TypeIs (.ref a) "tuple" := ⟨ob, e1, e2⟩
  unfold ofAClassStatement
  refine wpAny_bind <| wpAny_typeOf tp ?_
  dsimp only
  have same : (("tuple" : String) == "tuple") = true := by decide
  simp only [same, if_true, Bool.not_true, Bool.false_eq_true, if_false]
  try refine wpAny_bind (wpAny_pure ?_)
  try simp only [Bool.not_true, Bool.false_eq_true, if_false]
  refine wpAny_bind <| wpAny_seqItems e1 e3 ?_
  dsimp only
  refine wpAny_bind ?_
  show wpAny _ _ (forIn its _ _) _ _ s
  rw [← Array.forIn_toList]
  refine wpAny_forIn_list _ (fun left r st => (r.1 = none ∧ st = s) ∧ ∀ v ∈ left, Plainly P w n s v) _ ?_ ?_ _ _ ⟨⟨rfl, rfl⟩, all⟩
  · rintro v left r st ⟨⟨_, rfl⟩, every⟩
    refine wpAny_bind <| every v List.mem_cons_self _ _ _ ?_
    simp only [Bool.false_eq_true, if_false]
    exact wpAny_pure ⟨⟨rfl, rfl⟩, fun u m => every u (List.mem_cons_of_mem _ m)⟩
  · rintro ⟨r1, r2⟩ st ⟨⟨c, rfl⟩, _⟩
    dsimp only at c
    subst c
    exact wpAny_pure q
theorem Sayable.tuple {n : Nat} {s : Shared} {a : Addr} {ob : Obj} {its : Array Value} {m : Nat} (e1 : s.heap.get? a = some ob) (e2 : ob.cls = .type "tuple") (e3 : ob.data = .seq its m) (all : ∀ v ∈ its.toList, Sayable P w n s v) : Sayable P w (n + 1) s (.ref a) := fun A E Q q => by
  have tp : s.TypeIs (.ref a) "tuple" := ⟨ob, e1, e2⟩
  unfold hashByValue
  refine wpAny_bind <| wpAny_specialOf tp F.slot_tuple_hash.lookup ?_
  dsimp only
  refine wpAny_bind <| wpAny_seqItems e1 e3 ?_
  refine wpAny_bind ?_
  show wpAny _ _ (forIn its _ _) _ _ s
  rw [← Array.forIn_toList]
  refine wpAny_forIn_list _ (fun left r st => (r.1 = none ∧ st = s) ∧ ∀ v ∈ left, Sayable P w n s v) _ ?_ ?_ _ _ ⟨⟨rfl, rfl⟩, all⟩
  · rintro v left r st ⟨⟨_, rfl⟩, every⟩
    refine wpAny_bind <| every v List.mem_cons_self _ _ _ fun b => ?_
    cases b
    · simp only [Bool.not_false, if_true]
      exact wpAny_pure (wpAny_pure (q false))
    · simp only [Bool.not_true, Bool.false_eq_true, if_false]
      exact wpAny_pure ⟨⟨rfl, rfl⟩, fun u m => every u (List.mem_cons_of_mem _ m)⟩
  · rintro ⟨r1, r2⟩ st ⟨⟨c, rfl⟩, _⟩
    dsimp only at c
    subst c
    exact wpAny_pure (q true)
mutual
theorem plainly_key : ∀ (k : NestedKey) (v : Value) (n : Nat) (s : Shared), NestedIs s.heap k v → k.depth ≤ n → Plainly P w n s v
  | .none, _, n, s, x, _ => by cases x; exact fun A E Q q => by cases n <;> exact wpAny_pure q
  | .num i, _, n, s, x, _ => by cases x <;> exact fun A E Q q => by cases n <;> exact wpAny_pure q
  | .text y, _, n, s, x, _ => by cases x; exact fun A E Q q => by cases n <;> exact wpAny_pure q
  | .tup ks, _, n, s, x, low => by
    cases x with
    | tup e1 e2 e3 each =>
      rw [NestedKey.depth] at low
      obtain ⟨n, rfl⟩ : ∃ j, n = j + 1 := ⟨n - 1, by omega⟩
      exact .tuple e1 e2 e3 (plainly_keys ks _ n s each (by omega))
theorem plainly_keys : ∀ (ks : List NestedKey) (vs : List Value) (n : Nat) (s : Shared), NestedAll s.heap ks vs → NestedKey.depthAll ks ≤ n → ∀ v ∈ vs, Plainly P w n s v
  | [], _, n, s, x, _, v, m => by cases x; cases m
  | k :: ks, _, n, s, x, low, v, m => by
    cases x with
    | cons x1 x2 =>
      rw [NestedKey.depthAll] at low
      rcases List.mem_cons.mp m with e | m
      · subst e; exact plainly_key k _ n s x1 (by omega)
      · exact plainly_keys ks _ n s x2 (by omega) v m
end
mutual
theorem sayable_key : ∀ (k : NestedKey) (v : Value) (n : Nat) (s : Shared), NestedIs s.heap k v → k.depth ≤ n → Sayable P w n s v
  | .none, _, n, s, x, _ => by cases x; exact fun A E Q q => by cases n <;> exact wpAny_pure (q _)
  | .num i, _, n, s, x, _ => by cases x <;> exact fun A E Q q => by cases n <;> exact wpAny_pure (q _)
  | .text y, _, n, s, x, _ => by cases x; exact fun A E Q q => by cases n <;> exact wpAny_pure (q _)
  | .tup ks, _, n, s, x, low => by
    cases x with
    | tup e1 e2 e3 each =>
      rw [NestedKey.depth] at low
      obtain ⟨n, rfl⟩ : ∃ j, n = j + 1 := ⟨n - 1, by omega⟩
      exact .tuple e1 e2 e3 (sayable_keys ks _ n s each (by omega))
theorem sayable_keys : ∀ (ks : List NestedKey) (vs : List Value) (n : Nat) (s : Shared), NestedAll s.heap ks vs → NestedKey.depthAll ks ≤ n → ∀ v ∈ vs, Sayable P w n s v
  | [], _, n, s, x, _, v, m => by cases x; cases m
  | k :: ks, _, n, s, x, low, v, m => by
    cases x with
    | cons x1 x2 =>
      rw [NestedKey.depthAll] at low
      rcases List.mem_cons.mp m with e | m
      · subst e; exact sayable_key k _ n s x1 (by omega)
      · exact sayable_keys ks _ n s x2 (by omega) v m
end
end
/-- at b stands the key k, in the true heap -/
def IsN (h : Heap) (k : NestedKey) (b : Addr) : Prop := NestedIs h k (.ref b) ∧ k.depth ≤ 8
theorem IsN.keep {h h' : Heap} {k : NestedKey} {b : Addr} (x : IsN h k b) (kp : ∀ c o its n, h.get? c = some o → o.data = .seq its n → h'.get? c = some o) : IsN h' k b := ⟨NestedIs.at kp k _ x.1, x.2⟩
theorem IsN.one {h : Heap} {k k' : NestedKey} {b : Addr} (x : IsN h k b) (y : IsN h k' b) : k = k' := NestedIs.inj _ _ _ x.1 y.1
abbrev NMs := List (Addr × NestedKey)
def rowsN (w : World) (L : NMs) : List (Int × Value) := L.map fun p => (p.2.hash w, Value.ref p.1)
abbrev hashN (w : World) (L : NMs) : List Int := L.map fun p => p.2.hash w
/-- the set's own object: its rows and its table -/
structure SetNAt (w : World) (h : Heap) (a : Addr) (L : NMs) (es : Array (Int × Value)) (ep : Nat) (t : SetTable) : Prop where
  here : ∃ ob, h.get? a = some ob ∧ ob.ExactSet ∧ ob.data = .set es ep t
  rows : es.toList = rowsN w L
  tab : TabOk t (hashN w L)
  once : (L.map (·.2)).Nodup
  led : w.params.followText "set-order" = true ∨ t.led = true
  room : L.length * 5 < t.mask * 3
  few : L.length < 64
section
variable {P : Program} {w : World} {A : Around} {E : Value → Shared → Prop} {s : Shared} {a : Addr} {L : NMs} {es : Array (Int × Value)} {ep : Nat} {t : SetTable}
theorem rowsN_len {L : NMs} {es : Array (Int × Value)} (e : es.toList = rowsN w L) : es.size = L.length := by
  have q := congrArg List.length e
  simpa [rowsN] using q
theorem rowsN_get {L : NMs} {es : Array (Int × Value)} (e : es.toList = rowsN w L) {i : Nat} {p : Addr × NestedKey} (g : L[i]? = some p) : es[i]? = some (p.2.hash w, Value.ref p.1) := by
  rw [← Array.getElem?_toList, e, rowsN, List.getElem?_map, g]
  rfl
theorem SetNAt.ft (R : SetNAt w s.heap a L es ep t) : t.fits es.size = true := by
  have z1 : t.place.size = L.length := by rw [R.tab.sz]; simp [hashN]
  have z2 := rowsN_len R.rows
  have z3 := R.room
  simp only [SetTable.fits, SetTable.fill, R.tab.dm, Bool.and_eq_true, beq_iff_eq, decide_eq_true_eq]
  show t.place.size = es.size ∧ t.place.size + 0 ≤ t.mask
  omega
theorem SetNAt.stays (R : SetNAt w s.heap a L es ep t) : ¬ t.gaveWay = true := by
  rw [SetTable.gaveWay, mask_odd R.tab.mok]
  decide
/-- asking among keys shows nothing -/
theorem unseen_key {k : NestedKey} {b : Addr} {Q : Bool → Shared → Prop} (x : IsN s.heap k b) {ys : List Value} (all : ∀ y ∈ ys, ∃ k' c, y = Value.ref c ∧ IsN s.heap k' c) (q : Q false s) :
    wpAny (model P w) A (searchCouldBeSeen (.ref b) ys) Q E s := by
  unfold searchCouldBeSeen
  refine wpAny_bind ?_
  refine wpAny_forIn_list _ (fun left r st => (r.1 = none ∧ st = s) ∧ ∀ y ∈ left, ∃ k' c, y = Value.ref c ∧ IsN s.heap k' c) _ ?_ ?_ _ _ ⟨⟨rfl, rfl⟩, all⟩
  · rintro v left r st ⟨⟨_, rfl⟩, every⟩
    obtain ⟨k', c, rfl, xc⟩ := every v List.mem_cons_self
    have rest : ∀ y ∈ left, ∃ k' c, y = Value.ref c ∧ IsN st.heap k' c := fun u m => every u (List.mem_cons_of_mem _ m)
    dsimp only
    by_cases very : (b == c || (carriedByValue (.ref b) && carriedByValue (.ref c))) = true
    · exact wp_if_pos very (wpAny_pure ⟨⟨rfl, rfl⟩, rest⟩)
    · refine wp_if_neg very ?_
      refine wpAny_bind <| quiet_key k _ 8 st x.1 x.2 _ _ _ ?_
      simp only [Bool.not_true, Bool.false_eq_true, if_false]
      refine wpAny_bind <| quiet_key k' _ 8 st xc.1 xc.2 _ _ _ ?_
      simp only [Bool.not_true, Bool.false_eq_true, if_false]
      refine wpAny_bind <| plainly_key k _ 8 st x.1 x.2 _ _ _ ?_
      simp only [Bool.false_eq_true, if_false]
      refine wpAny_bind <| plainly_key k' _ 8 st xc.1 xc.2 _ _ _ ?_
      simp only [Bool.false_eq_true, if_false]
      exact wpAny_pure ⟨⟨rfl, rfl⟩, rest⟩
  · rintro ⟨r1, r2⟩ st ⟨⟨c, rfl⟩, _⟩
    dsimp only at c
    subst c
    exact wpAny_pure q
theorem same_key {k k' : NestedKey} {b c : Addr} {Q : Bool → Shared → Prop} (room : A.units + 9 < cLine) (x : IsN s.heap k b) (y : IsN s.heap k' c) (q : Q (decide (k = k')) s) :
    wpAny (model P w) A (eqBool (.ref b) (.ref c)) Q E s :=
  (nestedKind P w).eqBool (show A.units + 8 < cLine by omega) x y q
/-- the start of the way of h -/
abbrev pr0 (m : Nat) (h : Int) : SetTable.Probe := runAt m (SetTable.bits h % (m + 1)) (SetTable.bits h)
theorem nth_dummy (m : Nat) : ∀ (n : Nat) (p : SetTable.Probe), p.dummy = none → (nth m p n).dummy = none
  | 0, _, e => e
  | n + 1, p, e => nth_dummy m n (adv m p) (by unfold adv; split <;> exact e)
/-- the search for the key k, from the c-th step of its way on -/
theorem seek_key (R : SetNAt w s.heap a L es ep t) (tup : ∀ p ∈ L, IsN s.heap p.2 p.1) {x : Addr} {k : NestedKey} {adding : Bool} (hx : IsN s.heap k x) (room : A.units + 9 < cLine) {K : Nat} (bound : K < 10 * SetTable.turns t.mask)
    (free : way t.mask (k.hash w) K ∉ t.place.toList) (taken : ∀ c, c < K → way t.mask (k.hash w) c ∈ t.place.toList) {Q : SetFound → Shared → Prop}
    (yes : k ∈ L.map (·.2) → ∀ r, Q (.there r) s) (no : k ∉ L.map (·.2) → Q (.free (way t.mask (k.hash w) K) false) s) :
    ∀ (f c : Nat) (stand : Option SetTable.Probe), stand.getD (t.probeStart (k.hash w)) = nth t.mask (pr0 t.mask (k.hash w)) c → c ≤ K → K - c < f →
      (∀ (i : Nat) p, L[i]? = some p → p.2 = k → ∃ c', c ≤ c' ∧ c' < K ∧ t.place.toList[i]? = some (way t.mask (k.hash w) c')) →
      wpAny (model P w) A (setSearchFrom a (.ref x) (k.hash w) adding f stand) Q E s
  | 0, c, stand, _, _, less, _ => absurd less (Nat.not_lt_zero _)
  | f + 1, c, stand, from', upto, less, ahead => by
    obtain ⟨ob, here, ex, dt⟩ := R.here
    rw [setSearchFrom_succ]
    refine wpAny_bind <| wpAny_setState_of here dt R.ft ?_
    dsimp only
    refine wp_if_neg R.stays ?_
    try refine wpAny_bind (wpAny_pure ?_)
    have dum : (nth t.mask (pr0 t.mask (k.hash w)) c).dummy = none := nth_dummy _ _ _ rfl
    have on : ∀ q, nth t.mask (nth t.mask (pr0 t.mask (k.hash w)) c) q = nth t.mask (pr0 t.mask (k.hash w)) (c + q) := fun q => (nth_add t.mask c _ q).symm
    have onj : ∀ q, (nth t.mask (nth t.mask (pr0 t.mask (k.hash w)) c) q).j = way t.mask (k.hash w) (c + q) := fun q => congrArg SetTable.Probe.j (on q)
    have hashed : ∀ (i : Nat) p, L[i]? = some p → (fun i => (es[i]?.map (·.1)).getD 0) i = p.2.hash w := fun i p g => by
      show (es[i]?.map (·.1)).getD 0 = _
      rw [rowsN_get R.rows g]
      rfl
    rcases go_spec t R.tab.ris R.tab.dm (fun i => (es[i]?.map (·.1)).getD 0) (k.hash w) (10 * SetTable.turns t.mask) (K - c) _ dum (by omega)
        (fun q lt => by rw [onj]; exact taken (c + q) (by omega)) (by rw [onj, show c + (K - c) = K by omega]; exact free) with ⟨q, i, lt, at_, _, none_, probed⟩ | ⟨none_, probed⟩
    · have asked : t.probe (fun i => (es[i]?.map (·.1)).getD 0) (k.hash w) (stand.getD (t.probeStart (k.hash w))) = some (.candidate (way t.mask (k.hash w) (c + q)) i (nth t.mask (pr0 t.mask (k.hash w)) (c + (q + 1)))) := by
        rw [from', ← onj, ← on]
        exact probed
      rw [asked]
      dsimp only
      rw [onj] at at_
      have il : i < L.length := by
        have q1 : i < t.place.toList.length := (List.getElem?_eq_some_iff.mp at_).1
        have q2 : t.place.size = L.length := by rw [R.tab.sz]; simp [hashN]
        rw [Array.length_toList] at q1
        omega
      obtain ⟨p, gp⟩ : ∃ p, L[i]? = some p := ⟨_, List.getElem?_eq_getElem il⟩
      have pm : p ∈ L := List.mem_of_getElem? gp
      have rest : wpAny (model P w) A (searchRest a (.ref x) (k.hash w) adding f es t (way t.mask (k.hash w) (c + q)) i (nth t.mask (pr0 t.mask (k.hash w)) (c + (q + 1)))) Q E s := by
        unfold searchRest
        rw [rowsN_get R.rows gp]
        dsimp only
        refine wpAny_bind <| wpAny_holding <| same_key room (tup p pm) hx ?_
        refine wpAny_bind <| wpAny_setState_of here dt R.ft ?_
        dsimp only
        have live : t.slot (way t.mask (k.hash w) (c + q)) = .live i := slot_live R.tab.ris at_
        by_cases eqk : p.2 = k
        · have inL : k ∈ L.map (·.2) := List.mem_map.mpr ⟨p, pm, eqk⟩
          cases adding
          · refine wp_if_neg (by simp) ?_
            try refine wpAny_bind (wpAny_pure ?_)
            rw [sameMem]
            dsimp only
            simp only [if_true, live, rowsN_get R.rows gp]
            refine wpAny_bind (wpAny_isSame_ref_self (wpAny_bind (wpAny_pure ?_)))
            simp only [if_true]
            exact wp_if_pos (by simp [eqk]) (wpAny_pure (yes inL _))
          · exact wp_if_pos (by simp [eqk]) (wpAny_pure (yes inL _))
        · refine wp_if_neg (by simp [eqk]) ?_
          try refine wpAny_bind (wpAny_pure ?_)
          rw [sameMem]
          dsimp only
          simp only [if_true, live, rowsN_get R.rows gp]
          refine wpAny_bind (wpAny_isSame_ref_self (wpAny_bind (wpAny_pure ?_)))
          simp only [if_true]
          refine wp_if_neg (by simp [eqk]) ?_
          refine seek_key R tup hx room bound free taken yes no f (c + (q + 1)) _ rfl (by omega) (by omega) fun i0 p0 g0 ek => ?_
          obtain ⟨c', l1, l2, g2⟩ := ahead i0 p0 g0 ek
          refine ⟨c', ?_, l2, g2⟩
          rcases Nat.lt_trichotomy c' (c + q) with z | z | z
          · exact absurd ((hashed i0 p0 g0).trans (congrArg (NestedKey.hash w) ek)) (none_ (c' - c) i0 (by omega) (by rw [onj, show c + (c' - c) = c' by omega]; exact g2))
          · exfalso
            subst z
            have l0 := slot_live R.tab.ris g2
            rw [live] at l0
            injection l0 with l0
            subst l0
            rw [gp] at g0
            exact eqk ((congrArg Prod.snd (Option.some.inj g0)).trans ek)
          · omega
      by_cases led : t.led = true
      · refine wp_if_neg (by simp [led]) ?_
        try refine wpAny_bind (wpAny_pure ?_)
        exact rest
      · refine wp_if_pos (by simp [led]) ?_
        refine wpAny_bind <| unseen_key hx (fun y my => ?_) ?_
        · obtain ⟨e, me, ee⟩ := List.mem_map.mp my
          have me2 : e ∈ es.toList := by
            have m3 : e ∈ es ∧ e.1 = k.hash w := by simpa using me
            simpa using m3.1
          rw [R.rows] at me2
          obtain ⟨p2, mp2, e2⟩ := List.mem_map.mp me2
          exact ⟨p2.2, p2.1, by rw [← ee, ← e2], tup p2 mp2⟩
        · refine wp_if_neg (by decide) ?_
          try refine wpAny_bind (wpAny_pure ?_)
          exact rest
    · have asked : t.probe (fun i => (es[i]?.map (·.1)).getD 0) (k.hash w) (stand.getD (t.probeStart (k.hash w))) = some (.empty (way t.mask (k.hash w) K) none) := by
        have e2 : way t.mask (k.hash w) K = (nth t.mask (nth t.mask (pr0 t.mask (k.hash w)) c) (K - c)).j := by rw [onj, show c + (K - c) = K by omega]
        rw [from', e2]
        exact probed
      rw [asked]
      dsimp only
      refine wpAny_pure (no fun mem => ?_)
      obtain ⟨p0, m0, ek⟩ := List.mem_map.mp mem
      obtain ⟨i0, lt0, e0⟩ := List.getElem_of_mem m0
      have g0 : L[i0]? = some p0 := by rw [List.getElem?_eq_getElem lt0, e0]
      obtain ⟨c', l1, l2, g2⟩ := ahead i0 p0 g0 ek
      exact none_ (c' - c) i0 (by omega) (by rw [onj, show c + (c' - c) = c' by omega]; exact g2) ((hashed i0 p0 g0).trans (congrArg (NestedKey.hash w) ek))
theorem seek_from (R : SetNAt w s.heap a L es ep t) (tup : ∀ p ∈ L, IsN s.heap p.2 p.1) {x : Addr} {k : NestedKey} {adding : Bool} (hx : IsN s.heap k x) (room : A.units + 9 < cLine) {Q : SetFound → Shared → Prop}
    (yes : k ∈ L.map (·.2) → ∀ r, Q (.there r) s)
    (no : ∀ K, k ∉ L.map (·.2) → way t.mask (k.hash w) K ∉ t.place.toList → (∀ c, c < K → way t.mask (k.hash w) c ∈ t.place.toList) → Q (.free (way t.mask (k.hash w) K) false) s) :
    wpAny (model P w) A (setSearch a (.ref x) (k.hash w) adding) Q E s := by
  have rm := R.room
  obtain ⟨K, bound, free, taken⟩ := R.tab.first (by simp only [hashN, List.length_map]; omega) (k.hash w)
  have small : K < 100000 := by
    have : 10 * SetTable.turns t.mask ≤ 1420 := by
      unfold SetTable.turns
      rcases R.tab.mok with e | e | e <;> omega
    omega
  unfold setSearch
  refine seek_key R tup hx room bound free taken yes (fun n => no K n free taken) 100000 0 none rfl (Nat.zero_le _) (by omega) fun i p g ek => ?_
  have gh : (hashN w L)[i]? = some (k.hash w) := by rw [hashN, List.getElem?_map, g, ← ek]; rfl
  have il : i < t.place.toList.length := by
    have q1 : i < L.length := (List.getElem?_eq_some_iff.mp g).1
    have q2 : t.place.size = L.length := by rw [R.tab.sz]; simp [hashN]
    rw [Array.length_toList]
    omega
  have gj := List.getElem?_eq_getElem il
  obtain ⟨c, lt, e⟩ := R.tab.before free gh gj
  exact ⟨c, Nat.zero_le _, lt, by rw [gj, e]⟩
end
end Gx
set_option maxRecDepth 100000
set_option maxHeartbeats 4000000
namespace Gx
open PySem PySem.Spec PyProof.Rows L2
section
variable {P : Program} {w : World} {A : Around} {E : Value → Shared → Prop} {s : Shared} {a : Addr} {L : NMs} {es : Array (Int × Value)} {ep : Nat} {t : SetTable}
/-- rows taken in another order -/
theorem reorder : ∀ (l : List Nat) (L : NMs) (es : Array (Int × Value)), es.toList = rowsN w L → (∀ i ∈ l, i < L.length) →
    l.filterMap (fun i => es[i]?) = rowsN w (l.filterMap fun i => L[i]?) ∧ (hashN w (l.filterMap fun i => L[i]?)) = l.map fun i => (es.map (·.1)).getD i 0
  | [], _, _, _, _ => ⟨rfl, rfl⟩
  | i :: l, L, es, e, lt => by
    have li := lt i List.mem_cons_self
    obtain ⟨q1, q2⟩ := reorder l L es e fun j m => lt j (List.mem_cons_of_mem _ m)
    have g : L[i]? = some L[i] := List.getElem?_eq_getElem li
    have ge := rowsN_get e g
    constructor
    · rw [List.filterMap_cons_some ge, List.filterMap_cons_some g, q1]
      rfl
    · rw [List.filterMap_cons_some g]
      show L[i].2.hash w :: hashN w _ = _ :: _
      rw [q2]
      have h1 : (es.map (·.1)).getD i 0 = L[i].2.hash w := by
        have h2 : (es.map (·.1))[i]? = some (L[i].2.hash w) := by rw [Array.getElem?_map, ge]; rfl
        simp [Array.getD_eq_getD_getElem?, h2]
      exact congrArg (· :: _) h1.symm
theorem all_places : ∀ (n : Nat) (L : NMs), n ≤ L.length → (List.range n).filterMap (fun i => L[i]?) = L.take n
  | 0, _, _ => rfl
  | n + 1, L, le => by
    rw [List.range_succ, List.filterMap_append, all_places n L (Nat.le_of_lt le), List.take_succ, List.getElem?_eq_getElem le, List.filterMap_cons_some (List.getElem?_eq_getElem le)]
    rfl
/-- the table is laid anew, larger -/
theorem relayN {ob : Obj} (here : s.heap.get? a = some ob) (ex : ob.ExactSet) (dt : ob.data = .set es ep t) (rows : es.toList = rowsN w L) (sz : t.place.size = es.size) (dum : t.dummies = #[]) (fl : es.size ≤ t.mask)
    (once : (L.map (·.2)).Nodup) (led : w.params.followText "set-order" = true ∨ t.led = true) (few : L.length < 64) {wanted M : Nat}
    (size : SetTable.sizeAbove wanted - 1 = M) (ok : MaskOk M) (upto : SetTable.sizeAbove wanted ≤ 128) (room : L.length * 5 < M * 3) {Q : Unit → Shared → Prop}
    (hQ : ∀ h' L' es' ep' t', Heap.SameBut a s.heap h' → SetNAt w h' a L' es' ep' t' → L'.Perm L → Q () { s with heap := h' }) : wpAny (model P w) A (setRelay a wanted) Q E s := by
  have len := rowsN_len rows
  have ft : t.fits es.size = true := by
    simp only [SetTable.fits, SetTable.fill, dum, Bool.and_eq_true, beq_iff_eq, decide_eq_true_eq]
    show t.place.size = es.size ∧ t.place.size + 0 ≤ t.mask
    omega
  obtain ⟨t2, order, laid, pm, T, em, el, _, _⟩ := relaid_ok t (hs := es.map (·.1)) (wanted := wanted) size ok (by rw [Array.size_map, len]; omega)
  rw [Array.size_map, len] at pm
  obtain ⟨r1, r3⟩ := reorder (w := w) order.toList L es rows fun i m => List.mem_range.mp (pm.mem_iff.mp m)
  have r2 : (order.toList.filterMap fun i => L[i]?).Perm L := by
    have q := pm.filterMap fun i => L[i]?
    rw [all_places L.length L (Nat.le_refl _), List.take_length] at q
    exact q
  have r1' : (order.filterMap (es[·]?)).toList = rowsN w (order.toList.filterMap fun i => L[i]?) := by first | (rw [Array.toList_filterMap]; exact r1) | simpa using r1
  rw [← r3] at T
  generalize order.toList.filterMap (fun i => L[i]?) = L2 at r1' r2 T
  have sz2 : (order.filterMap (es[·]?)).size = es.size := by rw [rowsN_len r1', r2.length_eq, len]
  rw [setRelay_eq]
  refine wpAny_bind <| wpAny_setState_of here dt ft ?_
  dsimp only
  refine wp_if_neg (by rw [sizeLine_eq]; omega) ?_
  try refine wpAny_bind (wpAny_pure ?_)
  rw [laid]
  dsimp only
  refine wpAny_bind ?_
  refine wp_if_neg (by rw [sz2]; simp) ?_
  try refine wpAny_bind (wpAny_pure ?_)
  refine wpAny_pure ?_
  dsimp only
  refine wpAny_storeSet_of here dt ?_ (by rw [sz2, len, sizeLine_eq]; omega)
  refine hQ _ L2 (order.filterMap (es[·]?)) (ep + 1) t2 (Heap.SameBut.update ..) ⟨⟨_, store_at here dt, ⟨ex.1, ex.2.1, ex.2.2⟩, rfl⟩, r1', T, (r2.map (·.2)).nodup_iff.mpr once, by rw [el]; exact led, ?_, by rw [r2.length_eq]; exact few⟩ r2
  rw [r2.length_eq, em]
  exact room
theorem addN (R : SetNAt w s.heap a L es ep t) (tup : ∀ p ∈ L, IsN s.heap p.2 p.1) {x : Addr} {k : NestedKey} (hx : IsN s.heap k x) (units : A.units + 9 < cLine) (more : L.length + 1 < 64) {Q : Bool → Shared → Prop}
    (hQ : ∀ b h' L' es' ep' t', Heap.SameBut a s.heap h' → SetNAt w h' a L' es' ep' t' → (k ∈ L.map (·.2) → L' = L) → (k ∉ L.map (·.2) → L'.Perm ((x, k) :: L)) → Q b { s with heap := h' }) :
    wpAny (model P w) A (setAddHashed a (.ref x) (k.hash w)) Q E s := by
  obtain ⟨ob, here, ex, dt⟩ := R.here
  have len := rowsN_len R.rows
  have rm := R.room
  unfold setAddHashed
  refine wpAny_holding ?_
  rw [show (100000 : Nat) = 99999 + 1 from rfl, setAddHashedIn_succ]
  refine wpAny_bind <| wpAny_setState_of here dt R.ft ?_
  dsimp only
  refine wp_if_neg (by simp [byScan, Value.scannable]) ?_
  try refine wpAny_bind (wpAny_pure ?_)
  refine wpAny_bind <| seek_from R tup hx units (fun m r => ?_) fun K m free taken => ?_
  · dsimp only
    exact wpAny_pure (hQ false s.heap L es ep t (Heap.SameBut.refl a s.heap) R (fun _ => rfl) fun z => absurd m z)
  dsimp only
  refine wpAny_bind <| wpAny_setState_of here dt R.ft ?_
  dsimp only
  obtain ⟨q1, q2, q3, q4, q5, q6, q7, q8, q9⟩ := R.tab.put free taken
  generalize t.put (way t.mask (k.hash w) K) = pt at q1 q3 q4 q5 q6 q7 q8 q9 ⊢
  obtain ⟨t1, at_⟩ := pt
  dsimp only at q1 q3 q4 q5 q6 q7 q8 q9 ⊢
  subst q1
  have rows1 : (SetTable.insertAt es (SetTable.below t.place (way t.mask (k.hash w) K)) (k.hash w, Value.ref x)).toList = rowsN w (L.take (SetTable.below t.place (way t.mask (k.hash w) K)) ++ (x, k) :: L.drop (SetTable.below t.place (way t.mask (k.hash w) K))) := by
    rw [SetTable.toList_insertAt, R.rows]
    simp [rowsN, List.map_take, List.map_drop]
  generalize SetTable.below t.place (way t.mask (k.hash w) K) = at_ at q2 q3 rows1 ⊢
  have pm := put_perm L at_ (x, k)
  have hashed : hashN w (L.take at_ ++ (x, k) :: L.drop at_) = (hashN w L).take at_ ++ k.hash w :: (hashN w L).drop at_ := by simp [hashN, List.map_take, List.map_drop]
  rw [← hashed] at q3
  have one : ((L.take at_ ++ (x, k) :: L.drop at_).map (·.2)).Nodup := (pm.map (·.2)).nodup_iff.mpr (by
    rw [List.map_cons]
    exact List.nodup_cons.mpr ⟨m, R.once⟩)
  have len1 := rowsN_len rows1
  rw [pm.length_eq, List.length_cons] at len1
  generalize SetTable.insertAt es at_ (k.hash w, Value.ref x) = es1 at rows1 len1 ⊢
  generalize L.take at_ ++ (x, k) :: L.drop at_ = L1 at pm q3 one rows1
  have lenL1 : L1.length = L.length + 1 := by rw [pm.length_eq, List.length_cons]
  have full9 : t1.fill = L.length + 1 := by rw [q9]; simp [hashN]
  -- whichever the word on its hash is
  have go : ∀ t3 : SetTable, t3.place = t1.place → t3.dummies = t1.dummies → t3.mask = t1.mask → t3.led = t1.led → t3.fill = t1.fill → t3.tooFull = t1.tooFull → TabOk t3 (hashN w L1) →
      wpAny (model P w) A (do
        storeSet a es1 t3
        if (!false && t3.tooFull) = true then setRelay a (SetTable.grown (es.size + 1))
        return true) Q E s := by
    intro t3 e1 e2 e3 e4 e5 e6 T3
    refine wpAny_bind <| wpAny_storeSet_of here dt ?_ (by rw [len1, sizeLine_eq]; omega)
    have sb : Heap.SameBut a s.heap (s.heap.update a (Obj.putSet es1 t3)) := Heap.SameBut.update ..
    have here1 := store_at (es' := es1) (t' := t3) here dt
    generalize s.heap.update a (Obj.putSet es1 t3) = h1 at sb here1 ⊢
    have led1 : w.params.followText "set-order" = true ∨ t3.led = true := by rw [e4, q5]; exact R.led
    by_cases full : t3.tooFull = true
    · first
        | (refine wpAny_bind ?_; refine wp_if_pos (by simp [full]) ?_)
        | (refine wp_if_pos (by simp [full]) ?_; refine wpAny_bind ?_)
      have much : (L.length + 1) * 5 ≥ t.mask * 3 := by
        have z := full
        rw [SetTable.tooFull, decide_eq_true_eq, e5, full9, e3, q4] at z
        exact z
      rw [len]
      have size1 : t3.place.size = es1.size := by rw [T3.sz, len1]; simp [hashN, lenL1]
      have two : (t.mask = 7 ∧ L.length = 4) ∨ (t.mask = 31 ∧ L.length = 18) := by
        rcases R.tab.mok with e | e | e <;> rw [e] at rm much
        · exact .inl ⟨e, by omega⟩
        · exact .inr ⟨e, by omega⟩
        · omega
      have next : ∀ M, SetTable.sizeAbove (SetTable.grown (L.length + 1)) - 1 = M → MaskOk M → SetTable.sizeAbove (SetTable.grown (L.length + 1)) ≤ 128 → (L.length + 1) * 5 < M * 3 →
          wpAny (model P w) A (setRelay a (SetTable.grown (L.length + 1))) (fun _ st => wpAny (model P w) A (pure true) Q E st) E { s with heap := h1 } := by
        intro M m1 m2 m3 m4
        refine relayN (s := { s with heap := h1 }) here1 ⟨ex.1, ex.2.1, ex.2.2⟩ rfl rows1 size1 T3.dm (by rw [len1, e3, q4]; rcases two with ⟨z, z2⟩ | ⟨z, z2⟩ <;> omega) one led1 (by rw [lenL1]; exact more) m1 m2 m3 (by rw [lenL1]; exact m4) ?_
        intro h2 L2 es2 ep2 t2 sb2 R2 pm2
        exact wpAny_pure (hQ true h2 L2 es2 ep2 t2 (sb.trans sb2) R2 (fun z => absurd z m) fun _ => pm2.trans pm)
      rcases two with ⟨_, z⟩ | ⟨_, z⟩
      · exact next 31 (by rw [z, size_20]) (.inr (.inl rfl)) (by rw [z, size_20]; decide) (by omega)
      · exact next 127 (by rw [z, size_76]) (.inr (.inr rfl)) (by rw [z, size_76]; decide) (by omega)
    · first
        | refine wp_if_neg (by simp [full]) ?_
        | (refine wpAny_bind ?_; refine wp_if_neg (by simp [full]) ?_; refine wpAny_pure ?_)
      refine wpAny_pure (hQ true h1 L1 es1 (ep + 1) t3 sb ⟨⟨_, here1, ⟨ex.1, ex.2.1, ex.2.2⟩, rfl⟩, rows1, T3, one, led1, ?_, by rw [lenL1]; exact more⟩ (fun z => absurd z m) fun _ => pm)
      have z := full
      rw [SetTable.tooFull, decide_eq_true_eq, e5, full9] at z
      rw [lenL1]
      omega
  by_cases pl : t1.plain = true
  · first
      | (refine wpAny_bind ?_; refine wp_if_pos pl ?_; refine sayable_key k _ 8 s hx.1 hx.2 _ _ _ fun b => ?_)
      | refine wp_if_pos pl (wpAny_bind (sayable_key k _ 8 s hx.1 hx.2 _ _ _ fun b => ?_))
    cases b
    · exact go { t1 with plain := false } rfl rfl rfl rfl rfl rfl ⟨q3.ris, q3.dm, q3.sz, q3.mok, q3.bd, q3.reach⟩
    · exact go t1 rfl rfl rfl rfl rfl rfl q3
  · first
      | (refine wpAny_bind ?_; refine wp_if_neg pl ?_; refine wpAny_pure ?_)
      | (refine wp_if_neg pl ?_; refine wpAny_bind (wpAny_pure ?_))
    exact go t1 rfl rfl rfl rfl rfl rfl q3
end
end Gx
set_option maxRecDepth 100000
set_option maxHeartbeats 4000000
namespace Gx
open PySem PySem.Spec PyProof.Rows L2
/-- what the set has of the first i keys of ks -/
structure GotN (ks : NMs) (i : Nat) (L : NMs) : Prop where
  old : ∀ p ∈ L, p ∈ ks.take i
  new : ∀ p ∈ ks.take i, p.2 ∈ L.map (·.2)
  len : L.length ≤ i
theorem GotN.more {ks L L' : NMs} {i : Nat} {x : Addr × NestedKey} (g : GotN ks i L) (e : ks[i]? = some x) (c1 : x.2 ∈ L.map (·.2) → L' = L) (c2 : x.2 ∉ L.map (·.2) → L'.Perm (x :: L)) : GotN ks (i + 1) L' := by
  have tk : ks.take (i + 1) = ks.take i ++ [x] := by rw [List.take_add_one, e]; rfl
  by_cases c : x.2 ∈ L.map (·.2)
  · rw [c1 c]
    refine ⟨fun p m => by rw [tk]; exact List.mem_append_left _ (g.old p m), fun p m => ?_, Nat.le_succ_of_le g.len⟩
    rw [tk, List.mem_append, List.mem_singleton] at m
    rcases m with m | rfl
    · exact g.new p m
    · exact c
  · have pm := c2 c
    refine ⟨fun p m => ?_, fun p m => ?_, by rw [pm.length_eq, List.length_cons]; exact Nat.succ_le_succ g.len⟩
    · rw [tk, List.mem_append, List.mem_singleton]
      rcases List.mem_cons.mp (pm.mem_iff.mp m) with z | z
      · exact .inr z
      · exact .inl (g.old p z)
    · rw [(pm.map (·.2)).mem_iff, List.map_cons, List.mem_cons]
      rw [tk, List.mem_append, List.mem_singleton] at m
      rcases m with m | rfl
      · exact .inr (g.new p m)
      · exact .inl rfl
section
variable {P : Program} {w : World} {A : Around} {E : Value → Shared → Prop} {s : Shared}
theorem SetNAt.at {h h' : Heap} {a : Addr} {L : NMs} {es : Array (Int × Value)} {ep : Nat} {t : SetTable} (R : SetNAt w h a L es ep t) (k : ∀ o, h.get? a = some o → h'.get? a = some o) : SetNAt w h' a L es ep t := by
  obtain ⟨ob, here, more⟩ := R.here
  exact ⟨⟨ob, k ob here, more⟩, R.rows, R.tab, R.once, R.led, R.room, R.few⟩
theorem setN_fresh {h : Heap} {a : Addr} (e : h.get? a = some { cls := .type "set", dict := none, data := .set #[] 0 (.fresh 0 0 (!w.params.followText "set-order")) }) : SetNAt w h a [] #[] 0 (.fresh 0 0 (!w.params.followText "set-order")) where
  here := ⟨_, e, ⟨rfl, rfl, rfl⟩, rfl⟩
  rows := rfl
  tab := ⟨List.Pairwise.nil, rfl, rfl, .inl rfl, (fun x m => nomatch m), (fun i h j g => by simp [hashN] at g)⟩
  once := List.nodup_nil
  led := by
    show _ ∨ (!w.params.followText "set-order") = true
    cases w.params.followText "set-order"
    · exact .inr rfl
    · exact .inl rfl
  room := show 0 * 5 < 7 * 3 by decide
  few := show 0 < 64 by decide
end
end Gx
set_option maxRecDepth 100000
set_option maxHeartbeats 4000000
namespace Gx
open PySem PySem.W PySem.Calls PyProof.Rows PySem.SeqAt
end Gx
set_option maxRecDepth 100000
set_option maxHeartbeats 4000000
namespace Gx
open PySem PySem.Spec PyProof.Rows L2
/-- the context's program, world and written part -/
abbrev XI (X : Cx) (P : Program) (w : World) (K : PySem.W.Frag) : Prop := X.prog = P ∧ X.w = w ∧ X.K = K
section
variable {P : Program} {w : World} {K : PySem.W.Frag}
/-- d[y] -/
def tNGet (P : Program) (w : World) (K : PySem.W.Frag) (td ty : TE) : TE := fun σ H Q => td σ H fun x H1 => ty σ H1 fun y H2 => ∃ a b L k v, x = .ref a ∧ y = .ref b ∧ NDict P w K H2 a L ∧ KeyA K H2 b k ∧ getN L k = some v ∧ Q v H2
/-- y in d, y not in d -/
def tNIn (P : Program) (w : World) (K : PySem.W.Frag) (g : Bool → Bool) (ty td : TE) : TE := fun σ H Q => ty σ H fun y H1 => td σ H1 fun x H2 => ∃ a b L k, x = .ref a ∧ y = .ref b ∧ NDict P w K H2 a L ∧ KeyA K H2 b k ∧ Q (.bl (g (getN L k).isSome)) H2
/-- d[y] = v -/
def sNPut (P : Program) (w : World) (K : PySem.W.Frag) (td ty tv : TE) : TS := fun D σ H => tv σ H fun v H1 => td σ H1 fun x H2 => ty σ H2 fun y H3 => ∃ a b L k, x = .ref a ∧ y = .ref b ∧ H3 a = some (DN P w a L) ∧ (∀ e ∈ L, KeyA K H3 e.2.1 e.1) ∧ KeyA K H3 b k ∧ L.length < sizeLine ∧ D.nx σ (upd H3 a (DN P w a (putN L k b v)))
/-- {} -/
def tNNew (P : Program) (w : World) : TE := fun _ H Q => ∀ p, H p = none → Q (.ref p) (upd H p (DN P w p []))
theorem dn_empty {H : Hp} (h : Heap) (hb : sysModules < h.objs.size) : ObjOk P w H (h.push { cls := .type "dict", data := .dict #[] }) h.objs.size (DN P w h.objs.size []) :=
  dn_ok ⟨Nat.zero_le _, beq_eq_false_iff_ne.mpr (Ne.symm (Nat.ne_of_lt hb)), [], .nil, _, #[], 0, Heap.get?_push_size _ rfl, ⟨rfl, rfl, rfl⟩, rfl, rfl, List.nodup_nil⟩
section
variable {X : Cx} {pins : List (Addr × Obj)} {σ : L2.St} {H : Hp} {s : Shared} {a : Addr} {L : NL}
theorem n_type (I : Inv X pins σ H s) (e : Rd H a (DN X.prog X.w a L)) : s.TypeIs (.ref a) "dict" ∧ (∀ b, Value.ref a = .ref b → ∃ ob, s.heap.get? b = some ob ∧ ob.dict = none) := by
  obtain ⟨_, _, es, ep, ⟨o, h1, h2, _⟩, _⟩ := n_raw I e
  refine ⟨⟨o, h1, h2.1⟩, fun b q => ?_⟩
  cases q
  exact ⟨o, h1, h2.2.1⟩
end
section
variable {X : Cx} {o i e f value : Expr} {pos pos' apos cpos : Pos} {td ty tv tx : TE}
theorem pe_nget (hx : XI X P w K) (hu : X.A.units + 64 < cLine) (ho : PE X o td) (hi : PE X i ty) (hs : NoSl i) : PE X (.Subscript o i pos) (tNGet P w K td ty) := by
  obtain ⟨rfl, rfl, rfl⟩ := hx
  refine ⟨fun pins s σ H Q I h => ?_⟩
  refine subD_of PySem.F.slot_dict_getitem.lookup hs (thn (ho.run pins s σ H _ I h) fun u s1 ⟨x, H1, I1, rx, q1⟩ => thn (hi.run pins s1 σ H1 _ I1 q1) fun iv s2 ⟨y, H2, I2, ry, a, b, L, k, v, ex, ey, g, hb, hv, q2⟩ => ?_)
  subst ex ey
  obtain rfl : u = Value.ref a := rx
  obtain rfl : iv = Value.ref b := ry
  exact ⟨(n_type I2 g.1).1, n_getItem hu I2 g hb hv fun w' s3 I3 rw' => ⟨v, H2, I3, rw', q2⟩⟩
theorem pc_nnotin (hx : XI X P w K) (hu : X.A.units + 64 < cLine) (hi : PE X i ty) (ho : PE X o td) : PC X .NotIn i o (tNIn P w K not ty td) := by
  obtain ⟨rfl, rfl, rfl⟩ := hx
  refine ⟨fun pins s σ H Q I h => ?_⟩
  refine thn (hi.run pins s σ H _ I h) fun iv s1 ⟨y, H1, I1, ry, q1⟩ => thn (ho.run pins s1 σ H1 _ I1 q1) fun u s2 ⟨x, H2, I2, rx, a, b, L, k, ex, ey, g, hb, q2⟩ => ?_
  subst ex ey
  obtain rfl : u = Value.ref a := rx
  obtain rfl : iv = Value.ref b := ry
  exact n_notIn hu I2 g hb fun s3 I3 => ⟨.bl (!(getN L k).isSome), H2, I3, rfl, q2⟩
theorem ps_nput (hx : XI X P w K) (hu : X.A.units + 64 < cLine) (ho : PE X o td) (hi : PE X i ty) (hv : PE X value tv) (hs : swapsWith value (some (.Subscript o i pos')) pos.line X.env = pure false) :
    PS X (.Assign [.Subscript o i pos'] value pos) (sNPut P w K td ty tv) := by
  obtain ⟨rfl, rfl, rfl⟩ := hx
  refine ⟨fun pins s σ H D I h => ?_⟩
  refine wpAny_Assign_Subscript (thn (hv.run pins s σ H _ I h) fun r s1 ⟨v, H1, I1, rv, q1⟩ => thn (ho.run pins s1 σ H1 _ I1 q1) fun u s2 ⟨x, H2, I2, rx, q2⟩ => thn (hi.run pins s2 σ H2 _ I2 q2) fun iv s3 ⟨y, H3, I3, ry, a, b, L, k, ex, ey, g, hk, hb, hz, q3⟩ => ?_) hs
  subst ex ey
  obtain rfl : u = Value.ref a := rx
  obtain rfl : iv = Value.ref b := ry
  exact n_setItem hu I3 g hk hb hz rv fun s4 I4 => ⟨σ, _, I4, q3⟩
theorem pe_nnew (hx : XI X P w K) : PE X (.Dict [] [] pos) (tNNew P w) := by
  obtain ⟨rfl, rfl, rfl⟩ := hx
  exact ⟨fun pins s σ H Q I h =>
  wpAny_Dict_empty ⟨.ref s.heap.objs.size, _, I.laid (a := s.heap.objs.size) (o := DN X.prog X.w s.heap.objs.size []) (t' := s.toks) (fun _ _ q => Heap.get?_push_of_some _ q) (Nat.le_refl _) (dn_empty s.heap I.big), rfl, h _ (I.hok.fresh (Nat.le_refl _))⟩⟩
end
def Itn (P : Program) (w : World) (d : Addr) (o : Obj) (L : NL) : It :=
  ⟨fun i H => H d = some (.frz o (DN P w d L)) ∧ i < L.length, fun i H x H' => H' = H ∧ ∃ e, L[i]? = some e ∧ x = .ref e.2.1, fun i H => H d = some (.frz o (DN P w d L)) ∧ L.length ≤ i⟩
theorem Inv.frzN {X : Cx} {pins : List (Addr × Obj)} {σ : L2.St} {H : Hp} {s : Shared} {d : Addr} {o : Obj} {L : NL} (I : Inv X pins σ H s) (h : H d = some (.frz o (DN X.prog X.w d L))) :
    (d == sysModules) = false ∧ s.heap.get? d = some o ∧ o.ExactDict ∧ ∃ (es : Array DictEntry) (ep : Nat), o.data = .dict es ep ∧ es.size = L.length ∧
      ∀ (i : Nat) (x : NestedKey × Addr × V), L[i]? = some x → ∃ (en : DictEntry), es[i]? = some en ∧ en.key = .ref x.2.1 ∧ RelV x.2.2 en.val := by
  obtain ⟨hd, _⟩ := I.hok d _ h
  obtain ⟨z, hs, es, ep, ⟨o', h1, h2, h3⟩, h4, h5⟩ := n_raw I (.inr ⟨o, h⟩)
  rw [hd] at h1
  cases h1
  exact ⟨hs, hd, h2, es, ep, h3, h4, h5⟩
section
variable {tg : Expr} {d : Addr} {o : Obj} {es : Array DictEntry} {ep : Nat} {L : NL}
theorem turn_keysN (it : Addr) (hod : o.data = .dict es ep) : Turn P w K tg (Itn P w d o L) [it] it (fun i h => h.IsKeyIter it d i L.length ep) where
  mem := by simp
  obj := fun i h st b hb => by
    have e : b = it := by simpa using hb
    subst e
    obtain ⟨oi, e, c, dd⟩ := st
    exact ⟨oi, e, fun v z => by rw [dd] at z; cases z⟩
  keep := fun i h h' st k => st.at fun oi e => k it (by simp) oi e
  item := by
    intro X hP hw hK hc i pins s σ H E I hf st hg
    subst hP hw hK
    obtain ⟨hd, hi⟩ := hg
    obtain ⟨f0, f1, f2, f3, f4, f5⟩ := hf it (by simp)
    obtain ⟨hs, hgd, hx, es', ep', hdt, hsz, ent⟩ := Gx.Inv.frzN I hd
    obtain ⟨rfl, rfl⟩ := dict_ep hod hdt
    obtain ⟨x, hkv⟩ : ∃ p, L[i]? = some p := ⟨L[i], List.getElem?_eq_getElem hi⟩
    obtain ⟨en, hen, hkey, _⟩ := ent i x hkv
    refine next_key_item st hgd hdt hsz hen fun h' st' sb => ?_
    have I1 : Inv X pins σ H { s with heap := h' } := I.turned (t' := s.toks) (fun b ob hb e => (sb.2 b hb).trans e) f0 f1 f3 f4 f5
    obtain ⟨oi, e, c, dd⟩ := id st'
    exact ⟨en.key, rfl, go_of (s := { s with heap := h' }) e c dd (by decide) ⟨.ref x.2.1, H, I1, hkey, ⟨rfl, x, hkv, rfl⟩, st', fun b hb => (hf b hb).1⟩⟩
  done := by
    intro X hP hw hK hc i pins s σ H E I hf st hg
    subst hP hw hK
    obtain ⟨hd, hi⟩ := hg
    obtain ⟨f0, f1, f2, f3, f4, f5⟩ := hf it (by simp)
    obtain ⟨hs, hgd, hx, es', ep', hdt, hsz, ent⟩ := Gx.Inv.frzN I hd
    obtain ⟨rfl, rfl⟩ := dict_ep hod hdt
    exact next_key_end (I.ok.hd hc) st hgd hdt hsz hi fun h' eb => ⟨rfl, I.turned (t' := s.toks) (fun b ob hb e => eb b ob hb e) f0 f1 f3 f4 f5⟩
  self := fun A i s Q E st h => by
    refine wpAny_pyIter_slot st.typeIs F.slot_dict_keyiterator_iter (wpAny_call_entry F.slot_dict_keyiterator_iter st.typeIs F.entry_dict_keyiterator_iter ?_ (F.args_dict_keyiterator_iter_1 _))
    show wpAny _ _ (ret (.ref it)) _ _ s
    exact wpAny_pure ⟨_, rfl, "dict_keyiterator", _, st.typeIs, F.slot_dict_keyiterator_next.lookup, h⟩
end
/-- the dict is locked -/
def iKeysN (P : Program) (w : World) (td : TE) : TI := fun σ H R => td σ H fun x H1 => ∃ d o L, x = .ref d ∧ H1 d = some (.frz o (DN P w d L)) ∧ R (Itn P w d o L) H1
section
variable {X : Cx} {tg e : Expr} {td : TE} {apos cpos : Pos}
theorem pi_keysN (hx : XI X P w K) (he : PE X e td) : PI X tg e (iKeysN P w td) := by
  obtain ⟨rfl, rfl, rfl⟩ := hx
  refine ⟨fun pins s σ H R I h => ?_⟩
  refine thn (he.run pins s σ H _ I h) fun u s1 ⟨x, H1, I1, rx, d, o, L, ex, hd, q⟩ => ?_
  subst ex
  obtain rfl : u = Value.ref d := rx
  obtain ⟨hs, hgd, hx, es, ep, hdt, hsz, ent⟩ := Gx.Inv.frzN I1 hd
  refine iter_keys hs hgd hx hdt (pi_one (tk := s1.toks) I1 _ (turn_keysN _ hdt) ⟨_, Heap.get?_push_size _ rfl, rfl, ?_⟩ q)
  rw [hsz] <;> rfl
end
theorem walk_keysN {d : Addr} {o : Obj} {L : NL} : Walk (Itn P w d o L) L.length (fun H => H d = some (.frz o (DN P w d L))) (fun i H x H' => H' = H ∧ ∃ e, L[i]? = some e ∧ x = .ref e.2.1) :=
  ⟨fun _ _ hi q => ⟨q, hi⟩, fun _ q => ⟨q, Nat.le_refl _⟩, fun _ _ _ _ _ _ y => y⟩
end
end Gx
set_option maxRecDepth 100000
set_option maxHeartbeats 4000000
namespace Gx
open PySem PySem.Spec PyProof.Rows L2
abbrev PutG := Addr → V → V → Hp → (Hp → Prop) → Prop
def tDcG (new : Addr → HO) (put : PutG) (wi : TI) (g : TG) (tt : TT) (tk tv : TE) (vs : List Nat) : TE := fun σ H Q => wi σ H fun J H1 => ∀ D, H1 D = none → ∃ W : Nat → Nat → Hp → Prop, (∃ m, W 0 m (upd H1 D (new D))) ∧ ∀ i m H, W i m H →
  (J.stop i H ∧ Q (.ref D) H) ∨ (J.go i H ∧ ∃ Nx : Hp → Prop, (∀ H', Nx H' → ∃ m', m' < m ∧ W (i + 1) m' H') ∧ ∀ x H', J.yld i H x H' → g x (wipe σ vs) H' fun σ2 H2 => wipe σ2 vs = wipe σ vs ∧ tt σ2 H2 fun b H3 =>
    if b = true then tk σ2 H3 fun y H4 => tv σ2 H4 fun z H5 => put D y z H5 Nx else Nx H3)
/-- a store that the model's dictSet does -/
def PutOk (X : Cx) (put : PutG) : Prop := ∀ (A : Around) (hA : A = X.A) (pins : List (Addr × Obj)) (σ : L2.St) (H : Hp) (s : Shared) (E : Value → Shared → Prop) (D : Addr) (y z : V) (u r : Value) (N : Hp → Prop), Inv X pins σ H s → RelV y u → RelV z r → put D y z H N →
  wpAny (model X.prog X.w) A (dictSet D u r) (fun _ s' => ∃ H', Inv X pins σ H' s' ∧ N H') E s
/-- the new dict's object, just laid -/
def NewOk (P : Program) (w : World) (new : Addr → HO) : Prop := ∀ (H : Hp) (h : Heap), sysModules < h.objs.size → ObjOk P w H (h.push { cls := .type "dict", data := .dict #[] }) h.objs.size (new h.objs.size)
section
variable {X : Cx} {new : Addr → HO} {put : PutG}
theorem dcG_core {pins : List (Addr × Obj)} {s : Shared} {σ : L2.St} {H : Hp} {Q : VK} {kx vx tg iter : Expr} {ifs : List Expr} {scope : Scope} {own : List (Str × Nat)} {pos pos' : Pos} {wi : TI} {g : TG} {tt : TT} {tk tv : TE} {use : Option (Value → Sem Unit)} {Qf : Value → Shared → Prop}
    (hnew : NewOk X.prog X.w new) (hput : ∀ (s : Shared) (H : Hp) (C : Addr) (cl : List (Str × Addr)) (fp : List Addr), PutOk (X.blk s H scope (compEnvC scope cl C X.env) fp) put)
    (hc : X.calm = true) (hN : X.N.Nodup) (I : Inv X pins σ H s) (hi : PI X tg iter wi) (ok : BlkOk X.N X.env.scope scope own)
    (hg : ∀ (s : Shared) (H : Hp) (C : Addr) (cl : List (Str × Addr)) (fp : List Addr), PG (X.blk s H scope (compEnvC scope cl C X.env) fp) tg g) (ht : ∀ (s : Shared) (H : Hp) (C : Addr) (cl : List (Str × Addr)) (fp : List Addr), PTs (X.blk s H scope (compEnvC scope cl C X.env) fp) ifs tt)
    (hk : ∀ (s : Shared) (H : Hp) (C : Addr) (cl : List (Str × Addr)) (fp : List Addr), PE (X.blk s H scope (compEnvC scope cl C X.env) fp) kx tk)
    (he : ∀ (s : Shared) (H : Hp) (C : Addr) (cl : List (Str × Addr)) (fp : List Addr), PE (X.blk s H scope (compEnvC scope cl C X.env) fp) vx tv) (hs : ∀ x, foldedSetIterable iter X.env x = pure x)
    (h : tDcG new put wi g tt tk tv (own.map (·.2)) σ H Q)
    (hRR : ∀ D C s' m H', Inv X pins σ H' s' → Q (.ref D) H' → s'.heap.Ns C m → FpOk X pins H' C → compPost (model X.prog X.w) X.A X.xe use Qf (.ref D) C (.ok .next) s') :
    wpAny (model X.prog X.w) X.A (comprehension (.DictComp kx vx [⟨tg, iter, ifs, 0⟩] scope pos) scope X.env pos' newDict false (eval iter X.env) use) Qf X.xe s := by
  have hfree : ∀ y ∈ scope.names, y.2 = .free → ∃ c, X.env.cells.lookup y.1 = some c := fun y hy e => by
    rcases ok.free y hy e with k | k
    · exact I.ok.has _ (.inl k)
    · exact I.ok.has _ (.inr k)
  refine wpAny_comprehension_free (use := use) rfl hs (closure_ok hfree) ok.kind (fun y hy e => by rw [ok.uniq y hy, e]) (thn (hi.run pins s σ H _ I h) fun xv s1 hx => thn hx fun itv s2 h2 => ?_)
  obtain ⟨it, fp, tn, J, H2, rfl, I2, T, st2, f2, q⟩ := h2
  refine wpAny_newObj_type (newEnv_comp ?_)
  generalize hD : s2.heap.objs.size = D
  have hDn : H2 D = none := I2.hok.fresh (Nat.le_of_eq hD)
  obtain ⟨W, ⟨m0, w0⟩, turn⟩ := q D hDn
  generalize hs3 : ({ s2 with heap := s2.heap.push { cls := .type "dict", data := .dict #[] } } : Shared) = s3
  have h3 : s3.heap = s2.heap.push { cls := .type "dict", data := .dict #[] } := by rw [← hs3]
  generalize hH3 : upd H2 D (new D) = H3 at w0
  have I3 : Inv X pins σ H3 s3 := by
    rw [← hs3, ← hH3]
    refine I2.laid (t' := s2.toks) (fun b o e => Heap.get?_push_of_some _ e) (Nat.le_of_eq hD) ?_
    rw [← hD]
    exact hnew _ s2.heap I2.big
  have f3 : ∀ b ∈ fp, FpOk X pins H3 b ∧ b < s3.heap.objs.size := fun b hb => by
    obtain ⟨o, e, _⟩ := T.obj _ _ st2 b hb
    have hlt := Heap.lt_size e
    refine ⟨⟨?_, (f2 b hb).2⟩, by rw [h3, Heap.size_push]; exact Nat.lt_succ_of_lt hlt⟩
    rw [← hH3, upd_ne (by rw [← hD]; exact Nat.ne_of_lt hlt)]
    exact (f2 b hb).1
  have st3 : tn 0 s3.heap := T.keep _ _ _ st2 fun b _ o e => by rw [h3]; exact Heap.get?_push_of_some _ e
  have I4 := block_start I3 ok hN f3
  show codeAny _ _ (.compStart (.DictComp kx vx [⟨tg, iter, ifs, 0⟩] scope pos) 0 (.ref it) (.ref D) (compEnvC scope (cellsFrom (s3.heap.objs.size + 1) scope.names (cloFrom X.env.cells scope.names [])) s3.heap.objs.size X.env)) (compPost (model X.prog X.w) X.A X.xe use Qf (.ref D) s3.heap.objs.size) { s3 with heap := pushCells (s3.heap.push { cls := .type "dict", data := .dict #[] }) scope.names }
  generalize hcl : cellsFrom (s3.heap.objs.size + 1) scope.names (cloFrom X.env.cells scope.names []) = cl at I4 ⊢
  have pg := hg s3 H3 s3.heap.objs.size cl fp
  have pt := ht s3 H3 s3.heap.objs.size cl fp
  have pk := hk s3 H3 s3.heap.objs.size cl fp
  have pe := he s3 H3 s3.heap.objs.size cl fp
  have pp := hput s3 H3 s3.heap.objs.size cl fp
  generalize hce : compEnvC scope cl s3.heap.objs.size X.env = ce at I4 pg pt pk pe pp ⊢
  have cL : ce.locals = s3.heap.objs.size := by subst hce; rfl
  generalize hs4 : ({ s3 with heap := pushCells (s3.heap.push { cls := .type "dict", data := .dict #[] }) scope.names } : Shared) = s4 at I4 ⊢
  have st4 : tn 0 s4.heap := T.keep _ _ _ st3 fun b _ o e => by rw [← hs4]; exact pushCells_keeps _ _ _ _ (Heap.get?_push_of_some _ e)
  generalize hB : X.blk s3 H3 scope ce fp = B at I4 pg pt pk pe pp
  have calmB : B.calm = true := by rw [← hB]; exact hc
  have stat : ∀ {σ' : L2.St} {H' : Hp} {s' : Shared}, Inv B [] σ' H' s' → (∀ b ∈ fp, H' b = none) → ∀ b ∈ fp, FpOk B [] H' b := fun {σ' H' s'} I' hn b hb => by
    subst hB
    exact ⟨hn b hb, (I'.ok.exf b hb).1, I'.ok.exfs b hb, .inl hb, fun x c e => (I'.ok.exf b hb).2 x c e, fun p hp => absurd (show p ∈ ([] : List (Addr × Obj)) ++ [] from hp) (by simp)⟩
  have loop : codeAny (model X.prog X.w) X.A (.compLoop (.DictComp kx vx [⟨tg, iter, ifs, 0⟩] scope pos) 0 (.ref it) (.ref D) ce) (compPost (model X.prog X.w) X.A X.xe use Qf (.ref D) s3.heap.objs.size) s4 := by
    refine compLoop_anyD (fun n s' => ∃ i H', Inv B [] (wipe σ (own.map (·.2))) H' s' ∧ tn i s'.heap ∧ (∀ b ∈ fp, H' b = none) ∧ W i n H') ?_ m0 ⟨0, H3, I4, st4, fun b hb => (f3 b hb).1.1, w0⟩
    rintro n s5 ⟨i, H5, I5, st5, n5, w5⟩
    rcases turn i n H5 w5 with ⟨stop, qq⟩ | ⟨go, Nx, hNx, step⟩
    · subst hB
      have td := T.done (X.blk s3 H3 scope ce fp) rfl rfl rfl hc i [] s5 _ H5 (fun _ _ => False) I5 (stat I5 n5) st5 stop
      refine thnF td fun r s6 ⟨hr, I6⟩ => ?_
      subst hr
      have I7 : Inv X pins σ H5 s6 := I3.call' (ch := fp) I6.os I6.base I6.hok I6.bare fun b hb => ⟨(f3 b hb).1.2.2.2.1, (f3 b hb).1.2.1, (f3 b hb).1.2.2.2.2.1, (f3 b hb).1.2.2.2.2.2⟩
      have nC : H5 s3.heap.objs.size = none := by
        have z : H5 ce.locals = none := I6.free
        rw [cL] at z
        exact z
      obtain ⟨m, hn, _⟩ := I6.loc
      have hn : s6.heap.Ns ce.locals m := hn
      rw [cL] at hn
      exact hRR D s3.heap.objs.size s6 m H5 I7 qq hn (I3.fpOk (Nat.le_refl _) nC)
    · subst hB
      have ti := T.item (X.blk s3 H3 scope ce fp) rfl rfl rfl hc i [] s5 _ H5 (fun _ _ => False) I5 (stat I5 n5) st5 go
      refine thnF ti fun r s6 ⟨u, hr, h6⟩ => ?_
      subst hr
      refine thnF h6 fun _ s7 ⟨x, H7, I7, r7, y7, st7, n7⟩ => ?_
      have I7' := I7.pinned (stat I7 n7) (T.obj _ _ st7)
      refine thnF (pg.run _ s7 _ H7 x u _ I7' r7 (step x H7 y7)) fun _ s8 ⟨σ8, H8, I8, hw8, q8⟩ => ?_
      refine thnF (pt.run _ s8 σ8 H8 _ I8 q8) fun b s9 ⟨H9, I9, q9⟩ => ?_
      have fin : ∀ {s' : Shared} {H' : Hp}, Inv (X.blk s3 H3 scope ce fp) ([] ++ pinsAt fp s7.heap) σ8 H' s' → Nx H' → ∃ m, m < n ∧ ∃ i H', Inv (X.blk s3 H3 scope ce fp) [] (wipe σ (own.map (·.2))) H' s' ∧ tn i s'.heap ∧ (∀ b ∈ fp, H' b = none) ∧ W i m H' := fun {s' H'} I' nx => by
        obtain ⟨m', hm, w'⟩ := hNx H' nx
        have pin' : ∀ b ∈ fp, ∀ o, s7.heap.get? b = some o → s'.heap.get? b = some o ∧ H' b = none := fun b hb o e =>
          let z := I'.pin (b, o) (List.mem_append_right _ (List.mem_append_right _ (mem_pinsAt hb e)))
          ⟨z.1, z.2.1⟩
        have hl : (wipe σ (own.map (·.2))).length = σ8.length := by rw [← hw8, wipe_length]
        refine ⟨m', hm, i + 1, H', (I'.unpinned (pins := [])).weak hl (fun j v e => ?_), T.keep _ _ _ st7 fun b hb o e => (pin' b hb o e).1, fun b hb => ?_, w'⟩
        · rw [← hw8] at e
          exact (wipe_some e).1
        · obtain ⟨o, e, _⟩ := T.obj _ _ st7 b hb
          exact (pin' b hb o e).2
      cases b with
      | false =>
        simp only [Bool.false_eq_true, if_false] at q9 ⊢
        exact fin I9 q9
      | true =>
        simp only [if_true] at q9 ⊢
        refine thnF (pk.run _ s9 σ8 H9 _ I9 q9) fun z s10 ⟨yk, H10, I10, r10, q10⟩ => ?_
        refine thnF (pe.run _ s10 σ8 H10 _ I10 q10) fun z2 s11 ⟨yv, H11, I11, r11, q11⟩ => ?_
        refine thnF (pp X.A rfl _ σ8 H11 s11 _ D yk yv z z2 Nx I11 r10 r11 q11) fun _ s12 ⟨H12, I12, nx⟩ => fin I12 nx
  exact codeAny_compStart_dict loop (T.self X.A 0 _ _ _ st4 loop)
theorem pe_dcG {kx vx tg iter : Expr} {ifs : List Expr} {scope : Scope} {own : List (Str × Nat)} {pos : Pos} {wi : TI} {g : TG} {tt : TT} {tk tv : TE} (hnew : NewOk X.prog X.w new) (hput : ∀ (s : Shared) (H : Hp) (C : Addr) (cl : List (Str × Addr)) (fp : List Addr), PutOk (X.blk s H scope (compEnvC scope cl C X.env) fp) put)
    (hc : X.calm = true) (hN : X.N.Nodup) (hi : PI X tg iter wi) (ok : BlkOk X.N X.env.scope scope own)
    (hg : ∀ (s : Shared) (H : Hp) (C : Addr) (cl : List (Str × Addr)) (fp : List Addr), PG (X.blk s H scope (compEnvC scope cl C X.env) fp) tg g) (ht : ∀ (s : Shared) (H : Hp) (C : Addr) (cl : List (Str × Addr)) (fp : List Addr), PTs (X.blk s H scope (compEnvC scope cl C X.env) fp) ifs tt)
    (hk : ∀ (s : Shared) (H : Hp) (C : Addr) (cl : List (Str × Addr)) (fp : List Addr), PE (X.blk s H scope (compEnvC scope cl C X.env) fp) kx tk)
    (he : ∀ (s : Shared) (H : Hp) (C : Addr) (cl : List (Str × Addr)) (fp : List Addr), PE (X.blk s H scope (compEnvC scope cl C X.env) fp) vx tv) (hs : ∀ x, foldedSetIterable iter X.env x = pure x := by intro _; rfl) :
    PE X (.DictComp kx vx [⟨tg, iter, ifs, 0⟩] scope pos) (tDcG new put wi g tt tk tv (own.map (·.2))) := by
  refine ⟨fun pins s σ H Q I h => ?_⟩
  rw [arm_eval_DictComp]
  refine dcG_core hnew hput hc hN I hi ok hg ht hk he hs h fun D C s' m H' I' q hn f => ⟨m, hn, fun h'' sb => ?_⟩
  obtain ⟨f0, f1, f2, f3, f4, f5⟩ := f
  exact ⟨.ref D, H', I'.turned (t' := s'.toks) (fun b o hb e => (sb.2 b hb).trans e) f0 f1 f3 f4 f5, rfl, q⟩
end
def putG (P : Program) (w : World) (K : PySem.W.Frag) : PutG := fun D y z H N => ∃ (L : NL) (k : NestedKey) (b : Addr), y = .ref b ∧ KeyA K H b k ∧ H D = some (DN P w D L) ∧ (∀ e ∈ L, KeyA K H e.2.1 e.1) ∧ L.length < sizeLine ∧ N (upd H D (DN P w D (putN L k b z)))
theorem newN {P : Program} {w : World} : NewOk P w fun D => DN P w D [] := fun _ h hb => dn_empty h hb
theorem putN_ok {X : Cx} {P : Program} {w : World} {K : PySem.W.Frag} (hx : XI X P w K) (hu : X.A.units + 64 < cLine) : PutOk X (putG P w K) := by
  obtain ⟨rfl, rfl, rfl⟩ := hx
  intro A hA pins σ H s E D y z u r N I ry rz h
  obtain ⟨L, k, b, rfl, hb, hD, hk, hz, n⟩ := h
  obtain rfl : u = Value.ref b := ry
  subst hA
  exact n_dictSet hu I hD hk hb hz rz fun s' I' => ⟨_, I', n⟩
/-- a dict comprehension by its walk: Pv by the turn and the heap (the new dict at D within) -/
theorem dcG_it {new : Addr → HO} {put : PutG} {J : It} {n : Nat} {G : Hp → Prop} {Y : Nat → Hp → V → Hp → Prop} (w : Walk J n G Y) {g : TG} {tt : TT} {tk tv : TE} {vs : List Nat} {σ : L2.St} {H1 : Hp} {D : Addr} {Qd : Hp → Prop} (Pv : Nat → Hp → Prop) (h0 : Pv 0 (upd H1 D (new D))) (hG : ∀ i H, i ≤ n → Pv i H → G H)
    (hs : ∀ i x H H', i < n → Pv i H → Y i H x H' → g x (wipe σ vs) H' fun σ2 H2 => wipe σ2 vs = wipe σ vs ∧ tt σ2 H2 fun b H3 =>
      if b = true then tk σ2 H3 fun y H4 => tv σ2 H4 fun z H5 => put D y z H5 (Pv (i + 1)) else Pv (i + 1) H3) (hd : ∀ H, Pv n H → Qd H) :
    ∃ W : Nat → Nat → Hp → Prop, (∃ m, W 0 m (upd H1 D (new D))) ∧ ∀ i m H, W i m H →
      (J.stop i H ∧ Qd H) ∨ (J.go i H ∧ ∃ Nx : Hp → Prop, (∀ H', Nx H' → ∃ m', m' < m ∧ W (i + 1) m' H') ∧ ∀ x H', J.yld i H x H' → g x (wipe σ vs) H' fun σ2 H2 => wipe σ2 vs = wipe σ vs ∧ tt σ2 H2 fun b H3 =>
        if b = true then tk σ2 H3 fun y H4 => tv σ2 H4 fun z H5 => put D y z H5 Nx else Nx H3) := by
  refine ⟨fun i m H => m = n - i ∧ i ≤ n ∧ Pv i H, ⟨n, by simp, Nat.zero_le _, h0⟩, ?_⟩
  rintro i m H ⟨rfl, hi, p⟩
  have q := hG i H hi p
  by_cases hlt : i < n
  · exact .inr ⟨w.goes i H hlt q, Pv (i + 1), fun H' p' => ⟨n - (i + 1), by omega, rfl, hlt, p'⟩, fun x H' y => hs i x H H' hlt p (w.yields i H x H' hlt q y)⟩
  · have e : i = n := by omega
    subst e
    exact .inl ⟨w.stops H q, hd H p⟩
end Gx
set_option maxRecDepth 100000
set_option maxHeartbeats 4000000
namespace Kl
open PySem PySem.Spec PyProof.Rows L2 Gx Mx
def ltT : List Str → List Str → Bool
  | [], [] => false
  | [], _ :: _ => true
  | _ :: _, [] => false
  | x :: xs, y :: ys => if x = y then ltT xs ys else ltCps x.cps.toList y.cps.toList
theorem alike_texts : ∀ xs ys : List Str, PySem.W.alikeAll (tD xs) (tD ys) = true
  | [], _ => by simp [tD, PySem.W.alikeAll]
  | _ :: _, [] => by simp [tD, PySem.W.alikeAll]
  | x :: xs, y :: ys => by
    have ih := alike_texts xs ys
    unfold tD at ih ⊢
    rw [List.map_cons, List.map_cons, PySem.W.alikeAll, ih]
    simp [PySem.W.alike]
theorem lt_texts : ∀ xs ys : List Str, PySem.W.dataLt (.tuple (tD xs)) (.tuple (tD ys)) = ltT xs ys
  | [], [] => by
    rw [PySem.W.dataLt_tuple]
    exact lex_irrefl _
  | [], y :: ys => by
    rw [PySem.W.dataLt_tuple]
    unfold tD
    rw [List.map_nil, List.map_cons, PySem.W.keyToksAll, PySem.W.keyToksAll, PyProof.Rows.lex_diff (by decide)]
    rfl
  | x :: xs, [] => by
    rw [PySem.W.dataLt_tuple]
    unfold tD
    rw [List.map_nil, List.map_cons, PySem.W.keyToksAll, PySem.W.keyToksAll, PyProof.Rows.lex_diff (by decide)]
    rfl
  | x :: xs, y :: ys => by
    have ih := lt_texts xs ys
    rw [PySem.W.dataLt_tuple] at ih ⊢
    have al : PySem.W.alike (.str x) (.str y) = true := rfl
    unfold ltT
    by_cases e : x = y
    · subst e
      rw [if_pos rfl, ← ih]
      exact PySem.W.dataLt_all_yes al (by simp [PyData.eqv])
    · rw [if_neg e]
      have h := PySem.W.dataLt_all_no (xs := tD xs) (ys := tD ys) al (show PyData.eqv (.str x) (.str y) = false by simp [PyData.eqv, e])
      exact h.trans (by rw [PySem.W.dataLt_str, ltCps_eq])
theorem ltT_irrefl : ∀ xs : List Str, ltT xs xs = false
  | [] => rfl
  | x :: xs => by
    unfold ltT
    rw [if_pos rfl, ltT_irrefl xs]
theorem cps_total {x y : Str} (n : x ≠ y) (h : ltCps x.cps.toList y.cps.toList = false) : ltCps y.cps.toList x.cps.toList = true := by
  cases e : ltCps y.cps.toList x.cps.toList with
  | true => rfl
  | false => exact absurd (leS_anti ((leS_iff x y).mpr e) ((leS_iff y x).mpr h)) n
theorem cps_trans {x y z : Str} (h1 : ltCps x.cps.toList y.cps.toList = true) (h2 : ltCps y.cps.toList z.cps.toList = true) : ltCps x.cps.toList z.cps.toList = true := by
  rw [ltCps_eq, decide_eq_true_iff] at h1 h2 ⊢
  exact List.lt_trans h1 h2
theorem cps_irrefl (x : Str) : ltCps x.cps.toList x.cps.toList = false := (leS_iff x x).mp (leS_refl x)
theorem ltT_total : ∀ xs ys : List Str, ltT xs ys = true ∨ xs = ys ∨ ltT ys xs = true
  | [], [] => .inr (.inl rfl)
  | [], _ :: _ => .inl rfl
  | _ :: _, [] => .inr (.inr rfl)
  | x :: xs, y :: ys => by
    unfold ltT
    by_cases e : x = y
    · subst e
      rw [if_pos rfl, if_pos rfl]
      rcases ltT_total xs ys with h | h | h
      · exact .inl h
      · exact .inr (.inl (by rw [h]))
      · exact .inr (.inr h)
    · rw [if_neg e, if_neg fun q => e q.symm]
      cases c : ltCps x.cps.toList y.cps.toList with
      | true => exact .inl rfl
      | false => exact .inr (.inr (cps_total e c))
theorem ltT_trans : ∀ xs ys zs : List Str, ltT xs ys = true → ltT ys zs = true → ltT xs zs = true
  | [], [], _, h, _ => nomatch h
  | [], _ :: _, [], _, h => nomatch h
  | [], _ :: _, _ :: _, _, _ => rfl
  | _ :: _, [], _, h, _ => nomatch h
  | _ :: _, _ :: _, [], _, h => nomatch h
  | x :: xs, y :: ys, z :: zs, h1, h2 => by
    unfold ltT at h1 h2 ⊢
    by_cases e : x = y
    · subst e
      rw [if_pos rfl] at h1
      by_cases e2 : x = z
      · subst e2
        rw [if_pos rfl] at h2 ⊢
        exact ltT_trans xs ys zs h1 h2
      · rw [if_neg e2] at h2 ⊢
        exact h2
    · rw [if_neg e] at h1
      by_cases e2 : y = z
      · subst e2
        rw [if_neg e]
        exact h1
      · rw [if_neg e2] at h2
        have h3 := cps_trans h1 h2
        by_cases e3 : x = z
        · subst e3
          rw [cps_irrefl] at h3
          cases h3
        · rw [if_neg e3]
          exact h3
end Kl
set_option maxRecDepth 100000
set_option maxHeartbeats 4000000
namespace Gx
open PySem PySem.W PySem.Calls PyProof.Rows PyProof.V PySem.Spec
section
variable {prog : Program} {w : World} {A : Around} {E : Value → Shared → Prop} {s : Shared} {T : String} {r d : Addr} {n : Nat} {P : Nat → Value → Prop} {OK : Heap → Prop}
theorem collectK {R : List Value → Shared → Prop} (K : KdlSrc prog w T r d n P OK) (hh : A.handled = none) (hok : OK s.heap) (hn : n ≤ sizeLine)
    (h : ∀ (h' : Heap) (tk : Nat) (acc : Array Value), (∀ b o, s.heap.get? b = some o → h'.get? b = some o) → s.heap.objs.size < h'.objs.size → ItemsOf P acc n → R acc.toList { s with heap := h', toks := tk }) :
    wpAny (model prog w) A (collect (.ref r)) R E s := by
  obtain ⟨hr, hd⟩ := K.there _ hok
  unfold collect
  refine wpAny_bind (wpAny_runValue (codeAny_builtin entry_proto_collect' ?_))
  rw [Around.under_plainId PySem.F.plain_proto_collect _]
  show wpAny _ A.in1 (newList [] >>= fun l => again (.builtin "list.__iadd__" ⟨[l, .ref r], []⟩)) _ _ s
  refine wpAny_bind (wpAny_newObj_type ?_)
  refine wpAny_pure ⟨plainId_quiet PySem.F.plain_list_iadd _, codeAny_builtin entry_list_iadd' ?_⟩
  rw [Around.under_plainId PySem.F.plain_list_iadd _]
  have hS₁ : (s.heap.push { cls := .type "list", data := .seq ([] : List Value).toArray }).get? s.heap.objs.size = some { cls := .type "list", data := .seq #[] } := Heap.get?_push_size _ rfl
  show wpAny _ A.in1 (Builtin.List.listExtendWith (.ref s.heap.objs.size) (.ref r) (.ref s.heap.objs.size)) _ _ _
  have key := kdl_extend (prog := prog) (w := w) (A := A) (s := { s with heap := s.heap.push { cls := .type "list", data := .seq ([] : List Value).toArray } })
    (R := fun (q : Result) (s' : Shared) => ∃ (h' : Heap) (tk : Nat) (acc' : Array Value) (c' : Nat), q = .ok (.ret (.ref s.heap.objs.size)) ∧ s' = { s with heap := h', toks := tk } ∧
      (∀ b o, s.heap.get? b = some o → h'.get? b = some o) ∧ h'.get? s.heap.objs.size = some { cls := .type "list", dict := none, data := .seq acc' c', slots := #[] } ∧ ItemsOf P acc' n)
    K hh (K.keep _ _ hok fun b _ o e => Heap.get?_push_of_some _ e) s.heap.objs.size (Nat.ne_of_gt hr) (Nat.ne_of_gt hd) (.ref s.heap.objs.size) 0 hS₁
    (fun h' tk acc' c' hk hS' hacc => ⟨h', tk, acc', c', rfl, rfl, fun b o e => hk b o (Nat.ne_of_lt (Heap.lt_size e)) (Heap.get?_push_of_some _ e), hS', hacc⟩) hn
  refine wpAny_mono key (fun fin s' x => ?_) fun e s' x => ?_
  · cases fin with
    | done f =>
      obtain ⟨h', tk, acc', c', e, rfl, hk, hS', hacc⟩ := x
      cases e
      show wpAny _ A (load s.heap.objs.size >>= _) _ _ _
      refine wpAny_bind (wpAny_load hS' ?_)
      refine wpAny_pure ?_
      show R acc'.toList _
      exact h h' tk acc' hk (Heap.lt_size hS') hacc
    | again c₁ =>
      refine ⟨x.1, codeAny_mono x.2 fun q s₂ y => ?_⟩
      obtain ⟨h', tk, acc', c', rfl, rfl, hk, hS', hacc⟩ := y
      show wpAny _ A (load s.heap.objs.size >>= _) _ _ _
      refine wpAny_bind (wpAny_load hS' ?_)
      refine wpAny_pure ?_
      show R acc'.toList _
      exact h h' tk acc' hk (Heap.lt_size hS') hacc
  · obtain ⟨_, _, _, _, e', _⟩ := x
    cases e'
/-- sorted(r), r collected by K, its items data that can be told apart by < -/
theorem sortedK {β : Type} {Q : Value → Shared → Prop} (K : KdlSrc prog w T r d n P OK) (hh : A.handled = none) (hok : OK s.heap) (hn : n ≤ sizeLine) (R : Value → β → Prop) (enc : β → PyData) (bs : List β)
    (hP : ∀ acc : Array Value, ItemsOf P acc n → EachIs R acc.toList bs) (hR : ∀ v b, b ∈ bs → R v b → ∃ as, Reads s.heap v (enc b) as) (hal : AllAlike (bs.map enc)) (hk : Sortable (bs.map enc)) (hu : ∀ b, b ∈ bs → A.units + 2 + (enc b).depth < cLine)
    (h : ∀ (h' : Heap) (tk p : Nat) (out : List Value) (c : Nat), (∀ b o, s.heap.get? b = some o → h'.get? b = some o) → s.heap.objs.size ≤ p → h'.get? p = some (seqObj "list" out.toArray c) → EachIs R out (bs.mergeSort (dataLe false enc)) → Q (.ref p) { s with heap := h', toks := tk }) :
    wpAny (model prog w) A (call (.builtin "sorted") [.ref r]) Q E s := by
  refine call_function_entry kind_sorted plain_sorted entry_sorted (args_sorted1 _) ?_
  unfold Builtin.«sorted»
  refine wpAny_bind (m := checkCount "sorted" 1 1 _) (wpAny_pure ?_)
  refine wpAny_bind (collectK (A := A.in1) K hh hok hn fun h' tk acc hk' hlt hacc => ?_)
  have e := hP acc hacc
  have hlen : acc.toList.length ≤ sizeLine := by rw [Array.length_toList, hacc.1]; exact hn
  refine wpAny_bind (wpAny_newList ?_ hlen)
  generalize acc.toList = vs at e hlen ⊢
  have hoL : (h'.push (seqObj "list" vs.toArray 0)).get? h'.objs.size = some (seqObj "list" vs.toArray 0) := Heap.get?_push_size _ rfl
  have old : ∀ b o, s.heap.get? b = some o → (sortingHeap (h'.push (seqObj "list" vs.toArray 0)) h'.objs.size vs).get? b = some o := fun b o q => by
    have q1 := hk' b o q
    have lt := Heap.lt_size q1
    exact sortingHeap_old (Nat.ne_of_lt lt) (Heap.get?_push_of_some _ q1)
  have er' : EachIs (fun v b => ∃ as, Reads (sortingHeap (h'.push (seqObj "list" vs.toArray 0)) h'.objs.size vs) v (enc b) as) vs bs := by
    refine (each_mem e).mono fun v b x => ?_
    obtain ⟨as, q⟩ := hR v b x.2 x.1
    exact ⟨as, PyProof.Rows.Reads.keeps old q⟩
  refine wpAny_bind (wpAny_holding (wpAny_call_entry slot_list_sort ⟨_, hoL, rfl⟩ entry_list_sort
    (list_sort_vals (κ := dataKind (sortingHeap (h'.push (seqObj "list" vs.toArray 0)) h'.objs.size vs) (bs.map enc)) (s := { s with heap := h'.push (seqObj "list" vs.toArray 0), toks := tk }) hoL
      (SortsAt.data (s := { s with heap := sortingHeap (h'.push (seqObj "list" vs.toArray 0)) h'.objs.size vs, toks := tk }) (each_map (R := fun v d => ∃ as, Reads (sortingHeap (h'.push (seqObj "list" vs.toArray 0)) h'.objs.size vs) v d as) enc er') hal hk (bound_map hu)) hlen ⟨.none, rfl, ?_⟩) (args_list_sort _)))
  have out := sortVals_data false e er' hal
  obtain ⟨c, hc⟩ := sortedHeap_at (vs := vs) (out := (sortVals (dataKind (sortingHeap (h'.push (seqObj "list" vs.toArray 0)) h'.objs.size vs) (bs.map enc)) false vs vs).toArray) hoL
  refine wpAny_pure ⟨_, rfl, h _ tk h'.objs.size _ c (fun b o q => ?_) (Nat.le_of_lt hlt) hc out⟩
  have q1 := hk' b o q
  have lt := Heap.lt_size q1
  exact (sortedHeap_old (Nat.ne_of_lt lt) (by rw [Heap.size_push]; exact Nat.lt_succ_of_lt lt)).trans (Heap.get?_push_of_some _ q1)
end
end Gx
set_option maxRecDepth 100000
set_option maxHeartbeats 4000000
namespace Kl
open PySem PySem.Spec PyProof.Rows L2 Gx Mx
abbrev KW := Str × List Str
def keyK (p : KW) : NestedKey := .tup [.text p.1, .tup (p.2.map .text)]
theorem texts_injK : ∀ {a b : List Str}, a.map NestedKey.text = b.map NestedKey.text → a = b
  | [], [], _ => rfl
  | [], _ :: _, e => by simp at e
  | _ :: _, [], e => by simp at e
  | x :: xs, y :: ys, e => by
    rw [List.map_cons, List.map_cons] at e
    injection e with e1 e2
    injection e1 with e1
    rw [e1, texts_injK e2]
theorem keyK_inj {p q : KW} (e : keyK p = keyK q) : p = q := by
  obtain ⟨a, b⟩ := p
  obtain ⟨c, d⟩ := q
  unfold keyK at e
  injection e with e
  injection e with e1 e2
  injection e1 with e1
  injection e2 with e2 _
  injection e2 with e2
  rw [show a = c from e1, show b = d from texts_injK e2]
theorem depth_keyT : ∀ l : List Str, NestedKey.depthAll (l.map .text) = 0
  | [] => by simp [NestedKey.depthAll]
  | x :: xs => by rw [List.map_cons, NestedKey.depthAll, depth_keyT xs]; simp [NestedKey.depth]
theorem depthK (p : KW) : (keyK p).depth = 2 := by
  unfold keyK
  rw [NestedKey.depth, NestedKey.depthAll, NestedKey.depthAll, NestedKey.depthAll, NestedKey.depth, NestedKey.depth, depth_keyT]
  rfl
theorem keyT_all {K : PySem.W.Frag} {H : Hp} : ∀ l : List Str, KeyAll K H (l.map .text) (l.map V.str)
  | [] => .nil
  | x :: xs => .cons (.text x) (keyT_all xs)
theorem keyT_inv {K : PySem.W.Frag} {H : Hp} : ∀ {l : List Str} {vs : List V}, KeyAll K H (l.map .text) vs → vs = l.map V.str
  | [], _, h => by cases h; rfl
  | x :: xs, _, h => by
    rw [List.map_cons] at h
    cases h with
    | cons h1 h2 =>
      cases h1
      rw [keyT_inv h2]
      rfl
theorem keyK_at {K : PySem.W.Frag} {H : Hp} {a : Addr} {p : KW} : KeyA K H a (keyK p) ↔ ∃ g, SqT K H a [.str p.1, .ref g] ∧ SqT K H g (p.2.map V.str) := by
  constructor
  · rintro ⟨h, _⟩
    unfold keyK at h
    cases h with
    | tup h1 h2 =>
      cases h2 with
      | cons q1 q2 =>
        cases q1
        cases q2 with
        | cons q3 q4 =>
          cases q4
          cases q3 with
          | tup q5 q6 =>
            rw [keyT_inv q6] at q5
            exact ⟨_, h1, q5⟩
  · rintro ⟨g, h1, h2⟩
    refine ⟨?_, by rw [depthK]; omega⟩
    unfold keyK
    exact .tup h1 (.cons (.text _) (.cons (.tup h2 (keyT_all p.2)) .nil))
def ltK (p q : KW) : Bool := if p.1 = q.1 then ltT p.2 q.2 else ltCps p.1.cps.toList q.1.cps.toList
def encK (p : KW) : PyData := .tuple [.str p.1, .tuple (tD p.2)]
theorem ltK_irrefl (p : KW) : ltK p p = false := by
  unfold ltK
  rw [if_pos rfl, ltT_irrefl]
theorem ltK_total (p q : KW) : ltK p q = true ∨ p = q ∨ ltK q p = true := by
  obtain ⟨a, b⟩ := p
  obtain ⟨c, d⟩ := q
  unfold ltK
  by_cases e : a = c
  · subst e
    rw [if_pos rfl, if_pos rfl]
    rcases ltT_total b d with h | h | h
    · exact .inl h
    · exact .inr (.inl (by rw [show b = d from h]))
    · exact .inr (.inr h)
  · rw [if_neg e, if_neg fun z => e z.symm]
    cases q : ltCps a.cps.toList c.cps.toList with
    | true => exact .inl rfl
    | false => exact .inr (.inr (cps_total e q))
theorem ltK_trans {p q r : KW} (h1 : ltK p q = true) (h2 : ltK q r = true) : ltK p r = true := by
  obtain ⟨a, b⟩ := p
  obtain ⟨c, d⟩ := q
  obtain ⟨x, y⟩ := r
  unfold ltK at h1 h2 ⊢
  dsimp only at h1 h2 ⊢
  by_cases e : a = c
  · subst e
    rw [if_pos rfl] at h1
    by_cases e2 : a = x
    · rw [if_pos e2] at h2 ⊢
      exact ltT_trans _ _ _ h1 h2
    · rw [if_neg e2] at h2 ⊢
      exact h2
  · rw [if_neg e] at h1
    by_cases e2 : c = x
    · subst e2
      rw [if_neg e]
      exact h1
    · rw [if_neg e2] at h2
      have h3 := cps_trans h1 h2
      by_cases e3 : a = x
      · subst e3
        rw [cps_irrefl] at h3
        cases h3
      · rw [if_neg e3]
        exact h3
theorem ltK_asym {p q : KW} (h : ltK p q = true) : ltK q p = false := by
  cases e : ltK q p with
  | false => rfl
  | true =>
    have := ltK_trans h e
    rw [ltK_irrefl] at this
    cases this
theorem leK_trans {p q r : KW} (h1 : ltK q p = false) (h2 : ltK r q = false) : ltK r p = false := by
  cases e : ltK r p with
  | false => rfl
  | true =>
    rcases ltK_total q p with h | h | h
    · rw [h] at h1; cases h1
    · rw [← h, h2] at e
      cases e
    · rw [ltK_trans e h] at h2
      cases h2
theorem alike_keys (p q : KW) : PySem.W.alike (encK p) (encK q) = true := by
  unfold encK
  simp only [PySem.W.alike, PySem.W.alikeAll, alike_texts, Bool.and_self]
theorem lt_keys (p q : KW) : PySem.W.dataLt (encK p) (encK q) = ltK p q := by
  unfold encK ltK
  rw [PySem.W.dataLt_pair (by rfl) (by simp only [PySem.W.alike]; exact alike_texts _ _)]
  by_cases e : p.1 = q.1
  · rw [if_pos e, if_pos (by simp [PyData.eqv, e])]
    by_cases e2 : p.2 = q.2
    · rw [if_pos (by rw [e2, PyData.eqv, eqv_texts]; simp), e2, ltT_irrefl]
    · rw [if_neg (by rw [PyData.eqv, eqv_texts]; simp [e2]), lt_texts]
  · rw [if_neg e, if_neg (by simp [PyData.eqv, e]), PySem.W.dataLt_str, ltCps_eq]
section
variable {X : Cx} {P : Program} {w : World} {K : PySem.W.Frag}
theorem key_dp {H : Hp} {a : Addr} {p : KW} (h : KeyA K H a (keyK p)) : Dp K H (.ref a) (encK p) := by
  obtain ⟨g, h1, h2⟩ := keyK_at.mp h
  exact .tup h1 (.cons (.str _) (.cons (.tup h2 (dp_texts p.2)) .nil))
end
end Kl
set_option maxRecDepth 100000
set_option maxHeartbeats 4000000
namespace Kl
open PySem PySem.Spec PyProof.Rows L2 Gx Mx
def SetNp (w : World) (a : Addr) (L : NMs) (h : Heap) : Prop := ∃ es ep t, SetNAt w h a L es ep t
/-- the set with the members L stands at a -/
def SetNO (w : World) (a : Addr) (L : NMs) : HO := .ext (SetNp w a L)
theorem setNO_ok {P : Program} {w : World} {H : Hp} {h : Heap} {a : Addr} {L : NMs} (R : SetNp w a L h) : ObjOk P w H h a (SetNO w a L) := by
  obtain ⟨es, ep, t, r⟩ := id R
  obtain ⟨ob, here, _⟩ := r.here
  refine ⟨R, ⟨ob, here⟩, fun h1 h2 p k => ?_⟩
  obtain ⟨es, ep, t, r⟩ := p
  exact ⟨es, ep, t, r.at k⟩
/-- keys that are data and have an order -/
structure SrtK (κ : Type) (key : κ → NestedKey) (enc : κ → PyData) (lt : κ → κ → Bool) : Prop where
  tup : ∀ p, ∃ xs, enc p = .tuple xs
  alike : ∀ p q, PySem.W.alike (enc p) (enc q) = true
  lts : ∀ p q, PySem.W.dataLt (enc p) (enc q) = lt p q
  asym : ∀ {p q}, lt p q = true → lt q p = false
  le : ∀ {p q r}, lt q p = false → lt r q = false → lt r p = false
  depth : ∀ p, (enc p).depth ≤ 8
  dp : ∀ {K : PySem.W.Frag} {H : Hp} {a : Addr} {p : κ}, KeyA K H a (key p) → Dp K H (.ref a) (enc p)
theorem srtKW : SrtK KW keyK encK ltK where
  tup := fun p => ⟨_, rfl⟩
  alike := alike_keys
  lts := lt_keys
  asym := ltK_asym
  le := fun h1 h2 => leK_trans h1 h2
  depth := fun p => by
    have := depth_texts p.2
    unfold encK
    simp only [PyData.depth, PyData.depthAll]
    omega
  dp := key_dp
end Kl
set_option maxRecDepth 100000
set_option maxHeartbeats 4000000
namespace Kl
open PySem PySem.Spec PyProof.Rows L2 Gx Mx PpSet
section
variable {X : Cx}
theorem setNAt_typeIs {w : World} {s : Shared} {a : Addr} {L : NMs} {es : Array (Int × Value)} {ep : Nat} {t : SetTable} (R : SetNAt w s.heap a L es ep t) : s.TypeIs (.ref a) "set" := by
  obtain ⟨ob, here, ex, _⟩ := R.here
  exact ⟨ob, here, ex.1⟩
/-- .add of a key that is not there, in the description of the heap -/
theorem add_key {pins : List (Addr × Obj)} {σ : L2.St} {G : Hp} {s : Shared} {E : Value → Shared → Prop} {D a : Addr} {k : NestedKey} {L : NMs} {Q : Value → Shared → Prop} (J : Inv X pins σ G s) (hu : X.A.units + 64 < cLine) (hD : G D = some (SetNO X.w D L))
    (ka : KeyA X.K G a k) (kall : ∀ p ∈ L, KeyA X.K G p.1 p.2) (few : L.length + 1 < 64) (new : k ∉ L.map (·.2))
    (done : ∀ (L' : NMs) s2, L'.Perm ((a, k) :: L) → Inv X pins σ (upd G D (SetNO X.w D L')) s2 → Q .none s2) : wpAny (model X.prog X.w) X.A (call (.builtin "set.add") [.ref D, .ref a]) Q E s := by
  obtain ⟨es, ep, t, R⟩ : SetNp X.w D L s.heap := (J.hok D _ hD).1
  have kp : ∀ p ∈ L, IsN s.heap p.2 p.1 := fun p m => nkey_of J (kall p m)
  have kx : IsN s.heap k a := nkey_of J ka
  refine wpAny_call_entry PySem.F.slot_set_add (setNAt_typeIs R) PySem.F.entry_set_add ?_ (PySem.F.args_set_add_2 (.ref D) (.ref a))
  unfold Builtin.«set.add» Builtin.Frozenset.oneOther Builtin.Frozenset.addrOf setAdd
  simp only [List.isEmpty_nil, bind_assoc]
  refine wpAny_bind (m := pure _) (wpAny_pure ?_)
  refine wpAny_bind (m := pure _) (wpAny_pure ?_)
  dsimp only
  refine wpAny_bind (wpAny_holding (wpAny_bind (pyHash_key k _ _ _ _ kx.1 (by have := kx.2; simp only [Around.in1_units]; omega) ?_)))
  refine addN (s := { s with toks := s.toks + k.draws }) R kp kx (by simp only [Around.in1_units]; omega) few fun b h' L2 es2 ep2 t2 sb R2 _ c2 => ?_
  refine wpAny_pure ⟨Value.none, rfl, done L2 _ (c2 new) ?_⟩
  obtain ⟨ob, here, _⟩ := R2.here
  exact J.write (e := D) (t' := s.toks + k.draws) (by rw [hD]; trivial) (.inl rfl) (fun b u nb eb => (sb.2 b nb).trans eb) ⟨ob, here⟩ (setNO_ok ⟨es2, ep2, t2, R2⟩)
/-- {elt for target in iter if ..}, elt a nested tuple that is not yet there: D the new set -/
def tScN (K : PySem.W.Frag) (w : World) (wi : TI) (g : TG) (tt : TT) (te : TE) (vs : List Nat) : TE := fun σ G Q => wi σ G fun J G1 => ∀ D, G1 D = none → ∃ V : Nat → Nat → Hp → Prop, (∃ m, V 0 m (upd G1 D (SetNO w D []))) ∧ ∀ i m G, V i m G →
  (J.stop i G ∧ Q (.ref D) G) ∨ (J.go i G ∧ ∃ Nx : Hp → Prop, (∀ G', Nx G' → ∃ m', m' < m ∧ V (i + 1) m' G') ∧ ∀ x G', J.yld i G x G' → g x (wipe σ vs) G' fun σ2 G2 => wipe σ2 vs = wipe σ vs ∧ tt σ2 G2 fun b G3 =>
    if b = true then te σ2 G3 fun y G4 => ∃ (a : Addr) (k : NestedKey) (L : NMs), y = .ref a ∧ KeyA K G4 a k ∧ G4 D = some (SetNO w D L) ∧ (∀ p ∈ L, KeyA K G4 p.1 p.2) ∧ L.length + 1 < 64 ∧ k ∉ L.map (·.2) ∧ ∀ L' : NMs, L'.Perm ((a, k) :: L) → Nx (upd G4 D (SetNO w D L')) else Nx G3)
theorem scN_core {pins : List (Addr × Obj)} {s : Shared} {σ : L2.St} {G : Hp} {Q : VK} {elt tg iter : Expr} {ifs : List Expr} {scope : Scope} {own : List (Str × Nat)} {pos pos' : Pos} {wi : TI} {g : TG} {tt : TT} {te : TE} {use : Option (Value → Sem Unit)} {Qf : Value → Shared → Prop}
    (hc : X.calm = true) (hu : X.A.units + 64 < cLine) (nd : X.N.Nodup) (inv : Inv X pins σ G s) (hi : PI X tg iter wi) (ok : BlkOk X.N X.env.scope scope own)
    (hg : ∀ (s : Shared) (G : Hp) (C : Addr) (cl : List (Str × Addr)) (fp : List Addr), PG (X.blk s G scope (compEnvC scope cl C X.env) fp) tg g) (ht : ∀ (s : Shared) (G : Hp) (C : Addr) (cl : List (Str × Addr)) (fp : List Addr), PTs (X.blk s G scope (compEnvC scope cl C X.env) fp) ifs tt)
    (he : ∀ (s : Shared) (G : Hp) (C : Addr) (cl : List (Str × Addr)) (fp : List Addr), PE (X.blk s G scope (compEnvC scope cl C X.env) fp) elt te) (hs : ∀ x, foldedSetIterable iter X.env x = pure x)
    (want : tScN X.K X.w wi g tt te (own.map (·.2)) σ G Q)
    (after : ∀ D C s' m G', Inv X pins σ G' s' → Q (.ref D) G' → s'.heap.Ns C m → FpOk X pins G' C → compPost (model X.prog X.w) X.A X.xe use Qf (.ref D) C (.ok .next) s') :
    wpAny (model X.prog X.w) X.A (comprehension (.SetComp elt [⟨tg, iter, ifs, 0⟩] scope pos) scope X.env pos' (newSet (.type "set")) false (eval iter X.env) use) Qf X.xe s := by
  have cells : ∀ y ∈ scope.names, y.2 = .free → ∃ c, X.env.cells.lookup y.1 = some c := by
    intro y hy e
    rcases ok.free y hy e with k | k
    · exact inv.ok.has _ (.inl k)
    · exact inv.ok.has _ (.inr k)
  have uniq : ∀ y ∈ scope.names, y.2 = .local → scope.names.lookup y.1 = some .local := fun y hy e => by
    have k := ok.uniq y hy
    rw [e] at k
    exact k
  refine wpAny_comprehension_free (use := use) rfl hs (closure_ok cells) ok.kind uniq (thn (hi.run pins s σ G _ inv want) fun xv s1 hx => thn hx fun itv s2 h2 => ?_)
  obtain ⟨it, fp, tn, J, G2, rfl, inv2, turns, at2, free2, rest⟩ := h2
  refine newSet_ok (newEnv_comp ?_)
  generalize eD : s2.heap.objs.size = D
  have noD : G2 D = none := inv2.hok.fresh (Nat.le_of_eq eD)
  obtain ⟨V, ⟨m0, v0⟩, turn⟩ := rest D noD
  -- the set is laid
  generalize es3 : ({ s2 with heap := s2.heap.push { cls := .type "set", dict := none, data := .set #[] 0 (.fresh 0 0 (!X.w.params.followText "set-order")) } } : Shared) = s3
  have hp3 : s3.heap = s2.heap.push { cls := .type "set", dict := none, data := .set #[] 0 (.fresh 0 0 (!X.w.params.followText "set-order")) } := by rw [← es3]
  have inv3 : Inv X pins σ (upd G2 D (SetNO X.w D [])) s3 := by
    rw [← es3]
    refine inv2.laid (t' := s2.toks) (fun b o e => Heap.get?_push_of_some _ e) (Nat.le_of_eq eD) ?_
    rw [← eD]
    exact setNO_ok ⟨_, _, _, setN_fresh (Heap.get?_push_size _ rfl)⟩
  have low : ∀ b ∈ fp, b < s2.heap.objs.size := by
    intro b hb
    obtain ⟨o, e, _⟩ := turns.obj _ _ at2 b hb
    exact Heap.lt_size e
  have free3 : ∀ b ∈ fp, FpOk X pins (upd G2 D (SetNO X.w D [])) b ∧ b < s3.heap.objs.size := by
    intro b hb
    have lt := low b hb
    have ne : b ≠ D := by
      rw [← eD]
      exact Nat.ne_of_lt lt
    refine ⟨⟨by rw [upd_ne ne]; exact (free2 b hb).1, (free2 b hb).2⟩, ?_⟩
    rw [hp3, Heap.size_push]
    exact Nat.lt_succ_of_lt lt
  have at3 : tn 0 s3.heap := turns.keep _ _ _ at2 fun b _ o e => by
    rw [hp3]
    exact Heap.get?_push_of_some _ e
  have inv4 := block_start inv3 ok nd free3
  have pg := hg s3 (upd G2 D (SetNO X.w D [])) s3.heap.objs.size (cellsFrom (s3.heap.objs.size + 1) scope.names (cloFrom X.env.cells scope.names [])) fp
  have pt := ht s3 (upd G2 D (SetNO X.w D [])) s3.heap.objs.size (cellsFrom (s3.heap.objs.size + 1) scope.names (cloFrom X.env.cells scope.names [])) fp
  have pe := he s3 (upd G2 D (SetNO X.w D [])) s3.heap.objs.size (cellsFrom (s3.heap.objs.size + 1) scope.names (cloFrom X.env.cells scope.names [])) fp
  have none3 : ∀ b ∈ fp, (upd G2 D (SetNO X.w D [])) b = none := fun b hb => (free3 b hb).1.1
  show codeAny _ _ (.compStart (.SetComp elt [⟨tg, iter, ifs, 0⟩] scope pos) 0 (.ref it) (.ref D) (compEnvC scope (cellsFrom (s3.heap.objs.size + 1) scope.names (cloFrom X.env.cells scope.names [])) s3.heap.objs.size X.env))
    (compPost (model X.prog X.w) X.A X.xe use Qf (.ref D) s3.heap.objs.size) { s3 with heap := pushCells (s3.heap.push { cls := .type "dict", data := .dict #[] }) scope.names }
  generalize en : compEnvC scope (cellsFrom (s3.heap.objs.size + 1) scope.names (cloFrom X.env.cells scope.names [])) s3.heap.objs.size X.env = inner at inv4 pg pt pe ⊢
  have own1 : inner.locals = s3.heap.objs.size := by
    subst en
    rfl
  generalize eG3 : upd G2 D (SetNO X.w D []) = G3 at inv3 inv4 pg pt pe v0 none3 free3
  generalize es4 : ({ s3 with heap := pushCells (s3.heap.push { cls := .type "dict", data := .dict #[] }) scope.names } : Shared) = s4 at inv4 ⊢
  have at4 : tn 0 s4.heap := turns.keep _ _ _ at3 fun b _ o e => by
    rw [← es4]
    exact pushCells_keeps _ _ _ _ (Heap.get?_push_of_some _ e)
  have quiet : ∀ {σ' : L2.St} {G' : Hp} {s' : Shared}, Inv (X.blk s3 G3 scope inner fp) [] σ' G' s' → (∀ b ∈ fp, G' b = none) → ∀ b ∈ fp, FpOk (X.blk s3 G3 scope inner fp) [] G' b := by
    intro σ' G' s' J' hn b hb
    refine ⟨hn b hb, (J'.ok.exf b hb).1, J'.ok.exfs b hb, .inl hb, fun x c e => (J'.ok.exf b hb).2 x c e, fun p hp => ?_⟩
    exact absurd (show p ∈ ([] : List (Addr × Obj)) ++ [] from hp) (by simp)
  refine (fun loop => codeAny_compStart_set loop (turns.self X.A 0 _ _ _ at4 loop)) ?_
  refine compLoopS_any (fun n s' => ∃ i G', Inv (X.blk s3 G3 scope inner fp) [] (wipe σ (own.map (·.2))) G' s' ∧ tn i s'.heap ∧ (∀ b ∈ fp, G' b = none) ∧ V i n G') ?_ m0 ⟨0, G3, inv4, at4, none3, v0⟩
  rintro n s5 ⟨i, G5, inv5, at5, none5, v5⟩
  rcases turn i n G5 v5 with ⟨stop, qq⟩ | ⟨go, Nx, small, step⟩
  · -- no item is left
    refine thnF (turns.done (X.blk s3 G3 scope inner fp) rfl rfl rfl hc i [] s5 _ G5 (fun _ _ => False) inv5 (quiet inv5 none5) at5 stop) fun r s6 ⟨hr, inv6⟩ => ?_
    subst hr
    have back : Inv X pins σ G5 s6 := inv3.call' (ch := fp) inv6.os inv6.base inv6.hok inv6.bare fun b hb => ⟨(free3 b hb).1.2.2.2.1, (free3 b hb).1.2.1, (free3 b hb).1.2.2.2.2.1, (free3 b hb).1.2.2.2.2.2⟩
    have noC : G5 s3.heap.objs.size = none := by
      have k : G5 inner.locals = none := inv6.free
      rwa [own1] at k
    obtain ⟨m, ns, _⟩ := inv6.loc
    have ns' : s6.heap.Ns inner.locals m := ns
    rw [own1] at ns'
    exact after D s3.heap.objs.size s6 m G5 back qq ns' (inv3.fpOk (Nat.le_refl _) noC)
  · -- one item more
    refine thnF (turns.item (X.blk s3 G3 scope inner fp) rfl rfl rfl hc i [] s5 _ G5 (fun _ _ => False) inv5 (quiet inv5 none5) at5 go) fun r s6 ⟨u, hr, h6⟩ => ?_
    subst hr
    refine thnF h6 fun _ s7 ⟨x, G7, inv7, rel7, y7, at7, none7⟩ => ?_
    have pinned := inv7.pinned (quiet inv7 none7) (turns.obj _ _ at7)
    refine thnF (pg.run _ s7 _ G7 x u _ pinned rel7 (step x G7 y7)) fun _ s8 ⟨σ8, G8, inv8, same8, q8⟩ => ?_
    refine thnF (pt.run _ s8 σ8 G8 _ inv8 q8) fun b s9 ⟨G9, inv9, q9⟩ => ?_
    have over : ∀ {s' : Shared} {G' : Hp}, Inv (X.blk s3 G3 scope inner fp) ([] ++ pinsAt fp s7.heap) σ8 G' s' → Nx G' → ∃ m, m < n ∧ ∃ i G', Inv (X.blk s3 G3 scope inner fp) [] (wipe σ (own.map (·.2))) G' s' ∧ tn i s'.heap ∧ (∀ b ∈ fp, G' b = none) ∧ V i m G' := by
      intro s' G' J' nx
      obtain ⟨m', lt, v'⟩ := small G' nx
      have held : ∀ b ∈ fp, ∀ o, s7.heap.get? b = some o → s'.heap.get? b = some o ∧ G' b = none := by
        intro b hb o e
        have k := J'.pin (b, o) (List.mem_append_right _ (List.mem_append_right _ (mem_pinsAt hb e)))
        exact ⟨k.1, k.2.1⟩
      have len : (wipe σ (own.map (·.2))).length = σ8.length := by
        rw [← same8]
        exact wipe_length ..
      refine ⟨m', lt, i + 1, G', (J'.unpinned (pins := [])).weak len (fun j v e => ?_), turns.keep _ _ _ at7 fun b hb o e => (held b hb o e).1, fun b hb => ?_, v'⟩
      · rw [← same8] at e
        exact (wipe_some e).1
      · obtain ⟨o, e, _⟩ := turns.obj _ _ at7 b hb
        exact (held b hb o e).2
    cases b with
    | false =>
      rw [if_neg (by decide)] at q9
      rw [if_neg (by decide)]
      exact over inv9 q9
    | true =>
      rw [if_pos rfl] at q9
      rw [if_pos rfl]
      refine thnF (pe.run _ s9 σ8 G9 _ inv9 q9) fun val s10 ⟨y, G10, inv10, rel10, a, k, L, ey, ka, atD, kall, few, new, nx⟩ => ?_
      subst ey
      obtain rfl := (show val = Value.ref a from rel10)
      exact add_key (X := X.blk s3 G3 scope inner fp) inv10 hu atD ka kall few new fun L' s11 pm inv11 => over inv11 (nx L' pm)
/-- .. as a value -/
theorem pe_scN {elt tg iter : Expr} {ifs : List Expr} {scope : Scope} {own : List (Str × Nat)} {pos : Pos} {wi : TI} {g : TG} {tt : TT} {te : TE} (hc : X.calm = true) (hu : X.A.units + 64 < cLine) (nd : X.N.Nodup) (hi : PI X tg iter wi) (ok : BlkOk X.N X.env.scope scope own)
    (hg : ∀ (s : Shared) (G : Hp) (C : Addr) (cl : List (Str × Addr)) (fp : List Addr), PG (X.blk s G scope (compEnvC scope cl C X.env) fp) tg g) (ht : ∀ (s : Shared) (G : Hp) (C : Addr) (cl : List (Str × Addr)) (fp : List Addr), PTs (X.blk s G scope (compEnvC scope cl C X.env) fp) ifs tt)
    (he : ∀ (s : Shared) (G : Hp) (C : Addr) (cl : List (Str × Addr)) (fp : List Addr), PE (X.blk s G scope (compEnvC scope cl C X.env) fp) elt te) (hs : ∀ x, foldedSetIterable iter X.env x = pure x := by intro _; rfl) :
    PE X (.SetComp elt [⟨tg, iter, ifs, 0⟩] scope pos) (tScN X.K X.w wi g tt te (own.map (·.2))) := by
  refine ⟨fun pins s σ G Q inv want => ?_⟩
  rw [eval_SetComp]
  refine scN_core hc hu nd inv hi ok hg ht he hs want fun D C s' m G' inv' q ns f => ⟨m, ns, fun h2 sb => ?_⟩
  obtain ⟨f0, f1, _, f3, f4, f5⟩ := f
  exact ⟨.ref D, G', inv'.turned (t' := s'.toks) (fun b o hb e => (sb.2 b hb).trans e) f0 f1 f3 f4 f5, rfl, q⟩
/-- len of such a set -/
theorem cr_lenSN : CallR X (.builtin "len") (fun xs G Q => ∃ (a : Addr) (L : NMs), xs = [.ref a] ∧ G a = some (SetNO X.w a L) ∧ Q (.int (L.length : Nat)) G) := by
  intro pins s σ G xs us Q inv r want
  obtain ⟨a, L, rfl, ea, q⟩ := want
  rw [Vals.ref1 r]
  obtain ⟨es, ep, t, R⟩ : SetNp X.w a L s.heap := (inv.hok a _ ea).1
  obtain ⟨ob, here, ex, dt⟩ := R.here
  have size := rowsN_len R.rows
  have few := R.few
  exact call_len_set here ex dt R.ft (by rw [size]; omega) ⟨.int (L.length : Nat), G, inv.tok _, ⟨_, by rw [size]⟩, q⟩
/-- over any walk -/
theorem scn_it {K : PySem.W.Frag} {w : World} {J : It} {n : Nat} {C : Hp → Prop} {Y : Nat → Hp → V → Hp → Prop} (k : Walk J n C Y) {g : TG} {tt : TT} {te : TE} {vs : List Nat} {σ : L2.St} {G1 : Hp} {D : Addr} {Qd : Hp → Prop} (Pv : Nat → Hp → Prop) (h0 : Pv 0 (upd G1 D (SetNO w D [])))
    (hC : ∀ i G, i ≤ n → Pv i G → C G)
    (hs : ∀ i x G G', i < n → Pv i G → Y i G x G' → g x (wipe σ vs) G' fun σ2 G2 => wipe σ2 vs = wipe σ vs ∧ tt σ2 G2 fun b G3 =>
      if b = true then te σ2 G3 fun y G4 => ∃ (a : Addr) (k : NestedKey) (L : NMs), y = .ref a ∧ KeyA K G4 a k ∧ G4 D = some (SetNO w D L) ∧ (∀ p ∈ L, KeyA K G4 p.1 p.2) ∧ L.length + 1 < 64 ∧ k ∉ L.map (·.2) ∧ ∀ L' : NMs, L'.Perm ((a, k) :: L) → Pv (i + 1) (upd G4 D (SetNO w D L')) else Pv (i + 1) G3) (hd : ∀ G, Pv n G → Qd G) :
    ∃ V : Nat → Nat → Hp → Prop, (∃ m, V 0 m (upd G1 D (SetNO w D []))) ∧ ∀ i m G, V i m G →
      (J.stop i G ∧ Qd G) ∨ (J.go i G ∧ ∃ Nx : Hp → Prop, (∀ G', Nx G' → ∃ m', m' < m ∧ V (i + 1) m' G') ∧ ∀ x G', J.yld i G x G' → g x (wipe σ vs) G' fun σ2 G2 => wipe σ2 vs = wipe σ vs ∧ tt σ2 G2 fun b G3 =>
        if b = true then te σ2 G3 fun y G4 => ∃ (a : Addr) (k : NestedKey) (L : NMs), y = .ref a ∧ KeyA K G4 a k ∧ G4 D = some (SetNO w D L) ∧ (∀ p ∈ L, KeyA K G4 p.1 p.2) ∧ L.length + 1 < 64 ∧ k ∉ L.map (·.2) ∧ ∀ L' : NMs, L'.Perm ((a, k) :: L) → Nx (upd G4 D (SetNO w D L')) else Nx G3) := by
  refine ⟨fun i m G => m = n - i ∧ i ≤ n ∧ Pv i G, ⟨n, rfl, Nat.zero_le n, h0⟩, ?_⟩
  rintro i m G ⟨rfl, le, p⟩
  have c := hC i G le p
  rcases Nat.lt_or_eq_of_le le with lt | rfl
  · exact .inr ⟨k.goes i G lt c, Pv (i + 1), fun G' p' => ⟨n - (i + 1), by omega, rfl, lt, p'⟩, fun x G' y => hs i x G G' lt p (k.yields i G x G' lt c y)⟩
  · exact .inl ⟨k.stops G c, hd G p⟩
end
end Kl
set_option maxRecDepth 100000
set_option maxHeartbeats 4000000
namespace Gx
open PySem PySem.Spec PySem.Calls PyProof.Rows L2 LamX
section
variable {X : Cx} {pins : List (Addr × Obj)} {σ : L2.St} {H : Hp} {s : Shared}
theorem run_lam1 {A : Around} {f c' : Addr} {q y : Str} {params : Arguments} {body : Expr} {scope : Scope} {pm ctv u : Value} {v : V} {k : Nat} {tb : TE} {Q : VK} {E : Value → Shared → Prop} (I : Inv X pins σ H s) (room : Room (k + 1) A) (fr : A.frames = X.A.frames)
    (hf : s.heap.get? f = some (PySem.W.kla_obj "<lambda>" q params body scope [] pm c' ctv)) (hc : H c' = some (CodeO c' q))
    (hbind : bindArgs (PySem.W.kla_fn "<lambda>" q params body scope [] pm (.ref c') ctv) ⟨[u], []⟩ = pure [(y, u)]) (S : FnScope [y] [y] scope) (rv : RelV v u)
    (hbody : ∀ (A : Around) (outer : List Env) (s : Shared) (H : Hp), Room k (A.deeper (envOfC q scope s.heap.objs.size f (.ref c'))) → PE (cxOf CX0 X.prog X.w X.K X.mg X.base [y] q scope f (.ref c') A outer s H E0) body tb)
    (want : tb [some v] H Q) : wpAny (model X.prog X.w) A (call (.ref f) [u]) (EP X pins σ Q) E s := by
  obtain ⟨⟨oc, vs, t, hoc, hdc, hvc⟩, _, _⟩ := I.hok c' _ hc
  have e0 : Env0 X.prog X.w X.K X.mg X.base A X.stack s H := by
    have e := I.env0
    exact ⟨by rw [fr]; exact e.frames, e.mod, e.bs, e.bsz, e.funs, e.frf, e.hok, e.bare⟩
  have rc : codeAny (model X.prog X.w) A (.call (.ref f) ⟨[u], []⟩) (CR CX0 X.stack X.prog X.w H s Q E0) s := by
    refine PySem.W.kla_callFunE room.depth hf rfl S.co S.gen rfl ⟨c', oc, vs, t, rfl, hoc, hdc, hvc⟩ ?_
    rw [hbind]
    refine wpAny_pure (wpAny_newFunctionEnv_cells S.kind (fun x hx => ?_) fun env he s1 x => ?_)
    · rw [List.mem_singleton.mp hx]
      rcases S.par y (List.mem_singleton.mpr rfl) with q | q
      · exact .inl q
      · exact .inr ⟨q, PySem.W.cellsFrom_some _ _ _ (.inl q)⟩
    subst he
    refine ⟨I.nolimit.keeps x.toInCall.keep, ?_⟩
    have J : Inv (cxOf CX0 X.prog X.w X.K X.mg X.base [y] q scope f (.ref c') A X.stack s H E0) [] (L2.start [y] [v]) H s1 := inv_start (us := [u]) S room.hd e0 rfl (.cons rv .nil) x
    refine PySem.W.kla_codeExpr (wpAny_mono ((hbody A X.stack s H (room.deeper _)).run [] s1 (L2.start [y] [v]) H Q J want) (fun w s' hq => ?_) fun e s' hq => hq)
    obtain ⟨w', H', J', rw', q⟩ := hq
    exact ⟨w', H', J'.os, J'.bare, J'.base, J'.hok, rw', q⟩
  refine wpAny_call (codeAny_mono rc fun r s' hq => ?_)
  match r, hq with
  | .error e, hq => exact hq.elim
  | .ok (.ret u), hq => exact I.after hq
end
end Gx
set_option maxRecDepth 100000
set_option maxHeartbeats 4000000
namespace Gx
open PySem PySem.Spec PySem.Calls PyProof.Rows L2 LamX
/-- the heap without one of its objects -/
def lessH (h : Heap) (k : Addr) : Heap := { h with objs := h.objs.setIfInBounds k { cls := .none, data := .freed } }
theorem lessH_at (h : Heap) (k : Addr) : (lessH h k).get? k = none := by
  unfold lessH Heap.get?
  simp only [Array.getElem?_setIfInBounds]
  by_cases c : k < h.objs.size
  · simp [c]
  · simp [c]
theorem lessH_ne {h : Heap} {k b : Addr} (n : b ≠ k) : (lessH h k).get? b = h.get? b := by
  unfold lessH Heap.get?
  rw [Array.getElem?_setIfInBounds_ne (Ne.symm n)]
/-- an object that the reading of the heap does not tell of, laid since the start -/
structure Off (X : Cx) (pins : List (Addr × Obj)) (b : Addr) : Prop where
  ge : X.s_0.heap.objs.size ≤ b
  nl : b ≠ X.env.locals
  nc : ∀ x c, X.env.cells.lookup x = some c → c ≠ b
  np : ∀ p ∈ X.pn ++ pins, p.1 ≠ b
  nf : b ∉ X.fs
section
variable {X : Cx} {pins : List (Addr × Obj)} {σ : L2.St} {H : Hp} {s : Shared}
theorem Off.fresh (I : Inv X pins σ H s) {b : Addr} (h : s.heap.objs.size ≤ b) : Off X pins b := by
  have hlt : ∀ {c : Addr} {o : Obj}, s.heap.get? c = some o → c ≠ b := fun e z => by
    rw [z] at e
    exact absurd (Nat.lt_of_lt_of_le (Heap.lt_size e) h) (Nat.lt_irrefl _)
  refine ⟨Nat.le_trans I.sz h, fun z => ?_, fun x c e z => ?_, fun p hp z => ?_, I.nofs h⟩
  · have := I.lt
    rw [← z] at this
    exact absurd (Nat.lt_of_lt_of_le this h) (Nat.lt_irrefl _)
  · obtain ⟨v, o, ho, _⟩ := I.cell x c e
    exact hlt ho z
  · exact hlt (I.pin p hp).1 z
/-- two objects off the reading are written; the one becomes a list that is told of -/
theorem inv_list {k a : Addr} {xs : List V} {h' : Heap} {t' : Nat} (I : Inv X pins σ H s) (ok : Off X pins k) (oa : Off X pins a) (nk : H k = none) (na : H a = none) (hka : k ≠ a) (keep : ∀ b o, b ≠ k → b ≠ a → s.heap.get? b = some o → h'.get? b = some o)
    (new : ObjOk X.prog X.w (upd H a (.lst xs)) h' a (.lst xs)) : Inv X pins σ (upd H a (.lst xs)) { s with heap := h', toks := t' } := by
  have at_ : ∀ b u, H b = some u → b ≠ a ∧ b ≠ k := fun b u e => ⟨ne_of_none e na, ne_of_none e nk⟩
  have off : ∀ {b : Addr}, b ∉ [k, a] → b ≠ k ∧ b ≠ a := fun {b} h => ⟨fun z => h (by simp [z]), fun z => h (by simp [z])⟩
  refine I.step (g' := s.gens) (d' := s.drawn) (ch := [k, a]) (fun b hb => ?_) (fun b o _ _ hc e _ => keep b o (off hc).1 (off hc).2 e) (fun b o _ _ hc e _ => ⟨o.slots, keep b o (off hc).1 (off hc).2 e⟩)
    (fun b o hc _ n => by rw [upd_ne (off hc).2]; exact n) (fun b o hc e => ⟨o, keep b o (off hc).1 (off hc).2 e⟩) (fun b ys e => by rw [upd_ne (at_ _ _ e).1]; exact e) (fun b o u e => by rw [upd_ne (at_ _ _ e).1]; exact e) (fun b ps e => ⟨#[], by rw [upd_ne (at_ _ _ e).1, e]; simp⟩) (fun m hm => ?_) (fun b u e => ?_) I.bare
  · rcases List.mem_cons.mp hb with rfl | hb
    · exact ⟨.inr ok.ge, ok.nl, ok.nc, ok.np⟩
    · rw [List.mem_singleton.mp hb]
      exact ⟨.inr oa.ge, oa.nl, oa.nc, oa.np⟩
  · obtain ⟨o, es, ep, ho, r⟩ := hm
    exact ⟨o, es, ep, keep _ o (Ne.symm ok.nl) (Ne.symm oa.nl) ho, r⟩
  · by_cases hb : b = a
    · rw [hb] at e ⊢
      rw [upd_same] at e
      cases e
      exact new
    · rw [upd_ne hb] at e
      refine (I.hok b u e).stay (fun c v hc q => keep c v ?_ ?_ q) (fun c q => by rw [upd_ne (at_ _ _ q).1]; exact q) fun c ys q => by rw [upd_ne (at_ _ _ q).1]; exact q
      · rcases hc with z | z
        · rw [z]
          exact (at_ _ _ e).2
        · exact (at_ _ _ z).2
      · rcases hc with z | z
        · rw [z]
          exact hb
        · exact (at_ _ _ z).1
end
end Gx
set_option maxRecDepth 100000
set_option maxHeartbeats 4000000
namespace Gx
open PySem PySem.Spec PySem.Calls PyProof.Rows L2 LamX
/-- what the keys are, as data -/
structure OrdD {κ : Type} (enc : κ → PyData) : Prop where
  ne : ∀ p, ∃ x r, enc p = .tuple (x :: r)
  alike : ∀ p q, PySem.W.alike (enc p) (enc q) = true
  depth : ∀ p, (enc p).depth ≤ 8
abbrev eK {κ : Type} (enc : κ → PyData) (p : V × κ) : PyData := enc p.2
/-- the stable order by the keys -/
def byD {κ : Type} (enc : κ → PyData) (bs : List (V × κ)) : List (V × κ) := bs.mergeSort (PySem.W.dataLe false (eK enc))
variable {κ : Type} {enc : κ → PyData}
section
variable {X : Cx} {pins : List (Addr × Obj)} {σ : L2.St} {H : Hp} {s : Shared}
/-- the keys are asked for, one by one; then the items are sorted by them -/
theorem sort_restT (OD : OrdD enc) {A : Around} {f : Value} {a kS : Addr} {e1 : Nat} {bs : List (V × κ)} {vs : List Value} {Pf : PySem.Fin → Shared → Prop} {E : Value → Shared → Prop}
    (I : Inv X pins σ H s) (ok : Off X pins kS) (oa : Off X pins a) (nk : H kS = none) (na : H a = none) (hka : kS ≠ a) (gk : s.heap.get? kS = some (seqObj "list" #[] 0)) (ga : s.heap.get? a = some (seqObj "list" #[] e1))
    (hR : PySem.W.EachIs (fun v (p : V × κ) => RelV p.1 v) vs bs) (hZ : bs.length ≤ sizeLine) (hu : ∀ p ∈ bs, A.units + (eK enc p).depth < cLine)
    (turn : ∀ (v : Value) (p : V × κ), RelV p.1 v → p ∈ bs → ∀ (ps : List (Addr × Obj)), (∀ q ∈ pins, q ∈ ps) → ∀ (s' : Shared) (H' : Hp), Same H H' → Inv X ps σ H' s' → wpAny (model X.prog X.w) A (call f [v]) (EP X ps σ fun w H2 => Dp X.K H2 w (enc p.2) ∧ Same H' H2) (fun _ _ => False) s')
    (h : ∀ (H' : Hp) (s' : Shared), Same H H' → H' a = none → Inv X pins σ (upd H' a (.lst ((byD enc bs).map (·.1)))) s' → Pf (.done (.ret .none)) s') :
    wpAny (model X.prog X.w) A (PyProof.Rows.ksk_rest a f false vs.toArray e1 (.ref kS)) Pf E s := by
  have lvs := hR.length
  unfold PyProof.Rows.ksk_rest
  refine wpAny_bind (wpAny_rule ?_)
  rw [← Array.forIn_toList]
  refine wpAny_bind (PyProof.Rows.ksk_fold (fun i s' => ∃ (H' : Hp) (kA : Array Value) (e : Nat), Same H H' ∧ Inv X pins σ H' s' ∧ H' kS = none ∧ H' a = none ∧ s'.heap.get? kS = some (seqObj "list" kA e) ∧ s'.heap.get? a = some (seqObj "list" #[] e1) ∧
      PySem.W.EachIs (fun v (p : V × κ) => ∃ w, RelV w v ∧ Dp X.K H' w (enc p.2)) kA.toList (bs.take i)) vs 0 s ⟨H, #[], 0, Same.refl H, I, nk, na, gk, ga, .nil⟩ ?step ?done)
  case step =>
    rintro j v s' hv ⟨H', kA, e, sm, I', nk', na', gk', ga', hk⟩
    simp only [Nat.zero_add] at hk ⊢
    have hj : j < vs.length := (List.getElem?_eq_some_iff.mp hv).1
    obtain ⟨p, hp⟩ : ∃ p, bs[j]? = some p := ⟨_, List.getElem?_eq_getElem (by omega)⟩
    have rp : RelV p.1 v := hR.zip (v, p) (List.mem_of_getElem? (i := j) (by rw [List.getElem?_zip_eq_some]; exact ⟨hv, hp⟩))
    have lk : kA.size ≤ j := by
      have h1 := hk.length
      rw [Array.length_toList, List.length_take] at h1
      omega
    let two : List (Addr × Obj) := [(kS, seqObj "list" kA e), (a, seqObj "list" #[] e1)]
    have J : Inv X (pins ++ two) σ H' s' := I'.pins_of fun q hq => by
      rcases List.mem_append.mp hq with hq | hq
      · exact I'.pin q (List.mem_append_right _ hq)
      · rcases List.mem_cons.mp hq with rfl | hq
        · exact ⟨gk', nk', ok.nl, ok.nf, fun _ z => nomatch z⟩
        · rw [List.mem_singleton.mp hq]
          exact ⟨ga', na', oa.nl, oa.nf, fun _ z => nomatch z⟩
    refine wpAny_bind (wpAny_attempt (wpAny_mono (turn v p rp (List.mem_of_getElem? hp) _ (fun q hq => List.mem_append_left _ hq) s' H' sm J) (fun u s2 he => ?_) fun _ _ z => z.elim))
    obtain ⟨w, H2, J2, rw_, dw, sm2⟩ := he
    have pk := J2.pin (kS, seqObj "list" kA e) (List.mem_append_right _ (List.mem_append_right _ List.mem_cons_self))
    have pa := J2.pin (a, seqObj "list" #[] e1) (List.mem_append_right _ (List.mem_append_right _ (List.mem_cons_of_mem _ List.mem_cons_self)))
    have I2 : Inv X pins σ H2 s2 := J2.pins_of fun q hq => J2.pin q (List.mem_append_right _ (List.mem_append_left _ hq))
    have only := Heap.SameBut.update s2.heap kS (Obj.mapSeq (·.push u))
    obtain ⟨c2, hc2⟩ : ∃ c2, (s2.heap.update kS (Obj.mapSeq (·.push u))).get? kS = some (seqObj "list" (kA.push u) c2) := ⟨_, get?_update_seq pk.1 (·.push u)⟩
    refine wpAny_bind (listUpdate_at pk.1 rfl ?_ (by omega) (by rw [Array.size_push]; omega))
    refine wpAny_pure ⟨rfl, H2, kA.push u, c2, fun b o q => sm2 _ _ (sm b o q), I2.turned (it := kS) (fun b o n q => (only.2 b n).trans q) pk.2.1 ok.nl (.inr ok.ge) ok.nc ok.np, pk.2.1, pa.2.1, hc2, (only.2 a hka.symm).trans pa.1, ?_⟩
    rw [Array.toList_push, List.take_add_one, hp]
    exact PySem.W.each_snoc ⟨w, rw_, dw⟩ (hk.mono fun v q x => by obtain ⟨w1, r1, d1⟩ := x; exact ⟨w1, r1, d1.st sm2⟩)
  case done =>
    rintro s' ⟨H', kA, e, sm, I', nk', na', gk', ga', hk⟩
    rw [Nat.zero_add, lvs, List.take_length] at hk
    have rd : PySem.W.EachIs (fun v d => ∃ as, Reads s'.heap v d as) kA.toList (bs.map (eK enc)) := by
      clear gk' hR turn h hu hZ lvs
      generalize kA.toList = ks at hk
      induction hk with
      | nil => exact .nil
      | @cons v p _ _ r _ ih =>
        obtain ⟨w1, r1, d1⟩ := r
        exact .cons (Dp.reads I' (enc p.2) w1 v d1 r1) ih
    have hal : PySem.W.AllAlike (bs.map (eK enc)) := fun d hd d' hd' => by
      obtain ⟨p, _, rfl⟩ := List.mem_map.mp hd
      obtain ⟨p', _, rfl⟩ := List.mem_map.mp hd'
      exact OD.alike _ _
    have hsk : PySem.W.Sortable (bs.map (eK enc)) := .inl fun d hd => by
      obtain ⟨p, _, rfl⟩ := List.mem_map.mp hd
      exact OD.ne p.2
    have hsz : kA.size = vs.length := by
      have h1 := hk.length
      rw [Array.length_toList] at h1
      omega
    refine wpAny_bind (listItems_at gk' rfl ?_)
    refine PySem.W.keyH_end (b := false) (κ := PySem.W.dataKind s'.heap (bs.map (eK enc))) (h₁ := lessH s'.heap kS) (fun b o _ q => by
      by_cases hb : b = kS
      · rw [hb, lessH_at] at q
        cases q
      · rw [lessH_ne hb] at q
        exact q) (lessH_at _ _) gk' ga' hka (PySem.W.SortsAt.data (s := s') rd hal hsk fun d hd => ?_) hsz (by omega) fun h3 tk3 c k3 n3 => ?_
    · obtain ⟨p, hp, rfl⟩ := List.mem_map.mp hd
      exact hu p hp
    have ko : PySem.W.KeyedOut false (bs.map (eK enc)) vs (PySem.W.sortVals (PySem.W.dataKind s'.heap (bs.map (eK enc))) false kA.toList vs) := ⟨s'.heap, kA.toList, hal, rfl, rd⟩
    have hout := PySem.W.keyedOut_each (eK enc) ko hR
    generalize PySem.W.sortVals (PySem.W.dataKind s'.heap (bs.map (eK enc))) false kA.toList vs = out at n3 hout
    refine h H' _ sm na' (inv_list I' ok oa nk' na' hka (fun b o n1 n2 q => k3 b o n2 (by rw [lessH_ne n1]; exact q)) ⟨?_, out, c, ?_, n3⟩)
    · rw [List.length_map]
      unfold byD
      rw [List.length_mergeSort]
      exact hZ
    · clear n3 ko
      unfold byD
      generalize bs.mergeSort (PySem.W.dataLe false (eK enc)) = zs at hout ⊢
      induction hout with
      | nil => exact .nil
      | cons r _ ih => exact .cons r ih
end
section
variable {X : Cx} {pins : List (Addr × Obj)} {σ : L2.St} {H : Hp} {s : Shared}
/-- sorted(l, key=f), l a list or a tuple, f giving data -/
theorem sorted_keyT (OD : OrdD enc) {A : Around} {l f : Addr} {T : String} {o : Obj} {items : Array Value} {n : Nat} {bs : List (V × κ)} {Q : Value → Shared → Prop} {E : Value → Shared → Prop} (I : Inv X pins σ H s) (hT : T = "list" ∨ T = "tuple")
    (ho : s.heap.get? l = some o) (hc : o.cls = .type T) (hd : o.data = .seq items n) (hR : PySem.W.EachIs (fun v (p : V × κ) => RelV p.1 v) items.toList bs) (hZ : bs.length ≤ sizeLine) (hu : A.units + 64 < cLine)
    (turn : ∀ (v : Value) (p : V × κ), RelV p.1 v → p ∈ bs → ∀ (ps : List (Addr × Obj)), (∀ q ∈ pins, q ∈ ps) → ∀ (s' : Shared) (H' : Hp), Same H H' → Inv X ps σ H' s' → wpAny (model X.prog X.w) A.in1.in1 (call (.ref f) [v]) (EP X ps σ fun w H2 => Dp X.K H2 w (enc p.2) ∧ Same H' H2) (fun _ _ => False) s')
    (h : ∀ (x : Addr) (H' : Hp) (s' : Shared), Same H H' → H' x = none → Inv X pins σ (upd H' x (.lst ((byD enc bs).map (·.1)))) s' → Q (.ref x) s') :
    wpAny (model X.prog X.w) A (call (.builtin "sorted") [.ref l] [(Str.ofString "key", .ref f)]) Q E s := by
  have lb := hR.length
  rw [Array.length_toList] at lb
  refine call_function_entry_kw kind_sorted plain_sorted entry_sorted (ksk_s1 _ _) ?_
  unfold Builtin.«sorted»
  refine wpAny_bind (m := checkCount "sorted" 1 1 _) (wpAny_pure ?_)
  refine wpAny_bind (wpAny_collect_seq l hT ho hc hd (fun h1 k1 => ?_) (by omega))
  refine wpAny_bind (wpAny_newList ?_ (by rw [Array.length_toList]; omega))
  have I1 : Inv X pins σ H { s with heap := h1, toks := s.toks } := I.kept k1
  have oa : Off X pins h1.objs.size := Off.fresh I1 (Nat.le_refl _)
  have na : H h1.objs.size = none := I1.hok.fresh (Nat.le_refl _)
  have g0 : (h1.push (seqObj "list" items.toList.toArray 0)).get? h1.objs.size = some (seqObj "list" items.toList.toArray 0) := Heap.get?_push_size _ rfl
  refine wpAny_bind (wpAny_holding (wpAny_call_entry_kw slot_list_sort ⟨_, g0, rfl⟩ entry_list_sort ?body (ksk_l1 _ _)))
  show wpAny (model X.prog X.w) A.in1.in1 (Builtin.«list.sort» ⟨[.ref h1.objs.size], [(Str.ofString "key", .ref f)]⟩) _ _ _
  rw [ksk_t1]
  unfold ksk_tree
  have hz : items.toList.toArray.size ≤ sizeLine := by
    rw [List.size_toArray, Array.length_toList]
    omega
  refine wpAny_bind (listItems_at g0 rfl ?_)
  refine wpAny_bind (listUpdate_at g0 rfl ?_ hz (Nat.zero_le _))
  obtain ⟨e1, g1⟩ : ∃ e1, ((h1.push (seqObj "list" items.toList.toArray 0)).update h1.objs.size (Obj.mapSeq fun _ => (#[] : Array Value))).get? h1.objs.size = some (seqObj "list" #[] e1) := ⟨_, get?_update_seq g0 fun _ => #[]⟩
  have keep1 : ∀ b o, h1.get? b = some o → ((h1.push (seqObj "list" items.toList.toArray 0)).update h1.objs.size (Obj.mapSeq fun _ => (#[] : Array Value))).get? b = some o := fun b o q =>
    ((Heap.SameBut.update _ _ _).2 b (Nat.ne_of_lt (Heap.lt_size q))).trans (Heap.get?_push_of_some _ q)
  generalize (h1.push (seqObj "list" items.toList.toArray 0)).update h1.objs.size (Obj.mapSeq fun _ => (#[] : Array Value)) = h2 at g1 keep1
  refine wpAny_bind (seqEpoch_at g1 rfl ?_)
  refine wpAny_bind (wpAny_newTuple ?_ (by simp only [List.toList_toArray, Array.length_toList]; omega))
  refine wpAny_bind (wpAny_newList ?_ (Nat.zero_le _))
  refine wpAny_holding ?_
  have g2 := Heap.get?_push_of_some (seqObj "tuple" items.toList.toArray.toList.toArray 0) g1
  have keep2 : ∀ b o, h1.get? b = some o → (h2.push (seqObj "tuple" items.toList.toArray.toList.toArray 0)).get? b = some o := fun b o q => Heap.get?_push_of_some _ (keep1 _ _ q)
  generalize h2.push (seqObj "tuple" items.toList.toArray.toList.toArray 0) = h3 at g2 keep2
  have I3 : Inv X pins σ H { s with heap := h3, toks := s.toks } := I1.kept keep2
  have ok : Off X pins h3.objs.size := Off.fresh I3 (Nat.le_refl _)
  have nk : H h3.objs.size = none := I3.hok.fresh (Nat.le_refl _)
  have hka : h3.objs.size ≠ h1.objs.size := Nat.ne_of_gt (Heap.lt_size g2)
  have I4 : Inv X pins σ H { s with heap := h3.push (seqObj "list" #[] 0), toks := s.toks } := I3.kept fun b o q => Heap.get?_push_of_some _ q
  refine sort_restT OD (bs := bs) I4 ok oa nk na hka (Heap.get?_push_size _ rfl) (Heap.get?_push_of_some _ g2) hR hZ (fun p hp => ?_) turn fun H' s' sm na' J => ?_
  · show A.units + 1 + 1 + _ < cLine
    have := OD.depth p.2
    show A.units + 1 + 1 + (enc p.2).depth < cLine
    omega
  · exact ⟨_, rfl, wpAny_pure ⟨_, rfl, h _ H' s' sm na' J⟩⟩
end
theorem each_valsT : ∀ {bs : List (V × κ)} {its : List Value}, Vals (bs.map (·.1)) its → PySem.W.EachIs (fun v (p : V × κ) => RelV p.1 v) its bs
  | [], _, .nil => .nil
  | _ :: _, _, .cons r t => .cons r (each_valsT t)
def tSortKT (enc : κ → PyData) (Tb : List (Addr × Str)) (K : PySem.W.Frag) (te tk : TE) : TE := fun σ H Q => te σ H fun x H1 => Tabs Tb H1 ∧ ∀ H2, ExtN H1 H2 → Tabs Tb H2 → ∃ (l : Addr) (bs : List (V × κ)), x = .ref l ∧ (SqL K H2 l (bs.map (·.1)) ∨ SqT K H2 l (bs.map (·.1))) ∧ bs.length ≤ sizeLine ∧
  (∀ p ∈ bs, ∀ H3, Same H2 H3 → tk [some p.1] H3 fun w H4 => Dp K H4 w (enc p.2) ∧ Same H3 H4) ∧ ∀ y H3, Same H2 H3 → H3 y = none → Q (.ref y) (upd H3 y (.lst ((byD enc bs).map (·.1))))
section
variable {X : Cx}
theorem pe_sortKT (OD : OrdD enc) {Tb : List (Addr × Str)} {c P : Addr} {k : Nat} {e : Expr} {te tk : TE} {y : Str} {params : Arguments} {body : Expr} {scope : Scope} {p lpos kpos pos : Pos} (hg : Gl X "sorted") (hm : X.mg "sorted" = none) (he : PE X e te) (hr : Room (k + 3) X.A)
    (TB : TabB X.base X.mg c P) (hcode : X.env.code = .ref c) (hmT : (P, X.env.qual ++ "<lambda>") ∈ Tb) (hu : ∀ p ∈ Tb, p.1 = P → p.2 = X.env.qual ++ "<lambda>") (S : FnScope [y] [y] scope) (hdef : defaultsOf params X.env = ([], []))
    (hclo : ∀ cells : List (Str × Addr), cloFrom cells scope.names [] = [])
    (hbind : ∀ (q : Str) (cl : List (Str × Addr)) (pm cv ctv u : Value), bindArgs (PySem.W.kla_fn "<lambda>" q params body scope cl pm cv ctv) ⟨[u], []⟩ = pure [(y, u)])
    (hbody : ∀ (A : Around) (outer : List Env) (s : Shared) (H : Hp) (f c' : Addr), Room k (A.deeper (envOfC (X.env.qual ++ "<lambda>") scope s.heap.objs.size f (.ref c'))) → PE (cxOf CX0 X.prog X.w X.K X.mg X.base [y] (X.env.qual ++ "<lambda>") scope f (.ref c') A outer s H E0) body tk)
    (hst : starEach [e] X.env = (false, eval e X.env) :: starEach [] X.env := by rfl) (hs : backTo pos (starEach [e] X.env) = (false, eval e X.env) :: backTo pos (starEach [] X.env) := by rfl) (hpl : (backTo pos (starEach [e] X.env)).any (·.1) = false := by rfl) :
    PE X (.Call (.Name "sorted" p) [e] [⟨some "key", .Lambda params body scope lpos, kpos⟩] pos) (tSortKT enc Tb X.K te tk) := by
  refine ⟨fun pins s σ H Q I h => ?_⟩
  refine wpAny_Call_Name_kw (ld_blt (u := .builtin "sorted") I hg hm (by decide +kernel) ?_)
  let R : V → Hp → Prop := fun x H1 => Tabs Tb H1 ∧ ∀ H2, ExtN H1 H2 → Tabs Tb H2 → ∃ (l : Addr) (bs : List (V × κ)), x = .ref l ∧ (SqL X.K H2 l (bs.map (·.1)) ∨ SqT X.K H2 l (bs.map (·.1))) ∧ bs.length ≤ sizeLine ∧
    (∀ p ∈ bs, ∀ H3, Same H2 H3 → tk [some p.1] H3 fun w H4 => Dp X.K H4 w (enc p.2) ∧ Same H3 H4) ∧ ∀ y H3, Same H2 H3 → H3 y = none → Q (.ref y) (upd H3 y (.lst ((byD enc bs).map (·.1))))
  refine PyProof.Rows.callWith_kw (thn ((pa_cons he pa_nil hst).run pos pins s σ H (fun vs H1 => match vs with | [x] => R x H1 | _ => False) I h) fun us s1 ⟨vs, H1, I1, r1, q1⟩ => ?_) hs hpl rfl rfl
  obtain ⟨x, rfl⟩ : ∃ x, vs = [x] := by
    match vs, q1 with
    | [x], _ => exact ⟨x, rfl⟩
  obtain ⟨u, rfl, ru⟩ := vals1 r1
  obtain ⟨hT, h2⟩ : R x H1 := q1
  show wpAny _ _ (evalAll ((do let v ← eval (.Lambda params body scope lpos) X.env; standAt pos; pure v) :: [])) _ _ s1
  have nofree : ∀ y ∈ scope.names, y.2 = .free → ∃ c, X.env.cells.lookup y.1 = some c := fun y hy e => absurd e (S.nofree y hy)
  refine wpAny_evalAll_cons (wpAny_bind (lam_make2 I1 TB hcode hmT hu hT hdef nofree fun f c' pm ctv H2 s2 I2 eN T2 hf hfn hfr hco => wpAny_bind (wpAny_standAt (wpAny_pure ?_))))
  rw [hclo] at hf
  refine wpAny_evalAll_nil ?_
  obtain ⟨l, bs, rfl, hsq, hZ, hkey, hq⟩ := h2 H2 eN T2
  obtain rfl : u = Value.ref l := ru
  have nl : f ≠ X.env.locals := fun z => by
    obtain ⟨m, ⟨ob, es, ep, ho, hd, _⟩, _⟩ := I2.loc
    rw [← z, hf] at ho
    cases ho
    cases hd
  have nfs : f ∉ X.fs := fun hb => by
    rcases I2.ok.stk with e | ⟨e, hfm⟩
    · exact hfr (by rw [e]; exact hb)
    · refine hfr ?_
      rw [e]
      unfold frs
      rw [List.filterMap_cons, hfm]
      exact List.mem_cons_of_mem _ hb
  have I3 : Inv X (pins ++ [(f, PySem.W.kla_obj "<lambda>" (X.env.qual ++ "<lambda>") params body scope [] pm c' ctv)]) σ H2 s2 := I2.pins_of fun q hq => by
    rcases List.mem_append.mp hq with hq | hq
    · exact I2.pin q (List.mem_append_right _ hq)
    · rw [List.mem_singleton.mp hq]
      exact ⟨hf, hfn, nl, nfs, fun _ z => nomatch z⟩
  have fin : ∀ (T : String) (o : Obj) (items : List Value) (n : Nat), T = "list" ∨ T = "tuple" → s2.heap.get? l = some o → o.cls = .type T → o.data = .seq items.toArray n → Vals (bs.map (·.1)) items →
      wpAny (model X.prog X.w) X.A (call (.builtin "sorted") [.ref l] [(Str.ofString "key", .ref f)]) (EP X pins σ Q) X.xe s2 := fun T o items n hT ho hc hd rv => by
    refine sorted_keyT OD (bs := bs) I3 hT ho hc hd (each_valsT rv) hZ hr.units (fun v p rp hp ps hps s' H' sm J => ?_) (fun y H' s' sm ny J => ?_)
    · have pf := J.pin (f, PySem.W.kla_obj "<lambda>" (X.env.qual ++ "<lambda>") params body scope [] pm c' ctv) (List.mem_append_right _ (hps _ (List.mem_append_right _ List.mem_cons_self)))
      exact run_lam1 J hr.in1.in1 rfl pf.1 (sm _ _ hco) (hbind _ _ _ _ _ _) S rp (fun A outer s H hr2 => hbody A outer s H f c' hr2) (hkey p hp H' sm)
    · exact ⟨.ref y, _, J.pins_of fun q hq => J.pin q (List.mem_append_right _ (List.mem_append_left _ hq)), rfl, hq y H' sm ny⟩
  rcases hsq with hsq | hsq
  · obtain ⟨its, rv, ⟨ob, n, ho, hc, _, hd⟩, _⟩ := I2.list hsq
    exact fin "list" _ its n (.inl rfl) ho hc hd rv
  · obtain ⟨its, rv, ⟨ob, ho, hc, n, hd⟩, _⟩ := I2.tuple hsq
    exact fin "tuple" _ its n (.inr rfl) ho hc hd rv
end
end Gx
set_option maxRecDepth 100000
set_option maxHeartbeats 4000000
namespace Gx
open PySem PySem.Spec PyProof.Rows L2
section
variable {X : Cx} {pins : List (Addr × Obj)} {σ : L2.St} {H : Hp} {s : Shared} {d b : Addr} {L : NL} {k : NestedKey} {A : Around} {E : Value → Shared → Prop}
theorem n_get1 {Q : Value → Shared → Prop} (hu : A.units + 64 < cLine) (I : Inv X pins σ H s) (e : NDict X.prog X.w X.K H d L) (hb : KeyA X.K H b k) (h : ∀ w' s', Inv X pins σ H s' → RelV ((getN L k).getD .non) w' → Q w' s') :
    wpAny (model X.prog X.w) A (call (.builtin "dict.get") [.ref d, .ref b]) Q E s := by
  obtain ⟨_, hd, xs, rel, dd⟩ := dn_rd I e
  exact call_meetsIn PySem.F.slot_dict_get dd.typeIs PySem.F.entry_dict_get (PySem.F.args_dict_get_2 _ _) (meetsH_dict_get (nestedKind X.prog X.w) d b hd) ⟨roomN (X := X) hu, k, xs, nkey_of I hb, dd, h _ _ (I.tok _) ((rel.val k).getD (show RelV .non Value.none from rfl))⟩
end
def tNGet1 (P : Program) (w : World) (K : PySem.W.Frag) (td ty : TE) : TE := fun σ H Q => td σ H fun x H1 => ∃ a L0, x = .ref a ∧ Rd H1 a (DN P w a L0) ∧ ty σ H1 fun y H2 => ∃ b L k, y = .ref b ∧ NDict P w K H2 a L ∧ KeyA K H2 b k ∧ Q ((getN L k).getD .non) H2
section
variable {X : Cx} {P : Program} {w : World} {K : PySem.W.Frag} {o e : Expr} {td ty : TE} {apos cpos : Pos}
theorem pe_nget1 (hx : XI X P w K) (hu : X.A.units + 64 < cLine) (ho : PE X o td) (he : PE X e ty) (m : M1 X o "get" apos e cpos) : PE X (.Call (.Attribute o "get" apos) [e] [] cpos) (tNGet1 P w K td ty) := by
  obtain ⟨rfl, rfl, rfl⟩ := hx
  refine ⟨fun pins s σ H Q I h => ?_⟩
  refine wpAny_Call_method m.base m.few m.line PySem.F.plainAttrs_dict PySem.F.slot_dict_get PySem.F.type_dict_get (thn (ho.run pins s σ H _ I h) fun u s1 ⟨x, H1, I1, rx, a, L0, ex, d, q1⟩ => ?_)
  subst ex
  obtain rfl : u = Value.ref a := rx
  obtain ⟨t1, t2⟩ := n_type I1 d
  refine ⟨t1, t2, ?_⟩
  rw [m.trees]
  refine Calls.callWith_builtin rfl (Calls.evalArgs_plain (Calls.spliced_cons (thn (he.run pins s1 σ H1 _ I1 q1) fun iv s2 ⟨y, H2, I2, ry, b, L, k, ey, g, hb, q2⟩ => Calls.spliced_nil ?_)))
  subst ey
  obtain rfl : iv = Value.ref b := ry
  exact n_get1 hu I2 g hb fun w' s3 I3 rw' => ⟨_, H2, I3, rw', q2⟩
end
end Gx
set_option maxRecDepth 100000
set_option maxHeartbeats 4000000
namespace Kl
open PySem PySem.Spec PyProof.Rows L2 Gx Mx
theorem isi_K {X : Cx} {K : PySem.W.Frag} (hk : X.K = K) : CallR X (.builtin "isinstance") (rIsi K) := by
  subst hk
  exact call_isi
abbrev placeP (g : Pg) : KW := (g.note, g.pool)
theorem sqT_same {K : PySem.W.Frag} {H H' : Hp} {a : Addr} {xs : List V} (s : Same H H') (h : SqT K H a xs) : SqT K H' a xs := sqT_st s h
theorem keyA_same {K : PySem.W.Frag} {H H' : Hp} {a : Addr} {q : NestedKey} (s : Same H H') (h : KeyA K H a q) : KeyA K H' a q := h.mono fun _ _ z => sqT_same s z
/-- these pages stand there -/
abbrev PgsAt (K : PySem.W.Frag) (C : Addr) (H : Hp) (xs : List Addr) (gs : List Pg) : Prop := Paired (fun x g => PageAt K C H x g) xs gs
theorem PgsAt.same {K : PySem.W.Frag} {C : Addr} {H H' : Hp} (s : Same H H') : ∀ {xs : List Addr} {gs : List Pg}, PgsAt K C H xs gs → PgsAt K C H' xs gs
  | _, _, .nil => .nil
  | _, _, .cons h t => .cons (h.same s) (PgsAt.same s t)
theorem PgsAt.at_ {K : PySem.W.Frag} {C : Addr} {H : Hp} : ∀ {xs : List Addr} {gs : List Pg}, PgsAt K C H xs gs → ∀ {j : Nat} {v : V}, (xs.map V.ref)[j]? = some v → ∃ x g, v = .ref x ∧ xs[j]? = some x ∧ gs[j]? = some g ∧ PageAt K C H x g
  | _, _, .nil, j, v, h => by cases h
  | _, _, .cons (a := a) (b := b) h t, 0, v, e => by cases e; exact ⟨a, b, rfl, rfl, rfl, h⟩
  | _, _, .cons h t, j + 1, v, e => PgsAt.at_ t e
theorem PgsAt.len {K : PySem.W.Frag} {C : Addr} {H : Hp} {xs : List Addr} {gs : List Pg} (h : PgsAt K C H xs gs) : xs.length = gs.length := Paired.length h
theorem keyK_mk {K : PySem.W.Frag} {H : Hp} {t pp : Addr} {n : Str} {q : List Str} (h1 : SqT K H t [.str n, .ref pp]) (h2 : SqT K H pp (q.map V.str)) : KeyA K H t (keyK (n, q)) := keyK_at.mpr ⟨pp, h1, h2⟩
section
variable {P : Program} {w : World} {K : PySem.W.Frag} {mg : Str → Option Value} {base : Heap}
def spApg (K : PySem.W.Frag) (C : Addr) : Sp := fun vs H Q _ => ∃ (p : Addr) (xs : List Addr) (gs : List Pg), vs = [.ref p] ∧ SqT K H p (xs.map V.ref) ∧ PgsAt K C H xs gs ∧ (gs.map placeP).Nodup ∧ gs.length < 64 ∧ ∀ H', Same H H' → Q (.bl true) H'
theorem ok_apg {C f : Addr} {fd : FuncData} (F : Fun K "_are_pages" "_are_pages" s_are_pages f fd) (T : Top K mg) (TC : Cl_Page K mg C) : FnOk P w K mg base CX0 3 f fd ["value"] (spApg K C) := by
  obtain ⟨tm, gm⟩ := T.g__MAX_PAGES
  have kPl : CalP P w K mg base C "place" 1 (spPPlace K C) := TC.p_place.cal fun f fd F => ok_pplace F TC
  refine F.ok sc_are_pages (fun vs H Q E h => ?_) (fun cdv A outer s H vs Q E hr h => ?_)
  · obtain ⟨p, xs, gs, rfl, _⟩ := h
    rfl
  · obtain ⟨p, xs, gs, rfl, hp, hP, nd, few, q⟩ := h
    refine ⟨_, pss_cut (ps_if (PW.pt (pw_or (pt_not (pt_val (pe_callB call_isi (by rfl) T.b_isinstance (by decide +kernel) (pa_cons (pv 0) (pa_cons (pe_bltn (v := .ty "tuple") (by rfl) T.b_tuple (by decide +kernel) rfl) pa_nil)))))
          (pw_or1 (pt_cmpR op_gt (pe_callB call_len_seq (by rfl) T.b_len PySem.boot_len (pa_cons (pv 0) pa_nil)) (pe_glob (v := .int 80) (by rfl) gm ⟨_, rfl⟩) (nomark _))))) (pss_one (ps_ret pe_bl)) pss_nil)
      (pss_cut (ps_if (pt_not (pt_val (pe_callB (cr_all rfl) (by rfl) T.b_all (by decide +kernel) (pa_cons (pe_lc (own := [("page", 1)]) (g := gName 1) (tt := tYes) rfl sc_are_pages.nd (pi_tup (pv 0))
            (blkOk_by (N := ["value", "page"]) (sc := defScope s_are_pages) (by decide +kernel)) (fun _ _ _ _ _ => pg_name (i := 1) sc_are_pages.nd rfl (.inl rfl)) (fun _ _ _ _ _ => pts_nil)
            (fun _ _ _ _ _ => pe_callB (id := "isinstance") (isi_K (K := K) (by exact rfl)) (by rfl) T.b_isinstance (by decide +kernel) (pa_cons (pv 1) (pa_cons (pe_glob (v := .ref C) (by rfl) TC.gC rfl) pa_nil)))) pa_nil)))) (pss_one (ps_ret pe_bl)) pss_nil)
      (pss_one (ps_ret (pe_cmpR op_eq (pe_callB cr_lenSN (by rfl) T.b_len PySem.boot_len (pa_cons (pe_scN (own := [("page", 1)]) (g := gName 1) (tt := tYes) rfl (hr.units) sc_are_pages.nd (pi_tup (pv 0))
            (blkOk_by (N := ["value", "page"]) (sc := defScope s_are_pages) (by decide +kernel)) (fun _ _ _ _ _ => pg_name (i := 1) sc_are_pages.nd rfl (.inl rfl)) (fun _ _ _ _ _ => pts_nil)
            (fun _ _ _ _ _ => pe_propC (pv 1) TC.cl kPl (hr.mono (by decide)) rfl)) pa_nil)) (pe_callB call_len_seq (by rfl) T.b_len PySem.boot_len (pa_cons (pv 0) pa_nil)) (nomark _))))), ?_⟩
    have big : 100000 ≤ sizeLine := by decide
    have lx := hP.len
    refine ⟨fun σ' G => σ' = [some (.ref p), none] ∧ G = H, ?_, ?_⟩
    · refine ⟨_, rfl, _, .ty "tuple", .type "tuple", .type "tuple", true, rfl, .ty _, tyx_sqT hp, kit_ty (by decide +kernel), true, rfl, ?_⟩
      show (if (!true) = true then _ else _)
      rw [if_neg (by decide)]
      refine ⟨_, rfl, p, _, rfl, .inr hp, _, _, rfl, rfl, _, rfl, ite2 (fun c => ?_) (fun _ => ⟨rfl, rfl⟩)⟩
      have c := of_decide_eq_true c
      rw [List.length_map] at c
      omega
    rintro σ' G ⟨rfl, rfl⟩
    refine ⟨fun σ' G' => σ' = [some (.ref p), none] ∧ Same G G', ?_, ?_⟩
    · refine ⟨_, rfl, p, rfl, ⟨_, hp⟩, fun D hD => ?_⟩
      refine lc_it (walk_tup (K := K) (a := p) (xs := xs.map V.ref)) (fun j G' => G' D = some (.lst (List.replicate j (V.bl true))) ∧ Same G G') ⟨upd_same, same_new (Same.refl _) hD⟩ (fun j G' _ h => sqT_same h.2 hp) (fun j v Gx G' hj h hy => ?_) (fun G' h => ?_)
      · obtain ⟨eD, sm⟩ := h
        obtain ⟨rfl, hv⟩ := hy
        obtain ⟨x, g, rfl, _, _, hg⟩ := hP.at_ hv
        obtain ⟨dx, pp, mp, hx, _⟩ := hg
        refine ⟨rfl, _, rfl, _, _, .ref C, .ref C, true, rfl, .own C, .base (.ins (sm _ _ hx) TC.cl TC.ca TC.cg TC.ct TC.ob), TC.kit, _, eD, ?_, ?_, fun b u e => by rw [upd_ne (ne_of_none e hD)]; exact sm _ _ e⟩
        · rw [List.length_replicate]
          rw [List.length_map] at hj
          omega
        · rw [upd_same, rep_snoc]
      · obtain ⟨eD, sm⟩ := h
        refine ⟨D, List.replicate xs.length true, rfl, .inl (.inl ?_), _, rfl, ?_⟩
        · rw [List.length_map, rep_map] at eD
          exact eD
        · rw [all_true]
          show (if (!true) = true then _ else _)
          rw [if_neg (by decide)]
          exact ⟨rfl, sm⟩
    rintro σ' G1 ⟨rfl, s1⟩
    have hp1 := sqT_same s1 hp
    have hP1 := hP.same s1
    refine ⟨_, rfl, p, rfl, ⟨_, hp1⟩, fun D hD => ?_⟩
    refine scn_it (g := gName 1) (tt := tYes) (vs := [1]) (walk_tup (K := K) (a := p) (xs := xs.map V.ref)) (fun j G' => ∃ L : NMs, G' D = some (SetNO w D L) ∧ (L.map (·.2)).Perm ((gs.take j).map fun g => keyK (placeP g)) ∧ (∀ e ∈ L, KeyA K G' e.1 e.2) ∧ Same G1 G')
      ⟨[], upd_same, .nil, nofun, same_new (Same.refl _) hD⟩ (fun j G' _ h => by obtain ⟨_, _, _, _, s⟩ := h; exact sqT_same s hp1) (fun j v Gx G' hj h hy => ?_) (fun G' h => ?_)
    · obtain ⟨L, eD, pL, kL, sm⟩ := h
      obtain ⟨rfl, hv⟩ := hy
      obtain ⟨x, g, rfl, _, hg, hG⟩ := hP1.at_ hv
      obtain ⟨dx, pp, mp, hx, hpp, hmp⟩ := id (hG.same sm)
      have lL : L.length = j := by
        have := pL.length_eq
        rw [List.length_map, List.length_map, List.length_take] at this
        have := (List.getElem?_eq_some_iff.mp hg).1
        omega
      have lj : j < gs.length := (List.getElem?_eq_some_iff.mp hg).1
      refine ⟨rfl, _, rfl, x, dx, _, rfl, hx, x, g, rfl, hG.same sm, fun t pp' H2 s2 ht hpp2 => ?_⟩
      refine ⟨t, keyK (placeP g), L, rfl, keyK_mk ht hpp2, s2 _ _ eD, fun e m => keyA_same s2 (kL e m), by omega, fun m => ?_, fun L' pL' => ?_⟩
      · have m1 := pL.mem_iff.mp m
        obtain ⟨g', mg', e⟩ := List.mem_map.mp m1
        have e := keyK_inj e
        obtain ⟨i, hi⟩ := List.mem_iff_getElem?.mp mg'
        rw [List.getElem?_take] at hi
        by_cases ci : i < j
        · rw [if_pos ci] at hi
          have a1 : (gs.map placeP)[i]? = some (placeP g) := by rw [List.getElem?_map, hi]; exact congrArg some e
          have a2 : (gs.map placeP)[j]? = some (placeP g) := by rw [List.getElem?_map, hg]; rfl
          have := (List.getElem?_inj (List.getElem?_eq_some_iff.mp a1).1 nd).mp (a1.trans a2.symm)
          omega
        · rw [if_neg ci] at hi
          cases hi
      · have s3 : Same G1 (upd H2 D (SetNO w D L')) := fun b u e => by rw [upd_ne (ne_of_none e hD)]; exact s2 _ _ (sm _ _ e)
        have kk : ∀ e ∈ L', KeyA K (upd H2 D (SetNO w D L')) e.1 e.2 := fun e m => by
          have nw : ∀ a ys, SqT K H2 a ys → SqT K (upd H2 D (SetNO w D L')) a ys := fun a ys h => by
            rcases h with (h | ⟨o, h⟩) | h
            · exact .inl (.inl (by rw [upd_ne (fun z => by rw [z, s2 _ _ eD] at h; cases h)]; exact h))
            · exact .inl (.inr ⟨o, by rw [upd_ne (fun z => by rw [z, s2 _ _ eD] at h; cases h)]; exact h⟩)
            · exact .inr h
          rcases List.mem_cons.mp (pL'.mem_iff.mp m) with rfl | m
          · exact (keyK_mk ht hpp2).mono nw
          · exact (keyA_same s2 (kL e m)).mono nw
        refine ⟨L', upd_same, ?_, kk, s3⟩
        have e1 := pL'.map (·.2)
        rw [List.take_add_one, hg, List.map_append]
        refine e1.trans ?_
        show (keyK (placeP g) :: L.map (·.2)).Perm ((gs.take j).map (fun g => keyK (placeP g)) ++ [keyK (placeP g)])
        exact (List.Perm.cons _ pL).trans (List.perm_append_singleton _ _).symm
    · obtain ⟨L, eD, pL, kL, sm⟩ := h
      have lL : L.length = gs.length := by
        have := pL.length_eq
        rw [List.length_map, List.length_map, List.length_map, lx, List.take_length] at this
        exact this
      refine ⟨D, L, rfl, eD, _, rfl, p, _, rfl, .inr (sqT_same sm hp1), rfl, ?_⟩
      have e : decide (V.int (L.length : Nat) = V.int ((xs.map V.ref).length : Nat)) = true := by
        rw [List.length_map, lx, lL]
        exact decide_eq_true rfl
      show Q (.bl (decide (V.int (L.length : Nat) = V.int ((xs.map V.ref).length : Nat)))) _
      rw [e]
      exact q _ (s1.trans sm)
end
end Kl
set_option maxRecDepth 100000
set_option maxHeartbeats 4000000
namespace Gx
open PySem PySem.Spec PyProof.Rows L2
/-- all but the object at d and the tables stay -/
def ExtX (d : Addr) (H H' : Hp) : Prop := ∀ b o, b ≠ d → H b = some o → (∀ ps, o ≠ .tbl ps) → H' b = some o
theorem ExtX.refl (d : Addr) (H : Hp) : ExtX d H H := fun _ _ _ e _ => e
theorem ExtX.trans {d : Addr} {H H1 H2 : Hp} (a : ExtX d H H1) (b : ExtX d H1 H2) : ExtX d H H2 := fun c o n e t => b c o n (a c o n e t) t
theorem ExtX.ofN {d : Addr} {H H' : Hp} (s : LamX.ExtN H H') : ExtX d H H' := fun b o _ e t => s b o e t
theorem ExtX.of {d : Addr} {H H' : Hp} (s : Same H H') : ExtX d H H' := fun b o _ e _ => s b o e
end Gx
namespace Kl
open PySem PySem.Spec PyProof.Rows L2 Gx Mx LamX
theorem dice_exN {H H' : Hp} {d : Addr} (s : ExtN H H') (h : DiceAt H d) : DiceAt H' d := by
  obtain ⟨a, b, c, e⟩ := h
  exact ⟨a, b, c, s _ _ e fun _ => nofun⟩
theorem tabs_dice {Tb : List (Addr × Str)} {H H' : Hp} {d : Addr} (t : Tabs Tb H) (hd : DiceAt H d) (s : SameX d H H') : Tabs Tb H' := fun p hp => by
  obtain ⟨ps, h1, h2, h3⟩ := t p hp
  obtain ⟨a, b, c, e⟩ := hd
  refine ⟨ps, s _ _ (fun w => by rw [w, e] at h1; cases h1) h1, h2, fun pos cv hc => ?_⟩
  obtain ⟨c1, e1, e2⟩ := h3 pos cv hc
  exact ⟨c1, e1, s _ _ (fun w => by rw [w, e] at e2; cases (Option.some.inj e2)) e2⟩
theorem ext_ofX {d : Addr} {H H' : Hp} (s : SameX d H H') : ExtX d H H' := fun b o n e _ => s b o n e
/-- p is new since H (as far as what is no table tells) -/
def NewN (H : Hp) (p : Addr) : Prop := ∀ o, H p = some o → ¬ ∀ ps, o ≠ .tbl ps
theorem sqT_exN {K : PySem.W.Frag} {G G' : Hp} {a : Addr} {xs : List V} (s : ExtN G G') (h : SqT K G a xs) : SqT K G' a xs := by
  rcases h with (h | ⟨o, h⟩) | h
  · exact .inl (.inl (s _ _ h fun _ => nofun))
  · exact .inl (.inr ⟨o, s _ _ h fun _ => nofun⟩)
  · exact .inr h
end Kl
set_option maxRecDepth 100000
set_option maxHeartbeats 4000000
namespace Gx
open PySem PySem.Spec PyProof.Rows L2
section
variable {X : Cx}
def rReprE (K : PySem.W.Frag) : List V → Hp → VK → Prop := fun xs H Q => ∃ (x : V) (d : PyData) (S : Str), xs = [x] ∧ Dp K H x d ∧ (d.showable = true ∧ d.hasDict = false ∧ d.depth ≤ 60 ∧ d.shown.length ≤ sizeLine) ∧ d.shown = S ∧ Q (.str S) H
theorem call_reprE (g : Gd X.A) (hu : X.A.units + 64 < cLine) : CallR X (.builtin "repr") (rReprE X.K) := by
  intro pins s σ H xs us Q I r h
  obtain ⟨x, d, S, e, hd, ⟨h1, h2, h3, h4⟩, rfl, q⟩ := h
  exact call_reprD g hu pins s σ H xs us Q I r ⟨x, d, e, hd, h1, h2, h3, h4, q⟩
end
end Gx
set_option maxRecDepth 100000
set_option maxHeartbeats 4000000
namespace Gx
open PySem PySem.Spec PyProof.Rows L2 Mx
section
variable {X : Cx} {C : Addr} {k : Nat} {ps : List Str} {sp : Sp} {E : L2.St → XK}
/-- the class at C has a method m that keeps sp and may raise -/
def CalMY (P : Program) (w : World) (K : PySem.W.Frag) (mg : Str → Option Value) (base : Heap) (C : Addr) (m : Str) (k : Nat) (ps : List Str) (sp : Sp) : Prop :=
  ∃ (f : Addr) (fd : FuncData), FnOk P w K mg base (L2.CX P w) k f fd ps sp ∧ Meth K C m f ∧ Binds K fd ps [] ∧ PySem.W.fnIn K f = true
theorem DefM.calY {P : Program} {w : World} {K : PySem.W.Frag} {mg : Str → Option Value} {base : Heap} {C : Addr} {m qual : Str} {st : Stmt} {k : Nat} {ps : List Str} {sp : Sp} (d : DefM K C m qual st ps)
    (h : ∀ f fd, Fun K m qual st f fd → FnOk P w K mg base (L2.CX P w) k f fd ps sp) : CalMY P w K mg base C m k ps sp := by
  obtain ⟨f, fd, F, me, b, fi⟩ := d
  exact ⟨f, fd, h f fd F, me, b, fi⟩
theorem CalMY.up {P : Program} {w : World} {K : PySem.W.Frag} {mg : Str → Option Value} {base : Heap} {C : Addr} {m : Str} {j k : Nat} {ps : List Str} {sp : Sp} (c : CalMY P w K mg base C m j ps sp) (h : j ≤ k) : CalMY P w K mg base C m k ps sp := by
  obtain ⟨f, fd, F, r⟩ := c
  exact ⟨f, fd, F.mono h, r⟩
/-- o.m(..), which may raise, whatever is under way -/
theorem pe_methXo {m : Str} {o e : Expr} {es : List Expr} {ta : TE} {t : TA} {pos apos : Pos} {pl : Sem Bool} (he : PE X o ta) (cl : Cls X.K C) (c : CalMY X.prog X.w X.K X.mg X.base C m k ps sp) (room : Room k X.A) (hx : ∀ σ, PassesAt (L2.CX X.prog X.w) X σ (E σ)) (ha : PA X (e :: es) t)
    (hst : starEach (e :: es) X.env = (false, eval e X.env) :: starEach es X.env := by rfl) (hpl : (backTo pos (starEach es X.env)).any (·.1) = false := by rfl)
    (ht : eval (.Call (.Attribute o m apos) (e :: es) [] pos) X.env = (do
      let ov ← eval o X.env
      standAt apos.atName
      let (f, first) ← holding [ov] (getMethod ov m pl)
      callWith pos f first (backTo pos (starEach (e :: es) X.env)) (backToKw pos (keywordEach [] X.env))) := by rfl) :
    PE X (.Call (.Attribute o m apos) (e :: es) [] pos) (tMethX C m sp E ta t) := by
  obtain ⟨f, fd, F, hm, b, _⟩ := c
  refine ⟨fun pins s σ H Q I h => ?_⟩
  refine PySem.W.methodCall_KW (pl := pl) (thn (he.run pins s σ H _ I h) fun u s1 ⟨x, H1, I1, rx, a, dx, fs, ex, ea, l, q⟩ => ?_) ht
  subst ex
  obtain rfl : u = Value.ref a := rx
  refine getmeth_ok I1 ea cl hm l ?_
  refine PySem.W.callWith_K (first := [.ref a]) (h₀ := X.base) I.ok.mod.kin hm.kp (thn (ha.run pos pins s1 σ H1 _ I1 q) fun us s2 ⟨vs, H2, I2, r, q2⟩ => ⟨I2.kIn, ?_⟩) hst hpl
  exact runX_below (us := .ref a :: us) (vs := .ref a :: vs) F room rfl b (hx σ) I2 (.cons rfl r) q2
end
end Gx
set_option maxRecDepth 100000
set_option maxHeartbeats 4000000
namespace Gx
open PySem PySem.Spec PyProof.Rows L2 SeqAt Mx
section
variable {X : Cx} {C : Addr} {k : Nat} {ps : List Str} {sp : Sp}
/-- statements that are never reached -/
theorem pss_nv {b : List Stmt} : PSs X b (fun _ _ _ => False) := ⟨fun _ _ _ _ _ _ h => h.elim⟩
end
end Gx
set_option maxRecDepth 100000
set_option maxHeartbeats 4000000
namespace Kl
open PySem PySem.Spec PyProof.Rows L2 Gx Mx
theorem getN_someK (L : Gx.NL) (k : NestedKey) : (getN L k).isSome = decide (k ∈ L.map (·.1)) := by
  unfold getN
  rw [← valV_any]
  unfold prN
  rw [List.any_map, Bool.eq_iff_iff, List.any_eq_true, decide_eq_true_eq, List.mem_map]
  constructor
  · rintro ⟨x, m, e⟩
    exact ⟨x, m, of_decide_eq_true e⟩
  · rintro ⟨x, m, e⟩
    exact ⟨x, m, decide_eq_true e⟩
theorem putN_freshK {L : Gx.NL} {k : NestedKey} (h : k ∉ L.map (·.1)) (a : Addr) (v : V) : putN L k a v = L ++ [(k, a, v)] := by
  unfold putN
  rw [getN_someK, decide_eq_false h, if_neg (by simp)]
theorem getN_ownK : ∀ {L : Gx.NL}, (L.map (·.1)).Nodup → ∀ {e : NestedKey × Addr × V}, e ∈ L → getN L e.1 = some e.2.2
  | [], _, _, m => by cases m
  | x :: L, nd, e, m => by
    rw [List.map_cons] at nd
    obtain ⟨n1, n2⟩ := List.nodup_cons.mp nd
    have ih := getN_ownK n2 (e := e)
    unfold getN prN at ih ⊢
    rw [List.map_cons]
    rcases List.mem_cons.mp m with rfl | m
    · exact valV_pos rfl
    · rw [valV_neg (p := (x.1, x.2.2)) (fun h => n1 (List.mem_map.mpr ⟨e, m, h.symm⟩))]
      exact ih m
/-- the entries of a dict from the places of pages -/
abbrev EntAt (R : Hp → V → Pg → Prop) (K : PySem.W.Frag) (H : Hp) (L : Gx.NL) (gs : List Pg) : Prop := Paired (fun (e : NestedKey × Addr × V) (g : Pg) => e.1 = keyK (placeP g) ∧ KeyA K H e.2.1 e.1 ∧ R H e.2.2 g) L gs
section
variable {R : Hp → V → Pg → Prop} {K : PySem.W.Frag}
theorem EntAt.mono {H H' : Hp} (s : ∀ a xs, SqT K H a xs → SqT K H' a xs) (r : ∀ v g, R H v g → R H' v g) : ∀ {L : Gx.NL} {gs : List Pg}, EntAt R K H L gs → EntAt R K H' L gs
  | _, _, .nil => .nil
  | _, _, .cons h t => .cons ⟨h.1, h.2.1.mono s, r _ _ h.2.2⟩ (EntAt.mono s r t)
theorem EntAt.keys {H : Hp} : ∀ {L : Gx.NL} {gs : List Pg}, EntAt R K H L gs → L.map (·.1) = (gs.map placeP).map keyK
  | _, _, .nil => rfl
  | _, _, .cons h t => by rw [List.map_cons, List.map_cons, List.map_cons, EntAt.keys t, h.1]
theorem EntAt.len {H : Hp} {L : Gx.NL} {gs : List Pg} (h : EntAt R K H L gs) : L.length = gs.length := Paired.length h
theorem EntAt.all {H : Hp} : ∀ {L : Gx.NL} {gs : List Pg}, EntAt R K H L gs → ∀ e ∈ L, KeyA K H e.2.1 e.1
  | _, _, .nil, e, m => by cases m
  | _, _, .cons h t, e, m => by
    rcases List.mem_cons.mp m with rfl | m
    · exact h.2.1
    · exact EntAt.all t e m
theorem EntAt.snoc {H : Hp} {e : NestedKey × Addr × V} {g : Pg} (h : e.1 = keyK (placeP g) ∧ KeyA K H e.2.1 e.1 ∧ R H e.2.2 g) : ∀ {L : Gx.NL} {gs : List Pg}, EntAt R K H L gs → EntAt R K H (L ++ [e]) (gs ++ [g])
  | _, _, .nil => .cons h .nil
  | _, _, .cons h0 t => .cons h0 (EntAt.snoc h t)
theorem EntAt.at_ {H : Hp} : ∀ {L : Gx.NL} {gs : List Pg}, EntAt R K H L gs → ∀ {j : Nat} {e : NestedKey × Addr × V}, L[j]? = some e → ∃ g, gs[j]? = some g ∧ e.1 = keyK (placeP g) ∧ KeyA K H e.2.1 e.1 ∧ R H e.2.2 g
  | _, _, .nil, j, e, h => by cases h
  | _, _, .cons h t, 0, e, q => by cases q; exact ⟨_, rfl, h⟩
  | _, _, .cons h t, j + 1, e, q => EntAt.at_ t q
theorem EntAt.nd {H : Hp} {L : Gx.NL} {gs : List Pg} (h : EntAt R K H L gs) (nd : (gs.map placeP).Nodup) : (L.map (·.1)).Nodup := by
  rw [h.keys]
  exact List.Pairwise.map keyK (fun a b n e => n (keyK_inj e)) nd
theorem EntAt.no {H : Hp} {L : Gx.NL} {gs : List Pg} (h : EntAt R K H L gs) {p : KW} (n : p ∉ gs.map placeP) : getN L (keyK p) = none := by
  have e := getN_someK L (keyK p)
  have : keyK p ∉ L.map (·.1) := fun m => by
    rw [h.keys] at m
    obtain ⟨q, mq, eq⟩ := List.mem_map.mp m
    exact n (by rw [← keyK_inj eq]; exact mq)
  rw [decide_eq_false this] at e
  cases c : getN L (keyK p) with
  | none => rfl
  | some v => rw [c] at e; cases e
theorem EntAt.get {H : Hp} {L : Gx.NL} {gs : List Pg} (h : EntAt R K H L gs) (nd : (gs.map placeP).Nodup) {g : Pg} (m : g ∈ gs) : ∃ v, getN L (keyK (placeP g)) = some v ∧ R H v g := by
  obtain ⟨j, hj⟩ := List.mem_iff_getElem?.mp m
  have lj : j < L.length := by rw [h.len]; exact (List.getElem?_eq_some_iff.mp hj).1
  obtain ⟨g', hg', e1, _, r⟩ := h.at_ (List.getElem?_eq_getElem lj)
  rw [hj] at hg'
  cases hg'
  exact ⟨_, by rw [← e1]; exact getN_ownK (h.nd nd) (List.getElem_mem lj), r⟩
theorem EntAt.of_key {H : Hp} {L : Gx.NL} {gs : List Pg} (h : EntAt R K H L gs) (nd : (gs.map placeP).Nodup) (p : KW) : (p ∉ gs.map placeP ∧ getN L (keyK p) = none) ∨ ∃ g ∈ gs, placeP g = p ∧ ∃ v, getN L (keyK p) = some v ∧ R H v g := by
  by_cases c : p ∈ gs.map placeP
  · obtain ⟨g, m, rfl⟩ := List.mem_map.mp c
    obtain ⟨v, e, r⟩ := h.get nd m
    exact .inr ⟨g, m, rfl, v, e, r⟩
  · exact .inl ⟨c, h.no c⟩
end
/-- a dict of this kind stands at d -/
def PlDict (R : Hp → V → Pg → Prop) (P : Program) (w : World) (K : PySem.W.Frag) (H : Hp) (d : Addr) (gs : List Pg) : Prop := ∃ L : Gx.NL, H d = some (DN P w d L) ∧ EntAt R K H L gs
/-- the page fits the kinds -/
def FitP (ns : List Str) (M : Mak) (g : Pg) : Prop := PgOk g ∧ (∀ z ∈ g.pool ++ g.made, z ∈ ns) ∧ leftM g.pool (partsM M g) ≠ none
def restM (M : Mak) (g : Pg) : List Str := (leftM g.pool (partsM M g)).getD []
abbrev RLeft (K : PySem.W.Frag) (M : Mak) (H : Hp) (v : V) (g : Pg) : Prop := ∃ a, v = .ref a ∧ SqT K H a ((restM M g).map V.str)
abbrev RPage (K : PySem.W.Frag) (C : Addr) (H : Hp) (v : V) (g : Pg) : Prop := ∃ x, v = .ref x ∧ PageAt K C H x g
theorem rleft_same {K : PySem.W.Frag} {M : Mak} {H H' : Hp} (s : Same H H') {v : V} {g : Pg} (h : RLeft K M H v g) : RLeft K M H' v g := by
  obtain ⟨a, e, h⟩ := h
  exact ⟨a, e, sqT_same s h⟩
end Kl
set_option maxRecDepth 100000
set_option maxHeartbeats 4000000
namespace Gx
open PySem PySem.Spec PyProof.Rows L2
def tTry1 (K : PySem.W.Frag) (c : Value) (ts : Addr → Value → Option Addr → TS) (Wout : WX) (tb : WX → TS) : TS := fun D σ H => tb (wOnly K c ts Wout D) D σ H
theorem ps_try1 {X : Cx} {x : Str} {c : Value} {body suite : List Stmt} {b₀ : Stmt} {np pos pos' : Pos} {tb : WX → TS} {ts : Addr → Value → Option Addr → TS} {Wout : WX}
    (hs : X.stack = X.env :: X.outer) (hf : X.env.frame = some X.env.locals) (hc : Names X x c) (tk : Takes X Wout)
    (hb : ∀ (W : WX) (pn : List (Addr × Obj)) (xe : Value → Shared → Prop), Takes (X.tr pn xe) W → PassesOwn (model X.prog X.w) X.A X.env xe → PSs (X.tr pn xe) body (tb W))
    (hsu : ∀ (a : Addr) (oe : Obj) (cls : Value) (d : Option Addr) (pn : List (Addr × Obj)), Zc cls d oe → (∃ vs, oe.data = .fields vs) → PSs (X.suite a ((a, oe) :: pn)) (b₀ :: suite) (ts a cls d)) :
    PS X (.Try body [.ExceptHandler (some (.Name x np)) none (b₀ :: suite) pos'] [] [] pos) (tTry1 X.K c ts Wout tb) := ps_try_only hs hf hc tk hb hsu
end Gx
set_option maxRecDepth 100000
set_option maxHeartbeats 4000000
namespace Kl
open PySem PySem.Spec PyProof.Rows L2 Gx Mx
theorem pf_noL (n : Str) (pp mp : Addr) (a : Str) : List.lookup ("left" : Str) (pf n pp mp a) = none := by
  have h1 : (("left" : Str) == "_note") = false := by decide +kernel
  have h2 : (("left" : Str) == "_pool") = false := by decide +kernel
  have h3 : (("left" : Str) == "_made") = false := by decide +kernel
  have h4 : (("left" : Str) == "_after") = false := by decide +kernel
  simp [List.lookup, h1, h2, h3, h4]
section
variable {P : Program} {w : World} {K : PySem.W.Frag} {mg : Str → Option Value} {base : Heap}
def spLbp (P : Program) (w : World) (K : PySem.W.Frag) (C CK : Addr) : Sp := fun vs H Q _ => ∃ (kx md : Addr) (leaf : Str) (M : Mak) (ns : List Str) (p : Addr) (xs : List Addr) (gs : List Pg), vs = [.ref kx, .ref p] ∧ KindsAt CK H kx md leaf M ns ∧ (∀ z ∈ ns, PyData.strOk z = true) ∧
  SqT K H p (xs.map V.ref) ∧ PgsAt K C H xs gs ∧ (∀ g ∈ gs, FitP ns M g) ∧ (gs.map placeP).Nodup ∧ gs.length < 64 ∧
  ∀ d H', H d = none → Same H H' → PlDict (RLeft K M) P w K H' d gs → Q (.ref d) H'
theorem ok_lbp {C CK Co f : Addr} {fd : FuncData} (F : Fun K "_left_by_place" "_left_by_place" s_left_by_place f fd) (T : Top K mg) (TC : Cl_Page K mg C) (TK : Cl_Kinds K mg CK)
    (XO : XPln K mg "InvalidOperation" "ValueError.__new__" "ValueError.__init__" [.type "ValueError", .type "Exception", .type "BaseException", .type "object"] Co) (XC : XCls K Co) : FnOk P w K mg base CX0 6 f fd ["kinds", "pages"] (spLbp P w K C CK) := by
  have kPl : CalP P w K mg base C "place" 1 (spPPlace K C) := TC.p_place.cal fun f fd F => ok_pplace F TC
  have kLe : CalMY P w K mg base C "left" 4 ["self", "kinds"] (spPLeft K C CK Co) := TC.m_left.calY fun f fd F => ok_pleft F T TC TK XO XC
  refine F.ok sc_left_by_place (fun vs H Q E h => ?_) (fun cdv A outer s H vs Q E hr h => ?_)
  · obtain ⟨kx, md, leaf, M, ns, p, xs, gs, rfl, _⟩ := h
    rfl
  · obtain ⟨kx, md, leaf, M, ns, p, xs, gs, rfl, hK, hok, hp, hP, hF, nd, few, q⟩ := h
    refine ⟨_, pss_cut (ps_set (i := 2) sc_left_by_place.nd rfl (.inl rfl) (pe_nnew (P := P) (w := w) (K := K) (by exact ⟨rfl, rfl, rfl⟩)))
      (pss_cut (ps_for PassesOwn.never rfl (pi_tup (pv 1)) (pg_name (i := 3) sc_left_by_place.nd rfl (.inl rfl))
        (pss_one (ps_try1 (c := .ref Co) rfl rfl ⟨by rfl, by decide, .inl XO.gC⟩ takes_none5
          (fun W pn xe tk hp => pss_one (ps_nput (P := P) (w := w) (K := K) (by exact ⟨rfl, rfl, rfl⟩) (by exact hr.units) (pv 2) (pe_propC (pv 3) TC.cl kPl (hr.mono (by decide)) rfl)
            (pe_methXo (pl := _) (pv 3) TC.cl kLe (hr.mono (by decide)) (fun σ => passAt tk σ) (pa_cons (pv 0) pa_nil)) (by rfl)))
          (fun a oe cls d pn hz hf => pss_nv))))
      (pss_one (ps_ret (pv 2)))), ?_⟩
    have big : 100000 ≤ sizeLine := by decide
    have lx := hP.len
    refine ⟨fun σ' G => ∃ d : Addr, σ' = [some (.ref kx), some (.ref p), some (.ref d), none] ∧ H d = none ∧ G d = some (DN P w d []) ∧ Same H G, ?_, ?_⟩
    · exact fun d nd => ⟨d, rfl, nd, upd_same, same_new (Same.refl H) nd⟩
    rintro σ' G1 ⟨d, rfl, nod, ed, s1⟩
    refine ⟨fun σ' G => ∃ t3 : Option V, σ' = [some (.ref kx), some (.ref p), some (.ref d), t3] ∧ PlDict (RLeft K M) P w K G d gs ∧ Same H G, ?_, ?_⟩
    · refine ⟨_, rfl, p, rfl, ⟨_, sqT_same s1 hp⟩, ?_⟩
      refine for_it (walk_tup (K := K) (a := p) (xs := xs.map V.ref)) (fun j σ' G => ∃ t3 : Option V, σ' = [some (.ref kx), some (.ref p), some (.ref d), t3] ∧ PlDict (RLeft K M) P w K G d (gs.take j) ∧ Same H G)
        ⟨none, rfl, ⟨[], ed, .nil⟩, s1⟩ (fun j σ' G _ h => by obtain ⟨_, _, _, s⟩ := h; exact sqT_same s hp) (fun j v σ' Gx G hj h hy => ?_) (fun σ' G h => ?_)
      rotate_left
      · obtain ⟨t3, rfl, hD, s⟩ := h
        rw [List.length_map, lx, List.take_length] at hD
        exact ⟨t3, rfl, hD, s⟩
      obtain ⟨t3, rfl, ⟨L, eD, hL⟩, sm⟩ := h
      obtain ⟨rfl, hv⟩ := hy
      obtain ⟨x, g, rfl, _, hg, hG⟩ := hP.at_ hv
      have mg' := List.mem_of_getElem? hg
      obtain ⟨okg, inn, fit⟩ := hF g mg'
      have hG1 := hG.same sm
      obtain ⟨dx, pp, mp, hx, _⟩ := id hG1
      obtain ⟨r', hr'⟩ : ∃ r', leftM g.pool (partsM M g) = some r' := by
        cases e : leftM g.pool (partsM M g) with
        | none => exact absurd e fit
        | some r => exact ⟨r, rfl⟩
      refine ⟨_, rfl, x, dx, _, rfl, hx, pf_noL _ _ _ _, _, rfl, x, kx, md, leaf, M, ns, g, rfl, hG1, okg, hK.same sm, hok, fun t r2 G2 _ e2 s2 et => ?_, fun G2 n _ => absurd ⟨inn, fit⟩ n⟩
      refine ⟨_, rfl, _, rfl, x, dx, _, rfl, s2 _ _ hx, x, g, rfl, hG1.same s2, fun tp pp2 G3 s3 h3 h4 => ?_⟩
      have s23 := s2.trans s3
      have eD3 := s23 _ _ eD
      have hL3 : EntAt (RLeft K M) K G3 L (gs.take j) := hL.mono (fun _ _ z => sqT_same s23 z) fun _ _ z => rleft_same s23 z
      have lj : j < gs.length := (List.getElem?_eq_some_iff.mp hg).1
      have lL : L.length = j := by
        rw [hL.len, List.length_take]
        omega
      have fresh : keyK (placeP g) ∉ L.map (·.1) := fun m => by
        rw [hL.keys] at m
        obtain ⟨q0, mq, eq⟩ := List.mem_map.mp m
        have eq := keyK_inj eq
        obtain ⟨g', mg2, e⟩ := List.mem_map.mp mq
        obtain ⟨i, hi⟩ := List.mem_iff_getElem?.mp mg2
        rw [List.getElem?_take] at hi
        by_cases ci : i < j
        · rw [if_pos ci] at hi
          have a1 : (gs.map placeP)[i]? = some (placeP g) := by rw [List.getElem?_map, hi]; exact congrArg some (e.trans eq)
          have a2 : (gs.map placeP)[j]? = some (placeP g) := by rw [List.getElem?_map, hg]; rfl
          have := (List.getElem?_inj (List.getElem?_eq_some_iff.mp a1).1 nd).mp (a1.trans a2.symm)
          omega
        · rw [if_neg ci] at hi
          cases hi
      refine ⟨d, tp, L, keyK (placeP g), rfl, rfl, eD3, hL3.all, keyK_mk h3 h4, by omega, ?_⟩
      rw [putN_freshK fresh]
      have nw : ∀ a ys, SqT K G3 a ys → SqT K (upd G3 d (DN P w d (L ++ [(keyK (placeP g), tp, V.ref t)]))) a ys := fun a ys h => by
        rcases h with (h | ⟨o, h⟩) | h
        · exact .inl (.inl (by rw [upd_ne (fun z => by rw [z, eD3] at h; cases h)]; exact h))
        · exact .inl (.inr ⟨o, by rw [upd_ne (fun z => by rw [z, eD3] at h; cases h)]; exact h⟩)
        · exact .inr h
      have rn : ∀ v g', RLeft K M G3 v g' → RLeft K M (upd G3 d (DN P w d (L ++ [(keyK (placeP g), tp, V.ref t)]))) v g' := fun v g' h => by
        obtain ⟨a, e, h⟩ := h
        exact ⟨a, e, nw _ _ h⟩
      have et3 : SqT K G3 t ((restM M g).map V.str) := by
        have e : restM M g = r2 := by unfold restM; rw [e2]; rfl
        rw [e]
        exact .inl (.inl (s3 _ _ et))
      have tk1 : gs.take (j + 1) = gs.take j ++ [g] := by rw [List.take_add_one, hg]; rfl
      refine ⟨_, rfl, ⟨_, upd_same, ?_⟩, fun b u e => by rw [upd_ne (ne_of_none e nod)]; exact s23 _ _ (sm _ _ e)⟩
      rw [tk1]
      exact EntAt.snoc ⟨rfl, (keyK_mk h3 h4).mono nw, t, rfl, nw _ _ et3⟩ (hL3.mono nw rn)
    rintro σ' G2 ⟨t3, rfl, hD, s2⟩
    exact ⟨_, rfl, q d G2 nod s2 hD⟩
end
end Kl
set_option maxRecDepth 100000
set_option maxHeartbeats 4000000
namespace Gx
open PySem PySem.Spec PySem.Calls PyProof.Rows L2 LamX
section
variable {P : Program} {w : World} {K : PySem.W.Frag} {mg : Str → Option Value} {base : Heap}
/-- a def whose code object is at c -/
theorem okL {x qual : Str} {st : Stmt} {f c : Addr} {fd : FuncData} {N ps : List Str} {k : Nat} {sp : Sp} (F : Fun K x qual st f fd) (hc : fd.code = .ref c) (S : FnScope N ps (defScope st)) (hlen : ∀ vs H Q E, sp vs H Q E → vs.length = ps.length)
    (hb : ∀ (A : Around) (outer : List Env) (s : Shared) (H : Hp) (vs : List V) (Q : VK) (E : XK), Room k (A.deeper (envOfC qual (defScope st) s.heap.objs.size f (.ref c))) → sp vs H Q E →
      ∃ t, PSs (cxOf CX0 P w K mg base N qual (defScope st) f (.ref c) A outer s H E).nox (defBody st) t ∧ t { nx := fun _ H' => Q .non H', rt := Q } (start N vs) H) : FnOk P w K mg base CX0 (k + 1) f fd ps sp := by
  obtain ⟨oc, od, kV, doc, pm, an, cdv, ct, osl, rfl, lk, hcd⟩ := F.ex
  have e : cdv = .ref c := hc
  subst e
  refine fn_of lk hcd S hlen fun A outer s H vs Q E hr want => ?_
  obtain ⟨t, h, q⟩ := hb A outer s H vs Q E hr want
  exact ⟨t, h.nox, q⟩
end
end Gx
set_option maxRecDepth 100000
set_option maxHeartbeats 4000000
namespace Kl
open PySem PySem.Spec PyProof.Rows L2 Gx Mx LamX
abbrev encP (g : Pg) : PyData := encK (placeP g)
theorem ordP : OrdD encP where
  ne := fun p => ⟨_, _, rfl⟩
  alike := fun p q => srtKW.alike (placeP p) (placeP q)
  depth := fun p => srtKW.depth (placeP p)
abbrev ascP (gs : List Pg) : Prop := gs.Pairwise fun a b => ltK (placeP b) (placeP a) = false
theorem byD_perm (bs : List (V × Pg)) : (byD encP bs).Perm bs := List.mergeSort_perm _ _
theorem byD_asc (bs : List (V × Pg)) : ascP ((byD encP bs).map (·.2)) := by
  have ele : ∀ a b : V × Pg, PySem.W.dataLe false (eK encP) a b = !ltK (placeP b.2) (placeP a.2) := fun a b => by
    rw [PySem.W.dataLe_eq]
    show (!PySem.W.dataLt (encK (placeP b.2)) (encK (placeP a.2))) = _
    rw [srtKW.lts]
  have srt := List.pairwise_mergeSort (le := PySem.W.dataLe false (eK encP)) (fun a b c h1 h2 => by
    rw [ele, Bool.not_eq_true'] at h1 h2 ⊢
    exact srtKW.le h1 h2) (fun a b => by
    rw [ele, ele]
    cases e : ltK (placeP b.2) (placeP a.2) with
    | false => rfl
    | true => rw [srtKW.asym e]; rfl) bs
  unfold byD
  exact List.Pairwise.map _ (fun a b h => by rw [ele] at h; simpa using h) srt
/-- the fields of a machine -/
abbrev mf (kx ld pd : Addr) : List (Str × V) := [("_kinds", .ref kx), ("_left", .ref ld), ("_pages", .ref pd)]
/-- a machine stands at m: its pages as they came, and ascending -/
def MachAt (P : Program) (w : World) (K : PySem.W.Frag) (CM CP CK : Addr) (H : Hp) (m kx md : Addr) (leaf : Str) (M : Mak) (ns : List Str) (gs gs' : List Pg) : Prop :=
  ∃ dm ld pd, H m = some (.ins CM dm (mf kx ld pd)) ∧ KindsAt CK H kx md leaf M ns ∧ PlDict (RLeft K M) P w K H ld gs ∧ PlDict (RPage K CP) P w K H pd gs'
theorem zip_refs : ∀ {xs : List Addr} {gs : List Pg}, xs.length = gs.length → ((xs.zip gs).map fun e => (V.ref e.1, e.2)).map (·.1) = xs.map V.ref
  | [], [], _ => rfl
  | [], _ :: _, h => by cases h
  | _ :: _, [], h => by cases h
  | x :: xs, g :: gs, h => by
    show V.ref x :: ((xs.zip gs).map fun e => (V.ref e.1, e.2)).map (·.1) = V.ref x :: xs.map V.ref
    rw [zip_refs (Nat.succ.inj h)]
theorem zip_pgs : ∀ {xs : List Addr} {gs : List Pg}, xs.length = gs.length → ((xs.zip gs).map fun e => (V.ref e.1, e.2)).map (·.2) = gs
  | [], [], _ => rfl
  | [], _ :: _, h => by cases h
  | _ :: _, [], h => by cases h
  | x :: xs, g :: gs, h => by
    show g :: ((xs.zip gs).map fun e => (V.ref e.1, e.2)).map (·.2) = g :: gs
    rw [zip_pgs (Nat.succ.inj h)]
theorem zip_at {K : PySem.W.Frag} {C : Addr} {H : Hp} : ∀ {xs : List Addr} {gs : List Pg}, PgsAt K C H xs gs → ∀ e ∈ (xs.zip gs).map fun e => (V.ref e.1, e.2), ∃ x, e.1 = V.ref x ∧ PageAt K C H x e.2
  | _, _, .nil, e, m => by cases m
  | _, _, .cons (a := a) h t, e, m => by
    rcases List.mem_cons.mp m with rfl | m
    · exact ⟨a, rfl, h⟩
    · exact zip_at t e m
theorem PageAt.exN {K : PySem.W.Frag} {C x : Addr} {H H' : Hp} {g : Pg} (h : PageAt K C H x g) (s : ExtN H H') : PageAt K C H' x g := by
  obtain ⟨dx, pp, mp, a, b, c⟩ := h
  exact ⟨dx, pp, mp, s _ _ a fun _ => nofun, sqT_exN s b, sqT_exN s c⟩
theorem KindsAt.exN {C : Addr} {H H' : Hp} {x md : Addr} {leaf : Str} {M : Mak} {ns : List Str} (h : KindsAt C H x md leaf M ns) (s : ExtN H H') : KindsAt C H' x md leaf M ns := by
  obtain ⟨dx, nt, kvs, h1, h2, h3, h4⟩ := h
  exact ⟨dx, nt, kvs, s _ _ h1 (fun _ => nofun), s _ _ h2 (fun _ => nofun), h3.same fun b xs q => q.at fun o e' => by
    obtain ⟨ob, dn, e2⟩ := q
    rw [e2] at e'
    cases e'
    exact s _ _ e2 (fun _ => nofun), s _ _ h4 (fun _ => nofun)⟩
theorem dn_no {P : Program} {w : World} {d : Addr} {L : Gx.NL} (ps : Array Value) : DN P w d L ≠ .tbl ps := fun z => by unfold DN at z; cases z
theorem PlDict.exN {R : Hp → V → Pg → Prop} {P : Program} {w : World} {K : PySem.W.Frag} {H H' : Hp} {d : Addr} {gs : List Pg} (h : PlDict R P w K H d gs) (s : ExtN H H') (r : ∀ v g, R H v g → R H' v g) : PlDict R P w K H' d gs := by
  obtain ⟨L, e, hL⟩ := h
  exact ⟨L, s _ _ e fun ps => dn_no ps, hL.mono (fun _ _ z => sqT_exN s z) r⟩
theorem rleft_exN {K : PySem.W.Frag} {M : Mak} {H H' : Hp} (s : ExtN H H') {v : V} {g : Pg} (h : RLeft K M H v g) : RLeft K M H' v g := by
  obtain ⟨a, e, h⟩ := h
  exact ⟨a, e, sqT_exN s h⟩
theorem rpage_exN {K : PySem.W.Frag} {C : Addr} {H H' : Hp} (s : ExtN H H') {v : V} {g : Pg} (h : RPage K C H v g) : RPage K C H' v g := by
  obtain ⟨a, e, h⟩ := h
  exact ⟨a, e, h.exN s⟩
theorem MachAt.exN {P : Program} {w : World} {K : PySem.W.Frag} {CM CP CK : Addr} {H H' : Hp} {m kx md : Addr} {leaf : Str} {M : Mak} {ns : List Str} {gs gs' : List Pg} (h : MachAt P w K CM CP CK H m kx md leaf M ns gs gs') (s : ExtN H H') : MachAt P w K CM CP CK H' m kx md leaf M ns gs gs' := by
  obtain ⟨dm, ld, pd, a, b, c, d⟩ := h
  exact ⟨dm, ld, pd, s _ _ a fun _ => nofun, b.exN s, c.exN s fun _ _ z => rleft_exN s z, d.exN s fun _ _ z => rpage_exN s z⟩
theorem mf_2 (a p : V) : putF ("_left" : Str) p [("_kinds", a)] = ([("_kinds", a), ("_left", p)] : List (Str × V)) := putF_app _ fun q hq => by
  rw [List.mem_singleton.mp hq]
  show ("_kinds" : Str) ≠ "_left"
  decide +kernel
theorem mf_3 (a p m : V) : putF ("_pages" : Str) m [("_kinds", a), ("_left", p)] = ([("_kinds", a), ("_left", p), ("_pages", m)] : List (Str × V)) := putF_app _ fun q hq => by
  rcases List.mem_cons.mp hq with rfl | hq
  · show ("_kinds" : Str) ≠ "_pages"
    decide +kernel
  · rw [List.mem_singleton.mp hq]
    show ("_left" : Str) ≠ "_pages"
    decide +kernel
section
variable {P : Program} {w : World} {K : PySem.W.Frag} {mg : Str → Option Value} {base : Heap}
/-- all but what stands at m and the tables stays -/
def Keep (m : Addr) (H H' : Hp) : Prop := ∀ b o, b ≠ m → H b = some o → (∀ ps, o ≠ .tbl ps) → H' b = some o
theorem keep_of {m : Addr} {H H' : Hp} (s : Same H H') : Keep m H H' := fun b o _ e _ => s b o e
theorem keep_N {m : Addr} {H H' : Hp} (s : ExtN H H') : Keep m H H' := fun b o _ e n => s b o e n
theorem Keep.trans {m : Addr} {H H1 H2 : Hp} (a : Keep m H H1) (b : Keep m H1 H2) : Keep m H H2 := fun c o n e t => b c o n (a c o n e t) t
theorem keep_at {m : Addr} {H : Hp} {o : HO} : Keep m H (upd H m o) := fun b u n e _ => by rw [upd_ne n]; exact e
section
variable {m CM dm : Addr} {fs : List (Str × V)} {H H' : Hp}
theorem sqT_keep {a : Addr} {xs : List V} (hm : H m = some (.ins CM dm fs)) (s : Keep m H H') (h : SqT K H a xs) : SqT K H' a xs := by
  rcases h with (h | ⟨o, h⟩) | h
  · exact .inl (.inl (s _ _ (fun z => by rw [z, hm] at h; cases h) h fun _ => nofun))
  · exact .inl (.inr ⟨o, s _ _ (fun z => by rw [z, hm] at h; cases h) h fun _ => nofun⟩)
  · exact .inr h
theorem page_keep {C x : Addr} {g : Pg} (hm : H m = some (.ins CM dm fs)) (lf : fs.length ≤ 3) (s : Keep m H H') (h : PageAt K C H x g) : PageAt K C H' x g := by
  obtain ⟨dx, pp, mp, a, b, c⟩ := h
  refine ⟨dx, pp, mp, s _ _ (fun z => ?_) a fun _ => nofun, sqT_keep hm s b, sqT_keep hm s c⟩
  rw [z, hm] at a
  have := Option.some.inj a
  injection this with _ _ e
  rw [e] at lf
  have lf : 4 ≤ 3 := lf
  omega
theorem pgs_keep {C : Addr} (hm : H m = some (.ins CM dm fs)) (lf : fs.length ≤ 3) (s : Keep m H H') : ∀ {xs : List Addr} {gs : List Pg}, PgsAt K C H xs gs → PgsAt K C H' xs gs
  | _, _, .nil => .nil
  | _, _, .cons h t => .cons (page_keep hm lf s h) (pgs_keep hm lf s t)
theorem kinds_keep {C x md : Addr} {leaf : Str} {M : Mak} {ns : List Str} (hm : H m = some (.ins CM dm fs)) (n : x ≠ m) (s : Keep m H H') (h : KindsAt C H x md leaf M ns) : KindsAt C H' x md leaf M ns := by
  obtain ⟨dx, nt, kvs, h1, h2, h3, h4⟩ := h
  exact ⟨dx, nt, kvs, s _ _ n h1 (fun _ => nofun), s _ _ (fun z => by rw [z, hm] at h2; cases h2) h2 (fun _ => nofun), h3.same fun b xs q => q.at fun o e' => by
    obtain ⟨ob, dn, e2⟩ := q
    rw [e2] at e'
    cases e'
    exact s _ _ (fun z => by rw [z, hm] at e2; cases e2) e2 (fun _ => nofun), s _ _ (fun z => by rw [z, hm] at h4; cases h4) h4 (fun _ => nofun)⟩
theorem pl_keep {R : Hp → V → Pg → Prop} {d : Addr} {gs : List Pg} (hm : H m = some (.ins CM dm fs)) (s : Keep m H H') (r : ∀ v g, R H v g → R H' v g) (h : PlDict R P w K H d gs) : PlDict R P w K H' d gs := by
  obtain ⟨L, e, hL⟩ := h
  exact ⟨L, s _ _ (fun z => by rw [z, hm] at e; unfold DN at e; cases e) e fun ps => dn_no ps, hL.mono (fun _ _ z => sqT_keep hm s z) r⟩
end
theorem tabs_keep {m : Addr} {H : Hp} {Tb : List (Addr × Str)} {o : HO} {CM dm : Addr} {fs : List (Str × V)} (t : Tabs Tb H) (hm : H m = some (.ins CM dm fs)) : Tabs Tb (upd H m o) := fun q hq => by
  obtain ⟨ps, h1, h2, h3⟩ := t q hq
  refine ⟨ps, by rw [upd_ne (fun w => by rw [w, hm] at h1; cases h1)]; exact h1, h2, fun pos cv hc => ?_⟩
  obtain ⟨c1, e1, e2⟩ := h3 pos cv hc
  exact ⟨c1, e1, by rw [upd_ne (fun w => by rw [w, hm] at e2; cases (Option.some.inj e2))]; exact e2⟩
/-- the machine's dict of pages -/
def PdOf (CM : Addr) (H : Hp) (m pd : Addr) : Prop := ∃ dm kx ld, H m = some (.ins CM dm (mf kx ld pd))
def spMInit (P : Program) (w : World) (K : PySem.W.Frag) (CM CP CK : Addr) (Tb : List (Addr × Str)) : Sp := fun vs H Q _ => ∃ (m dm kx md : Addr) (leaf : Str) (M : Mak) (ns : List Str) (p : Addr) (xs : List Addr) (gs : List Pg), vs = [.ref m, .ref kx, .ref p] ∧ H m = some (.ins CM dm []) ∧ KindsAt CK H kx md leaf M ns ∧ (∀ z ∈ ns, PyData.strOk z = true) ∧
  SqT K H p (xs.map V.ref) ∧ PgsAt K CP H xs gs ∧ (∀ g ∈ gs, FitP ns M g) ∧ (gs.map placeP).Nodup ∧ gs.length < 64 ∧ kx ≠ m ∧ Tabs Tb H ∧
  ∀ gs' pd H', gs'.Perm gs → ascP gs' → MachAt P w K CM CP CK H' m kx md leaf M ns gs gs' → PdOf CM H' m pd → NewN H pd → Keep m H H' → Tabs Tb H' → Q .non H'
theorem ok_minit {CM CP CK Co f c Pt : Addr} {fd : FuncData} {Tb : List (Addr × Str)} (F : Fun K "__init__" "Machine.__init__" s_Machine_init f fd) (hc : fd.code = .ref c) (TB : TabB base mg c Pt) (hm : (Pt, ln "Machine.__init__") ∈ Tb) (hu0 : ∀ p ∈ Tb, p.1 = Pt → p.2 = ln "Machine.__init__") (T : Top K mg) (TM : Cl_Machine K mg CM) (TC : Cl_Page K mg CP) (TK : Cl_Kinds K mg CK)
    (XO : XPln K mg "InvalidOperation" "ValueError.__new__" "ValueError.__init__" [.type "ValueError", .type "Exception", .type "BaseException", .type "object"] Co) (XC : XCls K Co) : FnOk P w K mg base CX0 8 f fd ["self", "kinds", "pages"] (spMInit P w K CM CP CK Tb) := by
  have kPl : CalP P w K mg base CP "place" 1 (spPPlace K CP) := TC.p_place.cal fun f fd F => ok_pplace F TC
  have ca : Cal P w K mg base 7 "_are_pages" ["value"] (spApg K CP) := (T.d_are_pages.cal fun f fd F => ok_apg F T TC).mono (by decide)
  have cl : Cal P w K mg base 7 "_left_by_place" ["kinds", "pages"] (spLbp P w K CP CK) := (T.d_left_by_place.cal fun f fd F => ok_lbp F T TC TK XO XC).mono (by decide)
  refine okL F hc sc_Machine_init (fun vs H Q E h => ?_) (fun A outer s H vs Q E hr h => ?_)
  · obtain ⟨m, dm, kx, md, leaf, M, ns, p, xs, gs, rfl, _⟩ := h
    rfl
  · obtain ⟨m, dm, kx, md, leaf, M, ns, p, xs, gs, rfl, hx, hK, hok, hp, hP, hF, nd, few, nkm, hTb, q⟩ := h
    refine ⟨_, pss_cut (ps_if (pt_not (pt_val (pe_callB call_isi (by rfl) T.b_isinstance (by decide +kernel) (pa_cons (pv 1) (pa_cons (pe_glob (v := .ref CK) (by rfl) TK.gC rfl) pa_nil))))) (pss_one ps_never) pss_nil)
      (pss_cut (ps_if (pt_not (pt_val (pe_cal ca hr (by rfl) (pa_cons (pv 2) pa_nil)))) (pss_one ps_never) pss_nil)
      (pss_cons (ps_fld (pv 0) (pv 1) rfl) (pss_cons (ps_fld (pv 0) (pe_cal cl hr (by rfl) (pa_cons (pv 1) (pa_cons (pv 2) pa_nil))) rfl)
      (pss_one (ps_fld (pv 0) (pe_dcG (own := [("page", 3)]) (g := gName 3) (tt := tYes) (new := fun D => DN P w D []) (put := putG P w K) newN (fun _ _ _ _ _ => putN_ok (by exact ⟨rfl, rfl, rfl⟩) (by exact hr.units)) rfl sc_Machine_init.nd
          (pi_listK (K := K) rfl (pe_sortKT (enc := encP) ordP (k := 2) (y := "each") (by rfl) T.b_sorted (pv 2) (hr.mono (by decide)) TB rfl hm hu0 ⟨rfl, rfl, rfl, by decide +kernel, rfl, by decide +kernel, by decide +kernel⟩ rfl (fun _ => rfl) (fun _ _ _ _ _ _ => rfl) (fun A outer s H f c' hr' => pe_propC (pv 0) TC.cl kPl hr' rfl)))
          (blkOk_by (N := ["self", "kinds", "pages", "page"]) (sc := defScope s_Machine_init) (by decide +kernel)) (fun _ _ _ _ _ => pg_name (i := 3) sc_Machine_init.nd rfl (.inl rfl)) (fun _ _ _ _ _ => pts_nil)
          (fun _ _ _ _ _ => pe_propC (pv 3) TC.cl kPl (hr.mono (by decide)) rfl) (fun _ _ _ _ _ => pv 3)) rfl))))), ?_⟩
    have big : 100000 ≤ sizeLine := by decide
    have lx := hP.len
    -- the checks
    refine ⟨fun σ' G => σ' = [some (.ref m), some (.ref kx), some (.ref p), none] ∧ G = H, ?_, ?_⟩
    · obtain ⟨dk, nt, kvs, hkx, _⟩ := id hK
      refine ⟨_, rfl, _, _, .ref CK, .ref CK, true, rfl, .own CK, .base (.ins hkx TK.cl TK.ca TK.cg TK.ct TK.ob), TK.kit, true, rfl, ?_⟩
      show (if (!true) = true then _ else _)
      rw [if_neg (by decide)]
      exact ⟨rfl, rfl⟩
    rintro σ' G ⟨rfl, rfl⟩
    refine ⟨fun σ' G' => σ' = [some (.ref m), some (.ref kx), some (.ref p), none] ∧ Same G G', ?_, ?_⟩
    · refine ⟨_, rfl, p, xs, gs, rfl, hp, hP, nd, few, fun H' s => ⟨_, rfl, ?_⟩⟩
      show (if (!true) = true then _ else _)
      rw [if_neg (by decide)]
      exact ⟨rfl, s⟩
    rintro σ' G1 ⟨rfl, s1⟩
    have hx1 := s1 _ _ hx
    have k1 : Keep m G G1 := keep_of s1
    -- the kinds
    refine ⟨_, rfl, _, rfl, m, CM, dm, [], rfl, hx1, TM.cl, TM.n_kinds, by decide, ?_⟩
    rw [show putF ("_kinds" : Str) (V.ref kx) [] = ([("_kinds", .ref kx)] : List (Str × V)) from rfl]
    have k2 : Keep m G (upd G1 m (.ins CM dm [("_kinds", .ref kx)])) := k1.trans keep_at
    have t2 : Tabs Tb (upd G1 m (.ins CM dm [("_kinds", .ref kx)])) := tabs_keep (Tabs.ext hTb s1) hx1
    have hx2 : (upd G1 m (.ins CM dm [("_kinds", .ref kx)])) m = some (.ins CM dm [("_kinds", .ref kx)]) := upd_same
    generalize upd G1 m (.ins CM dm [("_kinds", .ref kx)]) = G2 at *
    have hm0 : G m = some (.ins CM dm []) := hx
    -- what is left
    refine ⟨_, rfl, _, rfl, kx, md, leaf, M, ns, p, xs, gs, rfl, kinds_keep hm0 nkm k2 hK, hok, sqT_keep hm0 k2 hp, pgs_keep hm0 (by show 0 ≤ 3; omega) k2 hP, hF, nd, few, fun ld G3 nld s3 hLd => ?_⟩
    have hx3 := s3 _ _ hx2
    have k3 : Keep m G G3 := k2.trans (keep_of s3)
    have t3 := Tabs.ext t2 s3
    refine ⟨_, rfl, m, CM, dm, _, rfl, hx3, TM.cl, TM.n_left, by show 1 < 1000; omega, ?_⟩
    rw [mf_2]
    have k4 : Keep m G (upd G3 m (.ins CM dm [("_kinds", .ref kx), ("_left", .ref ld)])) := k3.trans keep_at
    have t4 : Tabs Tb (upd G3 m (.ins CM dm [("_kinds", .ref kx), ("_left", .ref ld)])) := tabs_keep t3 hx3
    have hx4 : (upd G3 m (.ins CM dm [("_kinds", .ref kx), ("_left", .ref ld)])) m = some (.ins CM dm [("_kinds", .ref kx), ("_left", .ref ld)]) := upd_same
    have hL4 : PlDict (RLeft K M) P w K (upd G3 m (.ins CM dm [("_kinds", .ref kx), ("_left", .ref ld)])) ld gs := pl_keep hx3 (keep_at) (fun v g h => by
      obtain ⟨a, e, h⟩ := h
      exact ⟨a, e, sqT_keep hx3 keep_at h⟩) hLd
    generalize upd G3 m (.ins CM dm [("_kinds", .ref kx), ("_left", .ref ld)]) = G4 at *
    -- the pages, sorted
    refine ⟨_, rfl, t4, fun G5 e5 t5 => ?_⟩
    have k5 : Keep m G G5 := k4.trans (keep_N e5)
    have hx5 := e5 _ _ hx4 fun _ => nofun
    have hP5 := pgs_keep hm0 (by show 0 ≤ 3; omega) k5 hP
    obtain ⟨bs, ebs⟩ : ∃ bs, bs = (xs.zip gs).map fun e => (V.ref e.1, e.2) := ⟨_, rfl⟩
    have b1 : bs.map (·.1) = xs.map V.ref := by rw [ebs]; exact zip_refs lx
    have b2 : bs.map (·.2) = gs := by rw [ebs]; exact zip_pgs lx
    have b3 : ∀ e ∈ bs, ∃ x, e.1 = V.ref x ∧ PageAt K CP G5 x e.2 := fun e me => zip_at hP5 e (by rw [← ebs]; exact me)
    have lb : bs.length = gs.length := by rw [← b2, List.length_map]
    refine ⟨p, bs, rfl, .inr (by rw [b1]; exact sqT_keep hm0 k5 hp), by omega, fun e me H3 s => ?_, fun y G6 s6 ny => ?_⟩
    · obtain ⟨x, ex, hG⟩ := b3 e me
      obtain ⟨v, g⟩ := e
      subst ex
      obtain ⟨dx, pp, mp, hxx, _⟩ := id (hG.same s)
      exact ⟨_, rfl, x, dx, _, rfl, hxx, x, g, rfl, hG.same s, fun t pp' H4 s4 h1 h2 => ⟨srtKW.dp (keyK_mk h1 h2), s4⟩⟩
    have pm := byD_perm bs
    have hasc := byD_asc bs
    generalize byD encP bs = cs at *
    have c3 : ∀ e ∈ cs, ∃ x, e.1 = V.ref x ∧ PageAt K CP G5 x e.2 := fun e me => b3 e (pm.mem_iff.mp me)
    have s7 := same_new (o := .lst (cs.map (·.1))) s6 ny
    have ey : (upd G6 y (.lst (cs.map (·.1)))) y = some (.lst (cs.map (·.1))) := upd_same
    generalize upd G6 y (.lst (cs.map (·.1))) = G7 at *
    have pg : (cs.map (·.2)).Perm gs := by rw [← b2]; exact pm.map _
    have nd' : ((cs.map (·.2)).map placeP).Nodup := (pg.map placeP).nodup_iff.mpr nd
    have lc : cs.length = gs.length := by rw [← lb]; exact pm.length_eq
    refine ⟨y, rfl, ⟨_, .inl (.inl ey)⟩, fun D hD => ?_⟩
    refine dcG_it (new := fun D => DN P w D []) (put := putG P w K) (walk_list (K := K) (a := y) (xs := cs.map (·.1))) (fun j G' => ∃ L, G' D = some (DN P w D L) ∧ EntAt (RPage K CP) K G' L ((cs.take j).map (·.2)) ∧ Same G7 G')
      ⟨[], upd_same, .nil, same_new (Same.refl _) hD⟩ (fun j G' _ h => by obtain ⟨_, _, _, s⟩ := h; exact .inl (.inl (s _ _ ey))) (fun j v Gx G' hj h hy => ?_) (fun G' h => ?_)
    · obtain ⟨L, eD, hL, sm⟩ := h
      obtain ⟨rfl, hv⟩ := hy
      rw [List.getElem?_map] at hv
      obtain ⟨e, he, rfl⟩ := Option.map_eq_some_iff.mp hv
      obtain ⟨x, ex, hG⟩ := c3 e (List.mem_of_getElem? he)
      have hG' : PageAt K CP G' x e.2 := hG.same (s7.trans sm)
      obtain ⟨v, g⟩ := e
      subst ex
      obtain ⟨dx, pp, mp, hxx, _⟩ := id hG'
      have lj : j < cs.length := (List.getElem?_eq_some_iff.mp he).1
      refine ⟨rfl, _, rfl, x, dx, _, rfl, hxx, x, g, rfl, hG', fun t pp' H2 s2 h1 h2 => ⟨_, rfl, ?_⟩⟩
      have eD2 := s2 _ _ eD
      have tk1 : (cs.take (j + 1)).map (·.2) = (cs.take j).map (·.2) ++ [g] := by rw [List.take_add_one, he, List.map_append]; rfl
      have hgj : (cs.map (·.2))[j]? = some g := by rw [List.getElem?_map, he]; rfl
      have fresh : keyK (placeP g) ∉ L.map (·.1) := fun mm => by
        rw [hL.keys, List.map_take] at mm
        obtain ⟨q0, mq, eq⟩ := List.mem_map.mp mm
        have eq := keyK_inj eq
        obtain ⟨g', mg2, e⟩ := List.mem_map.mp mq
        obtain ⟨i, hi⟩ := List.mem_iff_getElem?.mp mg2
        rw [List.getElem?_take] at hi
        by_cases ci : i < j
        · rw [if_pos ci] at hi
          have a1 : ((cs.map (·.2)).map placeP)[i]? = some (placeP g) := by rw [List.getElem?_map, hi]; exact congrArg some (e.trans eq)
          have a2 : ((cs.map (·.2)).map placeP)[j]? = some (placeP g) := by rw [List.getElem?_map, hgj]; rfl
          have := (List.getElem?_inj (List.getElem?_eq_some_iff.mp a1).1 nd').mp (a1.trans a2.symm)
          omega
        · rw [if_neg ci] at hi
          cases hi
      have lL : L.length = j := by rw [hL.len, List.length_map, List.length_take]; omega
      refine ⟨L, keyK (placeP g), t, rfl, keyK_mk h1 h2, eD2, fun e me => keyA_same s2 (hL.all e me), by omega, ?_⟩
      rw [putN_freshK fresh]
      have nw : ∀ a ys, SqT K H2 a ys → SqT K (upd H2 D (DN P w D (L ++ [(keyK (placeP g), t, V.ref x)]))) a ys := fun a ys h => by
        rcases h with (h | ⟨o, h⟩) | h
        · exact .inl (.inl (by rw [upd_ne (fun z => by rw [z, eD2] at h; cases h)]; exact h))
        · exact .inl (.inr ⟨o, by rw [upd_ne (fun z => by rw [z, eD2] at h; cases h)]; exact h⟩)
        · exact .inr h
      have pn : ∀ {x' : Addr} {g' : Pg}, PageAt K CP H2 x' g' → PageAt K CP (upd H2 D (DN P w D (L ++ [(keyK (placeP g), t, V.ref x)]))) x' g' := fun h => by
        obtain ⟨dx', pp', mp', a, b, c⟩ := h
        exact ⟨dx', pp', mp', by rw [upd_ne (fun z => by rw [z, eD2] at a; unfold DN at a; cases a)]; exact a, nw _ _ b, nw _ _ c⟩
      refine ⟨_, upd_same, ?_, fun b u e => by rw [upd_ne (ne_of_none e hD)]; exact s2 _ _ (sm _ _ e)⟩
      rw [tk1]
      exact EntAt.snoc ⟨rfl, (keyK_mk h1 h2).mono nw, x, rfl, pn (hG'.same s2)⟩ (hL.mono (fun _ _ z => nw _ _ (sqT_same s2 z)) fun v g' h => by
        obtain ⟨x', e, h⟩ := h
        exact ⟨x', e, pn (h.same s2)⟩)
    · obtain ⟨L, eD, hL, sm⟩ := h
      rw [List.length_map, List.take_length] at hL
      have s57 := s7.trans sm
      have hx8 := s57 _ _ hx5
      have k8 : Keep m G G' := k5.trans (keep_of s57)
      refine ⟨_, rfl, m, CM, dm, _, rfl, hx8, TM.cl, TM.n_pages, by show 2 < 1000; omega, ?_⟩
      rw [mf_3]
      have k9 : Keep m G (upd G' m (.ins CM dm (mf kx ld D))) := k8.trans keep_at
      have e48 : ExtN G4 G' := e5.trans (.of s57)
      have nD : NewN G D := fun o e t => by
        by_cases z : D = m
        · rw [z] at hD
          rw [s7 _ _ hx5] at hD
          cases hD
        · have := (k5.trans (keep_of s7)) _ _ z e t
          rw [hD] at this
          cases this
      refine q (cs.map (·.2)) D _ pg hasc ⟨dm, ld, D, upd_same, kinds_keep hm0 nkm k9 hK, ?_, ?_⟩ ⟨dm, kx, ld, upd_same⟩ nD k9 (tabs_keep (Tabs.ext t5 s57) hx8)
      · exact pl_keep hx8 keep_at (fun v g h => by
          obtain ⟨a, e, h⟩ := h
          exact ⟨a, e, sqT_keep hx8 keep_at h⟩) (hL4.exN e48 fun _ _ z => rleft_exN e48 z)
      · exact pl_keep hx8 keep_at (fun v g h => by
          obtain ⟨a, e, h⟩ := h
          exact ⟨a, e, page_keep hx8 (by show 2 ≤ 3; omega) keep_at h⟩) ⟨L, eD, hL⟩
end
end Kl
set_option maxRecDepth 100000
set_option maxHeartbeats 4000000
namespace Kl
open PySem PySem.Spec PyProof.Rows L2 Gx Mx LamX
theorem mf_kinds (kx ld pd : Addr) : List.lookup ("_kinds" : Str) (mf kx ld pd) = some (.ref kx) := by simp [List.lookup]
theorem mf_left (kx ld pd : Addr) : List.lookup ("_left" : Str) (mf kx ld pd) = some (.ref ld) := by
  have h : (("_left" : Str) == "_kinds") = false := by decide +kernel
  simp [List.lookup, h]
theorem mf_pages (kx ld pd : Addr) : List.lookup ("_pages" : Str) (mf kx ld pd) = some (.ref pd) := by
  have h : (("_pages" : Str) == "_kinds") = false := by decide +kernel
  have h2 : (("_pages" : Str) == "_left") = false := by decide +kernel
  simp [List.lookup, h, h2]
theorem mf_no {z : Str} (kx ld pd : Addr) (h1 : (z == ("_kinds" : Str)) = false) (h2 : (z == ("_left" : Str)) = false) (h3 : (z == ("_pages" : Str)) = false) : List.lookup z (mf kx ld pd) = none := by
  simp [List.lookup, h1, h2, h3]
/-- all but d stays, d is locked -/
structure Lkd (P : Program) (w : World) (H H' : Hp) (d : Addr) (od : Obj) (L : Gx.NL) : Prop where
  at_ : H' d = some (.frz od (DN P w d L))
  sm : ∀ b u, b ≠ d → H b = some u → H' b = some u
section
variable {P : Program} {w : World} {K : PySem.W.Frag} {H H' H2 : Hp} {d : Addr} {od : Obj} {L : Gx.NL}
theorem Lkd.of : Lkd P w H (upd H d (.frz od (DN P w d L))) d od L := ⟨upd_same, fun b u n e => by rw [upd_ne n]; exact e⟩
theorem Lkd.more (k : Lkd P w H H' d od L) (s : Same H' H2) : Lkd P w H H2 d od L := ⟨s _ _ k.at_, fun b u n e => s _ _ (k.sm b u n e)⟩
theorem Lkd.sq (k : Lkd P w H H' d od L) (e : H d = some (DN P w d L)) {a : Addr} {xs : List V} (h : SqT K H a xs) : SqT K H' a xs := by
  have ne : ∀ b u, H b = some u → (∀ φ, u ≠ .ext φ) → b ≠ d := fun b u q n z => by
    subst z
    rw [e] at q
    exact n _ (Option.some.inj q).symm
  rcases h with (h | ⟨o, h⟩) | h
  · exact .inl (.inl (k.sm _ _ (ne _ _ h fun _ z => nomatch z) h))
  · exact .inl (.inr ⟨o, k.sm _ _ (ne _ _ h fun _ z => nomatch z) h⟩)
  · exact .inr h
theorem Lkd.key (k : Lkd P w H H' d od L) (e : H d = some (DN P w d L)) {a : Addr} {q : NestedKey} (h : KeyA K H a q) : KeyA K H' a q := h.mono fun _ _ z => k.sq e z
theorem Lkd.back (k : Lkd P w H H' d od L) (e : H d = some (DN P w d L)) : Same H (upd H' d (DN P w d L)) := fun b u q => by
  by_cases n : b = d
  · subst n
    rw [upd_same, ← e]
    exact q
  · rw [upd_ne n]
    exact k.sm b u n q
end
theorem MachAt.same {P : Program} {w : World} {K : PySem.W.Frag} {CM CP CK : Addr} {H H' : Hp} {m kx md : Addr} {leaf : Str} {M : Mak} {ns : List Str} {gs gs' : List Pg} (h : MachAt P w K CM CP CK H m kx md leaf M ns gs gs') (s : Same H H') : MachAt P w K CM CP CK H' m kx md leaf M ns gs gs' := h.exN (.of s)
section
variable {P : Program} {w : World} {K : PySem.W.Frag} {mg : Str → Option Value} {base : Heap}
/-- all that is known of a machine -/
structure MOk (ns : List Str) (M : Mak) (gs gs' : List Pg) : Prop where
  fit : ∀ g ∈ gs, FitP ns M g
  nd : (gs.map placeP).Nodup
  few : gs.length < 64
  pm : gs'.Perm gs
  asc : ascP gs'
theorem MOk.nd' {ns : List Str} {M : Mak} {gs gs' : List Pg} (h : MOk ns M gs gs') : (gs'.map placeP).Nodup := (h.pm.map placeP).nodup_iff.mpr h.nd
theorem pe_fldK {X : Cx} {K : PySem.W.Frag} {e : Expr} {ta : TE} {f : Str} {pos : Pos} (hk : X.K = K) (he : PE X e ta) (hb : attributeBase e f X.env (eval e X.env) = eval e X.env) : PE X (.Attribute e f pos) (tFld K ta f) := by
  subst hk
  exact pe_fld he hb
end
end Kl
set_option maxRecDepth 100000
set_option maxHeartbeats 4000000
namespace Kl
open PySem PySem.Spec PyProof.Rows L2 Gx Mx LamX
/-- the page that a place meets, and what comes of it -/
def pageOf (gs : List Pg) (note : Str) (pool : List Str) : Option Pg := gs.find? fun g => decide (placeP g = (note, pool))
def stepM (M : Mak) (gs : List Pg) (note : Str) (pool : List Str) : List Str × List Str × Str := match pageOf gs note pool with
  | none => (pool, [], note)
  | some g => (restM M g, g.made, g.after)
theorem pageOf_none {gs : List Pg} {p : KW} (h : p ∉ gs.map placeP) : pageOf gs p.1 p.2 = none := by
  unfold pageOf
  rw [List.find?_eq_none]
  intro g m e
  exact h (List.mem_map.mpr ⟨g, m, of_decide_eq_true e⟩)
theorem pageOf_some {gs : List Pg} {g : Pg} (nd : (gs.map placeP).Nodup) (m : g ∈ gs) : pageOf gs g.note g.pool = some g := by
  unfold pageOf
  induction gs with
  | nil => cases m
  | cons x gs ih =>
    rw [List.map_cons, List.nodup_cons] at nd
    rw [List.find?_cons]
    by_cases c : placeP x = (g.note, g.pool)
    · rw [decide_eq_true c]
      rcases List.mem_cons.mp m with rfl | m
      · rfl
      · exact absurd (List.mem_map.mpr ⟨g, m, c.symm⟩) nd.1
    · rw [decide_eq_false c]
      rcases List.mem_cons.mp m with rfl | m
      · exact absurd rfl c
      · exact ih nd.2 m
section
variable {P : Program} {w : World} {K : PySem.W.Frag} {mg : Str → Option Value} {base : Heap}
def spMPool (P : Program) (w : World) (K : PySem.W.Frag) (CM CP CK : Addr) : Sp := fun vs H Q _ => ∃ m kx md leaf M ns gs gs' pp, ∃ q : List Str, vs = [V.ref m, .ref pp] ∧ MachAt P w K CM CP CK H m kx md leaf M ns gs gs' ∧ (∀ z ∈ ns, PyData.strOk z = true) ∧ SqT K H pp (q.map V.str) ∧ goodM 20 q = true ∧ (∀ z ∈ q, z ∈ ns) ∧ ∀ H', Same H H' → Q (.bl true) H'
theorem ok_mpool {CM CP CK f : Addr} {fd : FuncData} (F : Fun K "_is_pool" "Machine._is_pool" s_Machine_is_pool f fd) (T : Top K mg) (TM : Cl_Machine K mg CM) (TK : Cl_Kinds K mg CK) : FnOk P w K mg base CX0 4 f fd ["self", "value"] (spMPool P w K CM CP CK) := by
  obtain ⟨tm, gm⟩ := T.g_LOOSE_DIGIT
  have cs : CalO P w K mg base 3 "is_sorted" ["value", "most"] 1 ["most"] (fun vs zs => vs ++ zs) (spSorted K) := T.d_is_sorted.calO fun f fd F => ok_sorted F T
  have kHas : CalM P w K mg base CK "__contains__" 1 ["self", "value"] (spKHas K CK) := TK.m_contains.cal fun f fd F => ok_khas F T TK
  refine F.ok sc_Machine_is_pool (fun vs H Q E h => ?_) (fun cdv A outer s H vs Q E hr h => ?_)
  · obtain ⟨m, kx, md, leaf, M, ns, gs, gs', pp, q, rfl, _⟩ := h
    rfl
  · obtain ⟨m, kx, md, leaf, M, ns, gs, gs', pp, qs, rfl, hM, hok, hp, hg, hin, q⟩ := h
    refine ⟨_, pss_one (ps_ret (pe_and (pe_calO cs hr (by rfl) (pa_cons (pv 1) pa_nil) (pk_cons (pe_glob (v := .int 20) (by rfl) gm ⟨_, rfl⟩) pk_nil))
      (pe_one (pe_callB (cr_all rfl) (by rfl) T.b_all (by decide +kernel) (pa_cons (pe_lc (own := [("name", 2)]) (g := gName 2) (tt := tYes) rfl sc_Machine_is_pool.nd (pi_tup (pv 1))
        (blkOk_by (N := ["self", "value", "name"]) (sc := defScope s_Machine_is_pool) (by decide +kernel)) (fun _ _ _ _ _ => pg_name (i := 2) sc_Machine_is_pool.nd rfl (.inl rfl)) (fun _ _ _ _ _ => pts_nil)
        (fun _ _ _ _ _ => pe_cmpR (op_inM kHas (hr.mono (by decide))) (pv 2) (pe_fldK (K := K) (by exact rfl) (pv 0) rfl) (by rfl))) pa_nil))))), ?_⟩
    have big : 100000 ≤ sizeLine := by decide
    have l20 : qs.length ≤ 20 := good_len hg
    refine ⟨_, rfl, rfl, rfl, pp, qs, 20, rfl, hp, tyx_sqT hp, by decide, by decide, by omega, fun z hz => Nat.le_trans (name_len (good_names hg z hz)) (by decide), fun H1 s1 => ?_⟩
    have e : (decide ((qs.length : Int) ≤ 20) && (qs.all nameB && sortedS qs)) = true := (goodM_int 20 qs).trans hg
    rw [e]
    refine ⟨_, rfl, ?_⟩
    show (if true = true then _ else _)
    rw [if_pos rfl]
    have hp1 := sqT_same s1 hp
    have hM1 := hM.same s1
    refine ⟨_, rfl, pp, rfl, ⟨_, hp1⟩, fun D hD => ?_⟩
    refine lc_it (g := gName 2) (tt := tYes) (vs := [2]) (walk_tup (K := K) (a := pp) (xs := qs.map V.str)) (fun j G' => G' D = some (.lst (List.replicate j (V.bl true))) ∧ Same H1 G')
      ⟨upd_same, same_new (Same.refl H1) hD⟩ (fun j G' _ h => sqT_same h.2 hp1) (fun j u Gx G' hj h hy => ?_) (fun G' h => ?_)
    · obtain ⟨eD, sm⟩ := h
      obtain ⟨rfl, hu2⟩ := hy
      obtain ⟨z, hz, rfl⟩ := at_texts hu2
      have mz := hin z (List.mem_of_getElem? hz)
      obtain ⟨dm, ld, pd, hx, hKg, _⟩ := hM1.same sm
      obtain ⟨dk, nt, kvs, hk, hk2⟩ := id hKg
      have lj : j < qs.length := (List.getElem?_eq_some_iff.mp hz).1
      refine ⟨rfl, _, rfl, _, rfl, m, CM, dm, _, _, rfl, hx, TM.cl, TM.n_kinds, mf_kinds _ _ _, kx, dk, _, rfl, hk, kx, md, leaf, M, ns, .str z, rfl, hKg, hok, .inl ⟨.str z, .str _, hok z mz, by show 0 ≤ 10; omega, ?_⟩⟩
      rw [any_mem, decide_eq_true mz]
      refine ⟨_, rfl, _, eD, ?_, ?_, fun b o e => by rw [upd_ne (ne_of_none e hD)]; exact sm b o e⟩
      · rw [List.length_replicate]
        omega
      · rw [upd_same]
        show some (HO.lst (List.replicate j (V.bl true) ++ [V.bl true])) = _
        rw [rep_snoc]
    · obtain ⟨eD, sm⟩ := h
      refine ⟨D, List.replicate (qs.map V.str).length true, rfl, .inl (.inl ?_), ?_⟩
      · rw [rep_map] at eD
        exact eD
      · rw [all_true]
        exact q _ (s1.trans sm)
def spMRank (P : Program) (w : World) (K : PySem.W.Frag) (CM CP CK : Addr) : Sp := fun vs H Q _ => ∃ m kx md leaf M ns gs gs' note pp, ∃ pool : List Str, vs = [V.ref m, .str note, .ref pp] ∧ MachAt P w K CM CP CK H m kx md leaf M ns gs gs' ∧ MOk ns M gs gs' ∧ SqT K H pp (pool.map V.str) ∧
  ∀ t a b H', Same H H' → SqT K H' t [.ref a, .ref b, .str (stepM M gs note pool).2.2] → SqT K H' a ((stepM M gs note pool).1.map V.str) → SqT K H' b ((stepM M gs note pool).2.1.map V.str) → Q (.ref t) H'
theorem ok_mrank {CM CP CK f : Addr} {fd : FuncData} (F : Fun K "_at_rank" "Machine._at_rank" s_Machine_at_rank f fd) (T : Top K mg) (TM : Cl_Machine K mg CM) (TC : Cl_Page K mg CP) : FnOk P w K mg base CX0 3 f fd ["self", "note", "pool"] (spMRank P w K CM CP CK) := by
  have kMd : CalP P w K mg base CP "made" 1 (spPMade K CP) := TC.p_made.cal fun f fd F => ok_pmade F TC
  have kA : CalP P w K mg base CP "after" 1 (spPAfter K CP) := TC.p_after.cal fun f fd F => ok_pafter F TC
  refine F.ok sc_Machine_at_rank (fun vs H Q E h => ?_) (fun cdv A outer s H vs Q E hr h => ?_)
  · obtain ⟨m, kx, md, leaf, M, ns, gs, gs', note, pp, pool, rfl, _⟩ := h
    rfl
  · obtain ⟨m, kx, md, leaf, M, ns, gs, gs', note, pp, pool, rfl, hM, hOk, hp, q⟩ := h
    refine ⟨_, pss_cut (ps_set (i := 3) sc_Machine_at_rank.nd rfl (.inl rfl) (pe_nget1 (P := P) (w := w) (K := K) (by exact ⟨rfl, rfl, rfl⟩) (by exact hr.units) (pe_fld (pv 0) rfl) (pe_tup (pa_cons (pv 1) (pa_cons (pv 2) pa_nil))) (by constructor <;> rfl)))
      (pss_cut (ps_if (pt_cmpR op_isN (pv 3) pe_non (nomark _)) (pss_one (ps_ret (pe_tup (pa_cons (pv 2) (pa_cons (pe_tup pa_nil) (pa_cons (pv 1) pa_nil)))))) pss_nil)
      (pss_one (ps_ret (pe_tup (pa_cons (pe_nget (P := P) (w := w) (K := K) (by exact ⟨rfl, rfl, rfl⟩) (by exact hr.units) (pe_fld (pv 0) rfl) (pe_tup (pa_cons (pv 1) (pa_cons (pv 2) pa_nil))) (by intro _ _; rfl))
        (pa_cons (pe_propC (pv 3) TC.cl kMd (hr.mono (by decide)) rfl) (pa_cons (pe_propC (pv 3) TC.cl kA (hr.mono (by decide)) rfl) pa_nil))))))), ?_⟩
    have big : 100000 ≤ sizeLine := by decide
    obtain ⟨dm, ld, pd, hx, hK, ⟨LL, el, hL⟩, ⟨LP, ep, hP⟩⟩ := id hM
    -- the page
    refine ⟨fun σ' G => ∃ v : V, σ' = [some (.ref m), some (.str note), some (.ref pp), some v] ∧ v = (getN LP (keyK (note, pool))).getD .non ∧ Same H G, ?_, ?_⟩
    · refine ⟨_, rfl, m, CM, dm, _, _, rfl, hx, TM.cl, TM.n_pages, mf_pages _ _ _, pd, LP, rfl, .inl ep, _, rfl, _, rfl, by show 2 ≤ sizeLine; omega, fun t nt => ?_⟩
      have s1 := same_new (o := .tup [V.str note, V.ref pp]) (Same.refl H) nt
      have et : (upd H t (.tup [V.str note, V.ref pp])) t = some (.tup [V.str note, V.ref pp]) := upd_same
      generalize upd H t (.tup [V.str note, V.ref pp]) = G1 at *
      exact ⟨t, LP, keyK (note, pool), rfl, ⟨.inl (s1 _ _ ep), fun e m => keyA_same s1 (hP.all e m)⟩, keyK_mk (SqT.of et) (sqT_same s1 hp), _, rfl, rfl, s1⟩
    rintro σ' G1 ⟨v, rfl, ev, s1⟩
    have hp1 := sqT_same s1 hp
    rcases hP.of_key hOk.nd' (note, pool) with ⟨no, e0⟩ | ⟨g, mg', eg, v', e1, x, rfl, hG⟩
    · rw [e0] at ev
      have ev : v = .non := ev
      subst ev
      have no' : (note, pool) ∉ gs.map placeP := fun m => no ((hOk.pm.map placeP).mem_iff.mpr m)
      have est : stepM M gs note pool = (pool, [], note) := by
        unfold stepM
        rw [pageOf_none no']
      rw [est] at q
      refine ⟨fun _ _ => False, ?_, fun _ _ h => h.elim⟩
      refine ⟨_, rfl, rfl, _, rfl, ite2 (fun c => ?_) (fun c => absurd (decide_eq_true rfl) c)⟩
      refine ⟨_, rfl, Nat.zero_le _, fun b nb => ?_⟩
      have s2 := same_new (o := .tup []) (Same.refl G1) nb
      have eb : (upd G1 b (.tup [])) b = some (.tup []) := upd_same
      generalize upd G1 b (.tup []) = G2 at *
      refine ⟨_, rfl, by show 3 ≤ sizeLine; omega, fun t nt => ?_⟩
      have s3 := same_new (o := .tup [V.ref pp, V.ref b, V.str note]) (Same.refl G2) nt
      exact q t pp b _ (s1.trans (s2.trans s3)) (SqT.of upd_same) (sqT_same (s2.trans s3) hp1) (SqT.of (s3 _ _ eb))
    · rw [e1] at ev
      have ev : v = .ref x := ev
      subst ev
      have mgs : g ∈ gs := hOk.pm.mem_iff.mp mg'
      have en : g.note = note := congrArg Prod.fst eg
      have eq : g.pool = pool := congrArg Prod.snd eg
      have est : stepM M gs note pool = (restM M g, g.made, g.after) := by
        unfold stepM
        rw [← en, ← eq, pageOf_some hOk.nd mgs]
      rw [est] at q
      refine ⟨fun σ' G => σ' = [some (.ref m), some (.str note), some (.ref pp), some (.ref x)] ∧ G = G1, ?_, ?_⟩
      · refine ⟨_, rfl, rfl, _, rfl, ite2 (fun c => ?_) (fun c => ⟨rfl, rfl⟩)⟩
        simp at c
      rintro σ' G ⟨rfl, rfl⟩
      obtain ⟨v2, e2, a, rfl, ha⟩ := hL.get hOk.nd mgs
      rw [eg] at e2
      refine ⟨_, rfl, m, CM, dm, _, _, rfl, s1 _ _ hx, TM.cl, TM.n_left, mf_left _ _ _, _, rfl, _, rfl, by show 2 ≤ sizeLine; omega, fun t nt => ?_⟩
      have s2 := same_new (o := .tup [V.str note, V.ref pp]) (Same.refl G) nt
      have et : (upd G t (.tup [V.str note, V.ref pp])) t = some (.tup [V.str note, V.ref pp]) := upd_same
      generalize upd G t (.tup [V.str note, V.ref pp]) = G2 at *
      have s12 := s1.trans s2
      refine ⟨ld, t, LL, keyK (note, pool), .ref a, rfl, rfl, ⟨.inl (s12 _ _ el), fun e m => keyA_same s12 (hL.all e m)⟩, keyK_mk (SqT.of et) (sqT_same s2 hp1), e2, ?_⟩
      have hG2 := hG.same s12
      obtain ⟨dx, pp', mp, hxx, _⟩ := id hG2
      refine ⟨_, rfl, x, dx, _, rfl, hxx, x, g, rfl, hG2, fun mp' hmp' => ?_⟩
      refine ⟨_, rfl, x, dx, _, rfl, hxx, x, g, rfl, hG2, by show 3 ≤ sizeLine; omega, fun t2 nt2 => ?_⟩
      have s3 := same_new (o := .tup [V.ref a, V.ref mp', V.str g.after]) (Same.refl G2) nt2
      exact q t2 a mp' _ (s12.trans s3) (SqT.of upd_same) (sqT_same (s12.trans s3) ha) (sqT_same s3 hmp')
def spMStep (P : Program) (w : World) (K : PySem.W.Frag) (CM CP CK : Addr) : Sp := fun vs H Q _ => ∃ m kx md leaf M ns gs gs' note pp, ∃ pool : List Str, vs = [V.ref m, .str note, .ref pp] ∧ MachAt P w K CM CP CK H m kx md leaf M ns gs gs' ∧ MOk ns M gs gs' ∧ (∀ z ∈ ns, PyData.strOk z = true) ∧ nameB note = true ∧ SqT K H pp (pool.map V.str) ∧ goodM 20 pool = true ∧ (∀ z ∈ pool, z ∈ ns) ∧
  ∀ t a b H', Same H H' → SqT K H' t [.ref a, .ref b, .str (stepM M gs note pool).2.2] → SqT K H' a ((stepM M gs note pool).1.map V.str) → SqT K H' b ((stepM M gs note pool).2.1.map V.str) → Q (.ref t) H'
theorem ok_mstep {CM CP CK f : Addr} {fd : FuncData} (F : Fun K "step" "Machine.step" s_Machine_step f fd) (T : Top K mg) (TM : Cl_Machine K mg CM) (TC : Cl_Page K mg CP) (TK : Cl_Kinds K mg CK) : FnOk P w K mg base CX0 6 f fd ["self", "note", "pool"] (spMStep P w K CM CP CK) := by
  have cn : Cal P w K mg base 5 "is_name" ["value"] (spName K) := (T.d_is_name.cal fun f fd F => ok_name F T).mono (by decide)
  have kPo : CalM P w K mg base CM "_is_pool" 4 ["self", "value"] (spMPool P w K CM CP CK) := TM.m_is_pool.cal fun f fd F => ok_mpool F T TM TK
  have kAt : CalM P w K mg base CM "_at_rank" 3 ["self", "note", "pool"] (spMRank P w K CM CP CK) := TM.m_at_rank.cal fun f fd F => ok_mrank F T TM TC
  refine F.ok sc_Machine_step (fun vs H Q E h => ?_) (fun cdv A outer s H vs Q E hr h => ?_)
  · obtain ⟨m, kx, md, leaf, M, ns, gs, gs', note, pp, pool, rfl, _⟩ := h
    rfl
  · obtain ⟨m, kx, md, leaf, M, ns, gs, gs', note, pp, pool, rfl, hM, hOk, hok, hn, hp, hg, hin, q⟩ := h
    refine ⟨_, pss_cut (ps_if (pt_not (pt_val (pe_cal cn hr (by rfl) (pa_cons (pv 1) pa_nil)))) (pss_one ps_never) pss_nil)
      (pss_cut (ps_if (pt_not (pt_val (pe_methC (pl := _) (pv 0) TM.cl kPo (hr.mono (by decide)) (pa_cons (pv 2) pa_nil)))) (pss_one ps_never) pss_nil)
      (pss_one (ps_ret (pe_methC (pl := _) (pv 0) TM.cl kAt (hr.mono (by decide)) (pa_cons (pv 1) (pa_cons (pv 2) pa_nil)))))), ?_⟩
    obtain ⟨dm, ld, pd, hx, _⟩ := id hM
    refine ⟨fun σ' G => σ' = [some (.ref m), some (.str note), some (.ref pp)] ∧ G = H, ?_, ?_⟩
    · refine ⟨_, rfl, .str note, rfl, name_arg (Nat.le_trans (name_len hn) (by decide)), _, rfl, ?_⟩
      show (if (!nameB note) = true then _ else _)
      rw [hn, if_neg (by decide)]
      exact ⟨rfl, rfl⟩
    rintro σ' G ⟨rfl, rfl⟩
    refine ⟨fun σ' G' => σ' = [some (.ref m), some (.str note), some (.ref pp)] ∧ Same G G', ?_, ?_⟩
    · refine ⟨_, rfl, m, dm, _, rfl, hx, mf_no _ _ _ (by decide +kernel) (by decide +kernel) (by decide +kernel), _, rfl, m, kx, md, leaf, M, ns, gs, gs', pp, pool, rfl, hM, hok, hp, hg, hin, fun H' s => ⟨_, rfl, ?_⟩⟩
      show (if (!true) = true then _ else _)
      rw [if_neg (by decide)]
      exact ⟨rfl, s⟩
    rintro σ' G1 ⟨rfl, s1⟩
    refine ⟨_, rfl, m, dm, _, rfl, s1 _ _ hx, mf_no _ _ _ (by decide +kernel) (by decide +kernel) (by decide +kernel), _, rfl, _, rfl, m, kx, md, leaf, M, ns, gs, gs', note, pp, pool, rfl, hM.same s1, hOk, sqT_same s1 hp, fun t a b H' s h1 h2 h3 => q t a b H' (s1.trans s) h1 h2 h3⟩
end
end Kl
set_option maxRecDepth 100000
set_option maxHeartbeats 4000000
set_option maxRecDepth 100000
set_option maxHeartbeats 4000000
namespace Kl
open PySem PySem.Spec PyProof.Rows L2 Gx Mx
section
variable {X : Cx}
theorem call_tupleZ : CallR X (.type "tuple") (fun xs H Q => ∃ p ys, xs = [.ref p] ∧ SqL X.K H p ys ∧ ∀ l H', TupZ H' l ys → H l = none → (∀ b, b ≠ l → H' b = H b) → Q (.ref l) H') := by
  intro pins s σ H xs us Q I r h
  obtain ⟨p, ys, rfl, hq, q⟩ := h
  obtain ⟨u, rfl, rx⟩ := vals1 r
  cases rx
  obtain ⟨its, r', pl, hz⟩ := I.list hq
  have hlen := r'.length
  refine call_tuple_list pl.isList (fun h' kp => ?_) (by simp only [List.size_toArray] <;> omega)
  have I1 : Inv X pins σ H { s with heap := h' } := I.kept (t' := s.toks) kp
  have I2 : Inv X pins σ (upd H h'.objs.size (.frz { cls := .type "tuple", data := .seq its.toArray } (.tup ys))) { s with heap := h'.push { cls := .type "tuple", data := .seq its.toArray } } :=
    I1.laid (t' := s.toks) (fun b o e => Heap.get?_push_of_some _ e) (Nat.le_refl _) (show ObjOk X.prog X.w _ _ _ (.frz _ (.tup ys)) from ⟨Heap.get?_push_size _ rfl, hz, its, r', IsTup.new _ _⟩)
  exact ⟨.ref h'.objs.size, _, I2, rfl, q _ _ ⟨_, rfl, upd_same⟩ (I1.hok.fresh (Nat.le_refl _)) (fun b n => upd_ne n)⟩
end
/-- the digit with a text -/
def cutD (z : Str) : List Str := if z = "0" then [] else Txt.split z "+"
theorem cut_text {q : List Str} (h : ∀ z ∈ q, nameB z = true) : cutD (textD q) = q := by
  unfold cutD textD
  by_cases c : q = []
  · rw [if_pos c, if_pos rfl, c]
  · rw [if_neg c]
    have s := split_names h c
    rw [if_neg (fun e => ?_), s]
    rw [e] at s
    have s0 : Txt.split ("0" : Str) "+" = (["0"] : List Str) := by decide +kernel
    rw [s0] at s
    have := h "0" (by rw [← s]; exact List.mem_singleton_self _)
    revert this
    decide +kernel
section
variable {P : Program} {w : World} {K : PySem.W.Frag} {mg : Str → Option Value} {base : Heap}
def spDG (K : PySem.W.Frag) : Sp := fun vs H Q _ => ∃ z : Str, vs = [V.str z] ∧ z.length ≤ 4000 ∧ ∀ t H', Same H H' → SqT K H' t ((cutD z).map V.str) → (z ≠ "0" → TupZ H' t ((cutD z).map V.str)) → Q (.ref t) H'
theorem ok_dg {f : Addr} {fd : FuncData} (F : Fun K "_law_digit" "_law_digit" s_law_digit f fd) (T : Top K mg) : FnOk P w K mg base CX0 1 f fd ["_law_text"] (spDG K) := by
  refine F.ok sc_law_digit (fun vs H Q E h => ?_) (fun cdv A outer s H vs Q E hr h => ?_)
  · obtain ⟨z, rfl, _⟩ := h
    rfl
  · obtain ⟨z, rfl, hz, q⟩ := h
    refine ⟨_, pss_one (ps_ret (pe_ifExp (pt_cmpR op_ne (pv 0) pe_str (nomark _)) (pe_callTy call_tupleZ (by rfl) T.b_tuple (by decide +kernel) (pa_cons (pe_split (pv 0) pe_str) pa_nil)) (pe_tup pa_nil))), ?_⟩
    have big : 100000 ≤ sizeLine := by decide
    unfold cutD at q
    refine ⟨_, rfl, rfl, _, rfl, ite2 (fun c => ?_) (fun c => ?_)⟩
    · have ez : z ≠ "0" := fun h => by
        rw [h] at c
        exact absurd c (by decide +kernel)
      rw [if_neg ez] at q
      refine ⟨_, rfl, ⟨_, rfl⟩, z, _, rfl, rfl, rfl, by omega, fun l nl => ?_⟩
      have s1 := same_new (o := .lst ((Txt.split z "+").map V.str)) (Same.refl H) nl
      refine ⟨l, _, rfl, .inl (.inl upd_same), fun t H' ht nt hs => ?_⟩
      refine q t H' (s1.trans fun b o e => ?_) ht.sq (fun _ => ht)
      rw [hs b (ne_of_none e nt)]
      exact e
    · have ez : z = "0" := by
        by_cases h : z = "0"
        · exact h
        · exact absurd (show (!decide (V.str z = V.str "0")) = true by rw [decide_eq_false (fun e => h (V.str.inj e))]; rfl) c
      rw [if_pos ez] at q
      exact ⟨Nat.zero_le _, fun p np => q p _ (same_new (Same.refl H) np) (.inl (.inl upd_same)) (fun h => absurd ez h)⟩
end
end Kl
set_option maxRecDepth 100000
set_option maxHeartbeats 4000000
namespace Kl
open PySem PySem.Spec PyProof.Rows L2 Gx Mx
theorem iteT {c A B : Prop} [Decidable c] (h : c) (a : A) : if c then A else B := by rw [if_pos h]; exact a
theorem iteF {c A B : Prop} [Decidable c] (h : ¬ c) (b : B) : if c then A else B := by rw [if_neg h]; exact b
inductive PLine where
  | leaf (a : Str)
  | first (a : Str)
  | ends (as : List Str)
  | kind (a : Str) (d : List Str)
  | read (n : Str) (d : List Str) (r : Str)
  | start (a n : Str)
  | page (g : Pg)
deriving DecidableEq
def wordsL : PLine → List Str
  | .leaf a => ["leaf", a]
  | .first a => ["first", a]
  | .ends as => "ends" :: as
  | .kind a d => ["kind", a, textD d]
  | .read n d r => ["read", n, textD d, r]
  | .start a n => ["start", a, n]
  | .page g => wordsP g
def headW : PLine → Str
  | .leaf _ => "leaf"
  | .first _ => "first"
  | .ends _ => "ends"
  | .kind _ _ => "kind"
  | .read _ _ _ => "read"
  | .start _ _ => "start"
  | .page _ => "page"
theorem head_at (l : PLine) : (wordsL l)[0]? = some (headW l) := by cases l <;> rfl
def showL (l : PLine) : Str := Txt.join " " (wordsL l)
def allN (d : List Str) : Bool := d.all nameB && decide (d.length ≤ 60)
def LnOk : PLine → Bool
  | .leaf a => nameB a
  | .first a => nameB a
  | .ends as => allN as
  | .kind a d => nameB a && (allN d && decide (d ≠ []))
  | .read n d r => nameB n && (allN d && nameB r)
  | .start a n => nameB a && nameB n
  | .page g => nameB g.note && (allN g.pool && (allN g.made && nameB g.after))
theorem allN_names {d : List Str} (h : allN d = true) : ∀ z ∈ d, nameB z = true := by
  unfold allN at h
  rw [Bool.and_eq_true] at h
  exact fun z m => List.all_eq_true.mp h.1 z m
theorem no32_n {z : Str} (h : nameB z = true) : 32 ∉ z.cps.toList := fun hc => by
  have := low_no h hc
  omega
theorem no32_d {d : List Str} (h : allN d = true) : 32 ∉ (textD d).cps.toList := fun hc => by
  have := textD_no (allN_names h) 32 hc
  omega
theorem words_no32 {l : PLine} (h : LnOk l = true) : ∀ z ∈ wordsL l, 32 ∉ z.cps.toList := by
  intro z m
  cases l with
  | leaf a =>
    simp only [wordsL, List.mem_cons, List.not_mem_nil, or_false] at m
    rcases m with rfl | rfl
    · decide +kernel
    · exact no32_n h
  | first a =>
    simp only [wordsL, List.mem_cons, List.not_mem_nil, or_false] at m
    rcases m with rfl | rfl
    · decide +kernel
    · exact no32_n h
  | ends as =>
    simp only [wordsL, List.mem_cons] at m
    rcases m with rfl | m
    · decide +kernel
    · exact no32_n (allN_names h z m)
  | kind a d =>
    simp only [LnOk, Bool.and_eq_true] at h
    simp only [wordsL, List.mem_cons, List.not_mem_nil, or_false] at m
    rcases m with rfl | rfl | rfl
    · decide +kernel
    · exact no32_n h.1
    · exact no32_d h.2.1
  | read n d r =>
    simp only [LnOk, Bool.and_eq_true] at h
    simp only [wordsL, List.mem_cons, List.not_mem_nil, or_false] at m
    rcases m with rfl | rfl | rfl | rfl
    · decide +kernel
    · exact no32_n h.1
    · exact no32_d h.2.1
    · exact no32_n h.2.2
  | start a n =>
    simp only [LnOk, Bool.and_eq_true] at h
    simp only [wordsL, List.mem_cons, List.not_mem_nil, or_false] at m
    rcases m with rfl | rfl | rfl
    · decide +kernel
    · exact no32_n h.1
    · exact no32_n h.2
  | page g =>
    simp only [LnOk, Bool.and_eq_true] at h
    simp only [wordsL, wordsP, List.mem_cons, List.not_mem_nil, or_false] at m
    rcases m with rfl | rfl | rfl | rfl | rfl | rfl | rfl
    · decide +kernel
    · exact no32_n h.1
    · exact no32_d h.2.1
    · decide +kernel
    · exact no32_d h.2.2.1
    · decide +kernel
    · exact no32_n h.2.2.2
theorem words_ne (l : PLine) : wordsL l ≠ [] := by
  cases l <;> exact List.cons_ne_nil _ _
theorem show_split {l : PLine} (h : LnOk l = true) : Txt.split (showL l) " " = wordsL l :=
  TL.split_join (s := 32) (S := []) (by decide +kernel) (by decide +kernel) (words_ne l) (words_no32 h)
theorem textN_len {d : List Str} (h : allN d = true) : (textD d).length ≤ 900 := by
  have hn := allN_names h
  have hl : d.length ≤ 60 := by
    unfold allN at h
    rw [Bool.and_eq_true] at h
    exact of_decide_eq_true h.2
  unfold textD
  split
  · have : ("0" : Str).length = 1 := by decide +kernel
    rw [this]
    omega
  · rw [TL.join_eq]
    have h1 := StrLaws.join_length_le "+" d
    have h3 : (d.map (·.length)).sum ≤ d.length * 8 := sum_by fun z hz => name_len (hn z hz)
    have h4 : ("+" : Str).length = 1 := by decide +kernel
    rw [h4] at h1
    omega
theorem word_len {l : PLine} (h : LnOk l = true) : ∀ z ∈ wordsL l, z.length ≤ 900 := by
  have nl : ∀ {z : Str}, nameB z = true → z.length ≤ 900 := fun h => by have := name_len h; omega
  intro z m
  cases l with
  | leaf a =>
    simp only [wordsL, List.mem_cons, List.not_mem_nil, or_false] at m
    rcases m with rfl | rfl
    · decide +kernel
    · exact nl h
  | first a =>
    simp only [wordsL, List.mem_cons, List.not_mem_nil, or_false] at m
    rcases m with rfl | rfl
    · decide +kernel
    · exact nl h
  | ends as =>
    simp only [wordsL, List.mem_cons] at m
    rcases m with rfl | m
    · decide +kernel
    · exact nl (allN_names h z m)
  | kind a d =>
    simp only [LnOk, Bool.and_eq_true] at h
    simp only [wordsL, List.mem_cons, List.not_mem_nil, or_false] at m
    rcases m with rfl | rfl | rfl
    · decide +kernel
    · exact nl h.1
    · exact textN_len h.2.1
  | read n d r =>
    simp only [LnOk, Bool.and_eq_true] at h
    simp only [wordsL, List.mem_cons, List.not_mem_nil, or_false] at m
    rcases m with rfl | rfl | rfl | rfl
    · decide +kernel
    · exact nl h.1
    · exact textN_len h.2.1
    · exact nl h.2.2
  | start a n =>
    simp only [LnOk, Bool.and_eq_true] at h
    simp only [wordsL, List.mem_cons, List.not_mem_nil, or_false] at m
    rcases m with rfl | rfl | rfl
    · decide +kernel
    · exact nl h.1
    · exact nl h.2
  | page g =>
    simp only [LnOk, Bool.and_eq_true] at h
    simp only [wordsL, wordsP, List.mem_cons, List.not_mem_nil, or_false] at m
    rcases m with rfl | rfl | rfl | rfl | rfl | rfl | rfl
    · decide +kernel
    · exact nl h.1
    · exact textN_len h.2.1
    · decide +kernel
    · exact textN_len h.2.2.1
    · decide +kernel
    · exact nl h.2.2.2
theorem words_few {l : PLine} (h : LnOk l = true) : (wordsL l).length ≤ 61 := by
  cases l with
  | ends as =>
    have h : allN as = true := h
    unfold allN at h
    rw [Bool.and_eq_true] at h
    have := of_decide_eq_true h.2
    show as.length + 1 ≤ 61
    omega
  | leaf a => show 2 ≤ 61; omega
  | first a => show 2 ≤ 61; omega
  | kind a d => show 3 ≤ 61; omega
  | read n d r => show 4 ≤ 61; omega
  | start a n => show 3 ≤ 61; omega
  | page g => show 7 ≤ 61; omega
theorem show_len {l : PLine} (h : LnOk l = true) : (showL l).length ≤ 60000 := by
  unfold showL
  rw [TL.join_eq]
  have h1 := StrLaws.join_length_le " " (wordsL l)
  have h3 : ((wordsL l).map (·.length)).sum ≤ (wordsL l).length * 900 := sum_by fun z hz => word_len h z hz
  have h4 : (" " : Str).length = 1 := by decide +kernel
  have h5 := words_few h
  rw [h4] at h1
  omega
structure Bk where
  leaf : Str
  maks : Mak
  first : Str
  ends : List Str
  rd : List Pg
  st : List (Str × Str)
  pg : List Pg
def S0 : Bk := ⟨"", [], "", [], [], [], []⟩
def stepP (S : Bk) : PLine → Bk
  | .leaf a => { S with leaf := a }
  | .first a => { S with first := a }
  | .ends as => { S with ends := as }
  | .kind a d => { S with maks := S.maks ++ [(a, d)] }
  | .read n d r => { S with rd := S.rd ++ [⟨n, d, [], r⟩] }
  | .start a n => { S with st := S.st ++ [(a, n)] }
  | .page g => { S with pg := S.pg ++ [g] }
def stOf (ls : List PLine) : Bk := ls.foldl stepP S0
theorem stOf_snoc (ls : List PLine) (l : PLine) : stOf (ls ++ [l]) = stepP (stOf ls) l := by
  unfold stOf
  rw [List.foldl_append]
  rfl
theorem step_len {S : Bk} {n : Nat} (l : PLine) (h : S.maks.length ≤ n ∧ S.rd.length ≤ n ∧ S.st.length ≤ n ∧ S.pg.length ≤ n) : (stepP S l).maks.length ≤ n + 1 ∧ (stepP S l).rd.length ≤ n + 1 ∧ (stepP S l).st.length ≤ n + 1 ∧ (stepP S l).pg.length ≤ n + 1 := by
  cases l <;> simp only [stepP, List.length_append, List.length_cons, List.length_nil] <;> omega
theorem fold_len : ∀ (ls : List PLine) (S : Bk) (n : Nat), (S.maks.length ≤ n ∧ S.rd.length ≤ n ∧ S.st.length ≤ n ∧ S.pg.length ≤ n) → (ls.foldl stepP S).maks.length ≤ n + ls.length ∧ (ls.foldl stepP S).rd.length ≤ n + ls.length ∧ (ls.foldl stepP S).st.length ≤ n + ls.length ∧ (ls.foldl stepP S).pg.length ≤ n + ls.length
  | [], _, _, h => h
  | l :: ls, S, n, h => by
    have := fold_len ls (stepP S l) (n + 1) (step_len l h)
    rw [List.length_cons]
    rw [show n + (ls.length + 1) = n + 1 + ls.length by omega]
    exact this
theorem stOf_len (ls : List PLine) : (stOf ls).maks.length ≤ ls.length ∧ (stOf ls).rd.length ≤ ls.length ∧ (stOf ls).st.length ≤ ls.length ∧ (stOf ls).pg.length ≤ ls.length := by
  have := fold_len ls S0 0 ⟨Nat.le_refl _, Nat.le_refl _, Nat.le_refl _, Nat.le_refl _⟩
  rw [Nat.zero_add] at this
  exact this
/-- no key is told twice -/
structure NdS (S : Bk) : Prop where
  maks : (keysOf S.maks).Nodup
  rd : (S.rd.map placeP).Nodup
  st : (S.st.map (·.1)).Nodup
  pg : (S.pg.map placeP).Nodup
instance (S : Bk) : Decidable (NdS S) := decidable_of_iff ((keysOf S.maks).Nodup ∧ (S.rd.map placeP).Nodup ∧ (S.st.map (·.1)).Nodup ∧ (S.pg.map placeP).Nodup) ⟨fun ⟨a, b, c, d⟩ => ⟨a, b, c, d⟩, fun ⟨a, b, c, d⟩ => ⟨a, b, c, d⟩⟩
theorem nd_step {S : Bk} {l : PLine} (h : NdS (stepP S l)) : NdS S := by
  have app : ∀ {α : Type} {xs : List α} {x : α}, (xs ++ [x]).Nodup → xs.Nodup := fun h => (List.nodup_append.mp h).1
  obtain ⟨a, b, c, d⟩ := h
  cases l with
  | kind n q =>
    have a : ((S.maks ++ [(n, q)]).map (·.1)).Nodup := a
    rw [List.map_append] at a
    exact ⟨app a, b, c, d⟩
  | read n q r =>
    have b : ((S.rd ++ [_]).map placeP).Nodup := b
    rw [List.map_append] at b
    exact ⟨a, app b, c, d⟩
  | start n q =>
    have c : ((S.st ++ [(n, q)]).map (·.1)).Nodup := c
    rw [List.map_append] at c
    exact ⟨a, b, app c, d⟩
  | page g =>
    have d : ((S.pg ++ [g]).map placeP).Nodup := d
    rw [List.map_append] at d
    exact ⟨a, b, c, app d⟩
  | leaf n => exact ⟨a, b, c, d⟩
  | first n => exact ⟨a, b, c, d⟩
  | ends n => exact ⟨a, b, c, d⟩
theorem nd_fold : ∀ (ls : List PLine) (S : Bk), NdS (ls.foldl stepP S) → NdS S
  | [], _, h => h
  | l :: ls, S, h => nd_step (nd_fold ls (stepP S l) h)
theorem nd_take {ls : List PLine} (h : NdS (stOf ls)) (j : Nat) : NdS (stOf (ls.take j)) := by
  have e : stOf ls = (ls.drop j).foldl stepP (stOf (ls.take j)) := by
    unfold stOf
    rw [← List.foldl_append, List.take_append_drop]
  rw [e] at h
  exact nd_fold _ _ h
abbrev RTx : Hp → V → Pg → Prop := fun _ v g => v = .str g.after
abbrev RVal (K : PySem.W.Frag) : Hp → V → Pg → Prop := fun H v g => ∃ t m, v = .ref t ∧ SqT K H t [.ref m, .str g.after] ∧ SqT K H m (g.made.map V.str)
abbrev kvP (leaf : Str) (m : Addr) (first : Str) (e r s g : Addr) : List (Key × V) :=
  [(Sum.inr "leaf", .str leaf), (Sum.inr "makings", .ref m), (Sum.inr "first", .str first), (Sum.inr "ends", .ref e), (Sum.inr "reads", .ref r), (Sum.inr "starts", .ref s), (Sum.inr "pages", .ref g)]
abbrev stK (st : List (Str × Str)) : List (Key × V) := st.map fun x => ((Sum.inr x.1 : Key), V.str x.2)
section
variable {leaf first : Str} {m e r s g : Addr}
theorem kvP_leaf (a : Str) : putK (kvP leaf m first e r s g) (Sum.inr "leaf") (.str a) = kvP a m first e r s g := by kernel_rfl
theorem kvP_first (a : Str) : putK (kvP leaf m first e r s g) (Sum.inr "first") (.str a) = kvP leaf m a e r s g := by kernel_rfl
theorem kvP_ends (a : Addr) : putK (kvP leaf m first e r s g) (Sum.inr "ends") (.ref a) = kvP leaf m first a r s g := by kernel_rfl
theorem kvP_l : valV (kvP leaf m first e r s g) (Sum.inr "leaf") = some (.str leaf) := by kernel_rfl
theorem kvP_m : valV (kvP leaf m first e r s g) (Sum.inr "makings") = some (.ref m) := by kernel_rfl
theorem kvP_r : valV (kvP leaf m first e r s g) (Sum.inr "reads") = some (.ref r) := by kernel_rfl
theorem kvP_s : valV (kvP leaf m first e r s g) (Sum.inr "starts") = some (.ref s) := by kernel_rfl
theorem kvP_g : valV (kvP leaf m first e r s g) (Sum.inr "pages") = some (.ref g) := by kernel_rfl
end
structure PlainIn (P : Program) (w : World) (K : PySem.W.Frag) (H : Hp) (p m e r s g : Addr) (S : Bk) : Prop where
  hp : H p = some (.dK (kvP S.leaf m S.first e r s g))
  hm : ∃ kvs, H m = some (.dK kvs) ∧ MakAt H kvs S.maks
  he : H e = some (.lst (S.ends.map V.str))
  hr : PlDict RTx P w K H r S.rd
  hs : H s = some (.dK (stK S.st))
  hg : PlDict (RVal K) P w K H g S.pg
  mp : m ≠ p
  sp : s ≠ p
  ms : m ≠ s
  rg : r ≠ g
/-- what the lines tell stands at p -/
def PlainAt (P : Program) (w : World) (K : PySem.W.Frag) (H : Hp) (p : Addr) (S : Bk) : Prop := ∃ m e r s g, PlainIn P w K H p m e r s g S
theorem sqL_go {K : PySem.W.Frag} {H H' : Hp} {a : Addr} {xs : List V} (s : Same H H') (h : SqL K H a xs) : SqL K H' a xs := by
  rcases h with (h | ⟨o, h⟩) | h
  · exact .inl (.inl (s _ _ h))
  · exact .inl (.inr ⟨o, s _ _ h⟩)
  · exact .inr h
theorem PlDict.go {R : Hp → V → Pg → Prop} {P : Program} {w : World} {K : PySem.W.Frag} {H H' : Hp} {d : Addr} {gs : List Pg} (h : PlDict R P w K H d gs) (sd : ∀ o, H d = some o → H' d = some o) (sq : ∀ a xs, SqT K H a xs → SqT K H' a xs) (r : ∀ v g, R H v g → R H' v g) : PlDict R P w K H' d gs := by
  obtain ⟨L, e, hL⟩ := h
  exact ⟨L, sd _ e, hL.mono sq r⟩
theorem rval_go {K : PySem.W.Frag} {H H' : Hp} (sq : ∀ a xs, SqT K H a xs → SqT K H' a xs) {v : V} {g : Pg} (h : RVal K H v g) : RVal K H' v g := by
  obtain ⟨t, m, e, h1, h2⟩ := h
  exact ⟨t, m, e, sq _ _ h1, sq _ _ h2⟩
/-- all but one object, which is no tuple, stays -/
structure ButD (x : Addr) (H H' : Hp) : Prop where
  s : ∀ b o, b ≠ x → H b = some o → H' b = some o
  t : ∀ xs, H x ≠ some (.tup xs)
  f : ∀ o xs, H x ≠ some (.frz o (.tup xs))
theorem ButD.sq {K : PySem.W.Frag} {x : Addr} {H H' : Hp} (h : ButD x H H') (a : Addr) (xs : List V) (q : SqT K H a xs) : SqT K H' a xs := by
  rcases q with (q | ⟨o, q⟩) | q
  · exact .inl (.inl (h.s _ _ (fun z => h.t xs (by rw [← z]; exact q)) q))
  · exact .inl (.inr ⟨o, h.s _ _ (fun z => h.f o xs (by rw [← z]; exact q)) q⟩)
  · exact .inr q
theorem ButD.tz {x : Addr} {H H' : Hp} (h : ButD x H H') (a : Addr) (xs : List V) (q : TupZ H a xs) : TupZ H' a xs := by
  obtain ⟨ob, hd, e⟩ := q
  exact ⟨ob, hd, h.s _ _ (fun z => h.f ob xs (by rw [← z]; exact e)) e⟩
theorem butD_of {x : Addr} {H H' : Hp} {u : HO} (s : ∀ b o, b ≠ x → H b = some o → H' b = some o) (e : H x = some u) (t : ∀ xs, u ≠ .tup xs) (f : ∀ o xs, u ≠ .frz o (.tup xs)) : ButD x H H' :=
  ⟨s, fun xs q => t xs (by rw [e] at q; exact Option.some.inj q), fun o xs q => f o xs (by rw [e] at q; exact Option.some.inj q)⟩
theorem MakAt.snoc {H : Hp} {t : Addr} {a : Str} {d : List Str} (ht : TupZ H t (d.map V.str)) : ∀ {kvs : List (Key × V)} {M : Mak}, MakAt H kvs M → MakAt H (kvs ++ [(Sum.inr a, .ref t)]) (M ++ [(a, d)])
  | _, _, .nil => .cons ⟨rfl, t, rfl, ht⟩ .nil
  | _, _, .cons h q => .cons h (MakAt.snoc ht q)
theorem MakAt.no {H : Hp} {kvs : List (Key × V)} {M : Mak} (h : MakAt H kvs M) {a : Str} (n : a ∉ keysOf M) : valV kvs (Sum.inr a) = none := by
  rcases h.get a with ⟨_, e⟩ | ⟨ps, t, e, _⟩
  · exact e
  · rw [lookM_none.mpr n] at e
    cases e
theorem stK_no : ∀ {st : List (Str × Str)} {a : Str}, a ∉ st.map (·.1) → valV (stK st) (Sum.inr a) = none
  | [], _, _ => rfl
  | x :: st, a, n => by
    rw [List.map_cons] at n
    have n1 : a ≠ x.1 := fun e => n (by rw [e]; exact List.mem_cons_self)
    show valV (((Sum.inr x.1 : Key), V.str x.2) :: stK st) (Sum.inr a) = none
    rw [valV_neg (fun e => n1 (Sum.inr.inj e).symm)]
    exact stK_no fun m => n (List.mem_cons_of_mem _ m)
theorem last_no {α : Type} {xs : List α} {x : α} (h : (xs ++ [x]).Nodup) : x ∉ xs := fun m => (List.nodup_append.mp h).2.2 x m x (List.mem_singleton_self x) rfl
section
variable {P : Program} {w : World} {K : PySem.W.Frag} {H H' : Hp} {p m e r s g : Addr} {S : Bk}
theorem PlainIn.same (h : PlainIn P w K H p m e r s g S) (sm : Same H H') : PlainIn P w K H' p m e r s g S where
  hp := sm _ _ h.hp
  hm := by
    obtain ⟨kvs, e, hM⟩ := h.hm
    exact ⟨kvs, sm _ _ e, hM.same fun _ _ z => z.mono sm⟩
  he := sm _ _ h.he
  hr := h.hr.go (fun o q => sm _ _ q) (fun _ _ z => sqT_same sm z) (fun _ _ z => z)
  hs := sm _ _ h.hs
  hg := h.hg.go (fun o q => sm _ _ q) (fun _ _ z => sqT_same sm z) (fun _ _ z => rval_go (fun _ _ z => sqT_same sm z) z)
  mp := h.mp
  sp := h.sp
  ms := h.ms
  rg := h.rg
theorem dn_nodK {P : Program} {w : World} {d : Addr} {L : Gx.NL} (kvs : List (Key × V)) : DN P w d L ≠ .dK kvs := fun z => by unfold DN at z; cases z
theorem dn_nolst {P : Program} {w : World} {d : Addr} {L : Gx.NL} (xs : List V) : DN P w d L ≠ .lst xs := fun z => by unfold DN at z; cases z
theorem dn_notup {P : Program} {w : World} {d : Addr} {L : Gx.NL} (xs : List V) : DN P w d L ≠ .tup xs := fun z => by unfold DN at z; cases z
theorem dn_nofrz {P : Program} {w : World} {d : Addr} {L : Gx.NL} (o : Obj) (xs : List V) : DN P w d L ≠ .frz o (.tup xs) := fun z => by unfold DN at z; cases z
theorem PlDict.ne {R : Hp → V → Pg → Prop} {d x : Addr} {gs : List Pg} (h : PlDict R P w K H d gs) {u : HO} (e : H x = some u) (n : ∀ L, u ≠ DN P w d L) : d ≠ x := fun z => by
  obtain ⟨L, q, _⟩ := h
  rw [z, e] at q
  exact n L (by rw [z]; exact Option.some.inj q)
/-- the dict itself is written -/
theorem PlainIn.put_p (h : PlainIn P w K H p m e r s g S) {S' : Bk} {e' : Addr} (he : H e' = some (.lst (S'.ends.map V.str))) (bd : ∀ b o, b ≠ p → H b = some o → H' b = some o) (np : H' p = some (.dK (kvP S'.leaf m S'.first e' r s g)))
    (e1 : S'.maks = S.maks) (e2 : S'.rd = S.rd) (e3 : S'.st = S.st) (e4 : S'.pg = S.pg) : PlainIn P w K H' p m e' r s g S' := by
  have bu : ButD p H H' := butD_of bd h.hp (fun _ => nofun) (fun _ _ => nofun)
  have r1 := h.hr.ne h.hp (fun L => Ne.symm (dn_nodK _))
  have g1 := h.hg.ne h.hp (fun L => Ne.symm (dn_nodK _))
  obtain ⟨kvs, em, hM⟩ := h.hm
  refine ⟨np, ⟨kvs, bd _ _ h.mp em, ?_⟩, bd _ _ (fun z => ?_) he, ?_, bd _ _ h.sp ?_, ?_, h.mp, h.sp, h.ms, h.rg⟩
  · rw [e1]
    exact hM.same bu.tz
  · rw [z, h.hp] at he
    cases he
  · rw [e2]
    exact h.hr.go (fun o q => bd _ _ r1 q) bu.sq (fun _ _ z => z)
  · rw [e3]
    exact h.hs
  · rw [e4]
    exact h.hg.go (fun o q => bd _ _ g1 q) bu.sq (fun _ _ z => rval_go bu.sq z)
/-- the makings are written -/
theorem PlainIn.put_m (h : PlainIn P w K H p m e r s g S) {M : Mak} (bd : ∀ b o, b ≠ m → H b = some o → H' b = some o) (hm : ∃ kvs, H' m = some (.dK kvs) ∧ MakAt H' kvs M) : PlainIn P w K H' p m e r s g { S with maks := M } := by
  obtain ⟨kvs, em, hM⟩ := h.hm
  have bu : ButD m H H' := butD_of bd em (fun _ => nofun) (fun _ _ => nofun)
  have r1 := h.hr.ne em (fun L => Ne.symm (dn_nodK _))
  have g1 := h.hg.ne em (fun L => Ne.symm (dn_nodK _))
  exact ⟨bd _ _ (Ne.symm h.mp) h.hp, hm, bd _ _ (fun z => by have := h.he; rw [z, em] at this; cases this) h.he, h.hr.go (fun o q => bd _ _ r1 q) bu.sq (fun _ _ z => z), bd _ _ (Ne.symm h.ms) h.hs,
    h.hg.go (fun o q => bd _ _ g1 q) bu.sq (fun _ _ z => rval_go bu.sq z), h.mp, h.sp, h.ms, h.rg⟩
/-- the starts are written -/
theorem PlainIn.put_s (h : PlainIn P w K H p m e r s g S) {T : List (Str × Str)} (bd : ∀ b o, b ≠ s → H b = some o → H' b = some o) (hs : H' s = some (.dK (stK T))) : PlainIn P w K H' p m e r s g { S with st := T } := by
  have bu : ButD s H H' := butD_of bd h.hs (fun _ => nofun) (fun _ _ => nofun)
  have r1 := h.hr.ne h.hs (fun L => Ne.symm (dn_nodK _))
  have g1 := h.hg.ne h.hs (fun L => Ne.symm (dn_nodK _))
  obtain ⟨kvs, em, hM⟩ := h.hm
  exact ⟨bd _ _ (Ne.symm h.sp) h.hp, ⟨kvs, bd _ _ h.ms em, hM.same bu.tz⟩, bd _ _ (fun z => by have := h.he; rw [z, h.hs] at this; cases this) h.he, h.hr.go (fun o q => bd _ _ r1 q) bu.sq (fun _ _ z => z), hs,
    h.hg.go (fun o q => bd _ _ g1 q) bu.sq (fun _ _ z => rval_go bu.sq z), h.mp, h.sp, h.ms, h.rg⟩
/-- the reads are written -/
theorem PlainIn.put_r (h : PlainIn P w K H p m e r s g S) {R : List Pg} (bd : ∀ b o, b ≠ r → H b = some o → H' b = some o) (hr : PlDict RTx P w K H' r R) : PlainIn P w K H' p m e r s g { S with rd := R } := by
  obtain ⟨L, er, _⟩ := h.hr
  have bu : ButD r H H' := butD_of bd er (fun _ => dn_notup _) (fun _ _ => dn_nofrz _ _)
  obtain ⟨kvs, em, hM⟩ := h.hm
  exact ⟨bd _ _ (Ne.symm (h.hr.ne h.hp (fun L => Ne.symm (dn_nodK _)))) h.hp, ⟨kvs, bd _ _ (Ne.symm (h.hr.ne em (fun L => Ne.symm (dn_nodK _)))) em, hM.same bu.tz⟩, bd _ _ (Ne.symm (h.hr.ne h.he (fun L => Ne.symm (dn_nolst _)))) h.he, hr, bd _ _ (Ne.symm (h.hr.ne h.hs (fun L => Ne.symm (dn_nodK _)))) h.hs,
    h.hg.go (fun o q => bd _ _ (Ne.symm h.rg) q) bu.sq (fun _ _ z => rval_go bu.sq z), h.mp, h.sp, h.ms, h.rg⟩
/-- the pages are written -/
theorem PlainIn.put_g (h : PlainIn P w K H p m e r s g S) {G : List Pg} (bd : ∀ b o, b ≠ g → H b = some o → H' b = some o) (hr : PlDict (RVal K) P w K H' g G) : PlainIn P w K H' p m e r s g { S with pg := G } := by
  obtain ⟨L, er, _⟩ := h.hg
  have bu : ButD g H H' := butD_of bd er (fun _ => dn_notup _) (fun _ _ => dn_nofrz _ _)
  obtain ⟨kvs, em, hM⟩ := h.hm
  exact ⟨bd _ _ (Ne.symm (h.hg.ne h.hp (fun L => Ne.symm (dn_nodK _)))) h.hp, ⟨kvs, bd _ _ (Ne.symm (h.hg.ne em (fun L => Ne.symm (dn_nodK _)))) em, hM.same bu.tz⟩, bd _ _ (Ne.symm (h.hg.ne h.he (fun L => Ne.symm (dn_nolst _)))) h.he,
    h.hr.go (fun o q => bd _ _ h.rg q) bu.sq (fun _ _ z => z), bd _ _ (Ne.symm (h.hg.ne h.hs (fun L => Ne.symm (dn_nodK _)))) h.hs, hr, h.mp, h.sp, h.ms, h.rg⟩
theorem PlainIn.get (h : PlainIn P w K H p m e r s g S) {k : Str} {v : V} (e : valV (kvP S.leaf m S.first e r s g) (Sum.inr k) = some v) : DGet H p (.str k) (some v) := by
  have := DGet.k (k := Sum.inr k) h.hp
  rw [e] at this
  exact this
/-- one more entry -/
theorem PlDict.add {R : Hp → V → Pg → Prop} {d : Addr} {gs : List Pg} {q : Pg} {L : Gx.NL} {a : Addr} {v : V} (e : H d = some (DN P w d L)) (hL : EntAt R K H L gs) (ka : KeyA K H a (keyK (placeP q))) (rv : R H v q) (mono : ∀ H', (∀ a xs, SqT K H a xs → SqT K H' a xs) → ∀ v g, R H v g → R H' v g)
    (n : placeP q ∉ gs.map placeP) : ∃ L', putN L (keyK (placeP q)) a v = L' ∧ PlDict R P w K (upd H d (DN P w d L')) d (gs ++ [q]) := by
  have fr : keyK (placeP q) ∉ L.map (·.1) := fun m => by
    rw [hL.keys] at m
    obtain ⟨y, my, ey⟩ := List.mem_map.mp m
    exact n (by rw [← keyK_inj ey]; exact my)
  have bu : ButD d H (upd H d (DN P w d (L ++ [(keyK (placeP q), a, v)]))) := butD_of (fun b o nb e => by rw [upd_ne nb]; exact e) e (fun _ => dn_notup _) (fun _ _ => dn_nofrz _ _)
  exact ⟨_, putN_freshK fr a v, _, upd_same, EntAt.snoc ⟨rfl, ka.mono bu.sq, mono _ bu.sq _ _ rv⟩ (hL.mono bu.sq (mono _ bu.sq))⟩
end
end Kl
set_option maxRecDepth 100000
set_option maxHeartbeats 4000000
namespace Kl
open PySem PySem.Spec PyProof.Rows L2 Gx Mx
def bkBin : List PLine := [.leaf "a",
  .kind "a" ["a", "a"],
  .first "s",
  .ends ["o"],
  .read "s" [] "z",
  .read "s" ["a"] "o",
  .read "z" [] "z",
  .read "z" ["a"] "o",
  .read "o" [] "z",
  .read "o" ["a"] "o",
  .start "put" "m",
  .start "meld" "m",
  .start "take" "m",
  .page ⟨"m", ["a", "a"], ["a"], "m"⟩,
  .page ⟨"m", ["a", "a", "a"], ["a"], "m"⟩]
def bkTer : List PLine := [.leaf "a",
  .kind "a" ["a", "a", "a"],
  .first "s",
  .ends ["o"],
  .read "s" [] "z",
  .read "s" ["a"] "o",
  .read "s" ["a", "a"] "o",
  .read "z" [] "z",
  .read "z" ["a"] "o",
  .read "z" ["a", "a"] "o",
  .read "o" [] "z",
  .read "o" ["a"] "o",
  .read "o" ["a", "a"] "o",
  .start "put" "m",
  .start "meld" "m",
  .start "take" "m",
  .page ⟨"m", ["a", "a", "a"], ["a"], "m"⟩,
  .page ⟨"m", ["a", "a", "a", "a"], ["a"], "m"⟩,
  .page ⟨"m", ["a", "a", "a", "a", "a"], ["a"], "m"⟩]
def bkTwo : List PLine := [.leaf "a",
  .kind "a" ["a", "a"],
  .first "s",
  .ends ["o"],
  .read "s" [] "z",
  .read "s" ["a"] "o",
  .read "s" ["a", "a"] "o",
  .read "z" [] "z",
  .read "z" ["a"] "o",
  .read "z" ["a", "a"] "o",
  .read "o" [] "z",
  .read "o" ["a"] "o",
  .read "o" ["a", "a"] "o",
  .start "put" "m",
  .start "meld" "m",
  .start "take" "m",
  .page ⟨"m", ["a", "a", "a"], ["a"], "m"⟩,
  .page ⟨"m", ["a", "a", "a", "a"], ["a", "a"], "m"⟩,
  .page ⟨"m", ["a", "a", "a", "a", "a"], ["a", "a"], "m"⟩,
  .page ⟨"m", ["a", "a", "a", "a", "a", "a"], ["a", "a"], "m"⟩]
def bkGui : List PLine := [.leaf "a",
  .kind "a" ["a", "a"],
  .first "s",
  .ends ["n", "z"],
  .read "s" [] "y",
  .read "s" ["a"] "n",
  .read "y" [] "y",
  .read "y" ["a"] "z",
  .read "y" ["a", "a"] "n",
  .read "z" [] "y",
  .read "z" ["a"] "z",
  .read "z" ["a", "a"] "n",
  .read "n" [] "y",
  .read "n" ["a"] "n",
  .start "put" "p",
  .start "meld" "e",
  .start "take" "e",
  .page ⟨"p", ["a"], [], "k"⟩,
  .page ⟨"p", ["a", "a"], ["a"], "d"⟩,
  .page ⟨"k", [], [], "e"⟩,
  .page ⟨"k", ["a", "a"], ["a"], "d"⟩,
  .page ⟨"d", ["a"], [], "e"⟩,
  .page ⟨"d", ["a", "a"], [], "e"⟩]
def bkTur : List PLine := [.leaf "a",
  .kind "a" ["b", "b", "b"],
  .kind "b" ["a", "a"],
  .first "s",
  .ends ["o"],
  .read "s" [] "z",
  .read "s" ["a"] "o",
  .read "s" ["b"] "o",
  .read "s" ["b", "b"] "o",
  .read "z" [] "z",
  .read "z" ["a"] "o",
  .read "z" ["b"] "o",
  .read "z" ["b", "b"] "o",
  .read "o" [] "z",
  .read "o" ["a"] "o",
  .read "o" ["b"] "o",
  .read "o" ["b", "b"] "o",
  .start "put" "m",
  .start "meld" "m",
  .start "take" "m",
  .page ⟨"m", ["a", "a"], ["b"], "m"⟩,
  .page ⟨"m", ["a", "a", "a"], ["b"], "m"⟩,
  .page ⟨"m", ["b", "b", "b"], ["a"], "m"⟩,
  .page ⟨"m", ["b", "b", "b", "b"], ["a"], "m"⟩,
  .page ⟨"m", ["b", "b", "b", "b", "b"], ["a"], "m"⟩,
  .page ⟨"m", ["a", "a", "a", "a"], ["b", "b"], "m"⟩,
  .page ⟨"m", ["b", "b", "b", "b", "b", "b"], ["a", "a"], "m"⟩]
def bkThr : List PLine := [.leaf "a",
  .kind "a" ["b", "c"],
  .kind "b" ["a", "a"],
  .kind "c" ["a", "a", "a"],
  .first "s",
  .ends ["o"],
  .read "s" [] "z",
  .read "s" ["a"] "o",
  .read "s" ["b"] "o",
  .read "s" ["c"] "o",
  .read "z" [] "z",
  .read "z" ["a"] "o",
  .read "z" ["b"] "o",
  .read "z" ["c"] "o",
  .read "o" [] "z",
  .read "o" ["a"] "o",
  .read "o" ["b"] "o",
  .read "o" ["c"] "o",
  .start "put" "m",
  .start "meld" "m",
  .start "take" "m",
  .page ⟨"m", ["a", "a"], ["b"], "m"⟩,
  .page ⟨"m", ["a", "a", "a"], ["c"], "m"⟩,
  .page ⟨"m", ["b", "c"], ["a"], "m"⟩,
  .page ⟨"m", ["b", "b", "c"], ["a"], "m"⟩,
  .page ⟨"m", ["b", "c", "c"], ["a"], "m"⟩,
  .page ⟨"m", ["a", "a", "a", "a"], ["b", "b"], "m"⟩]
def bkO0 : List PLine := [.leaf "a",
  .kind "b" ["a", "a"],
  .kind "c" ["b", "b", "b"],
  .first "s",
  .ends ["o"],
  .read "s" [] "z",
  .read "s" ["a"] "o",
  .read "s" ["b"] "o",
  .read "s" ["b", "b"] "o",
  .read "s" ["c"] "o",
  .read "z" [] "z",
  .read "z" ["a"] "o",
  .read "z" ["b"] "o",
  .read "z" ["b", "b"] "o",
  .read "z" ["c"] "o",
  .read "o" [] "z",
  .read "o" ["a"] "o",
  .read "o" ["b"] "o",
  .read "o" ["b", "b"] "o",
  .read "o" ["c"] "o",
  .start "put" "m",
  .start "meld" "m",
  .start "take" "m",
  .page ⟨"m", ["a", "a"], ["b"], "m"⟩,
  .page ⟨"m", ["a", "a", "a"], ["b"], "m"⟩,
  .page ⟨"m", ["b", "b", "b"], ["c"], "m"⟩]
def bkO1 : List PLine := [.leaf "a",
  .kind "a" ["a", "a"],
  .first "s",
  .ends ["o"],
  .read "s" [] "z",
  .read "s" ["a"] "o",
  .read "s" ["a", "a"] "o",
  .read "s" ["a", "a", "a"] "o",
  .read "z" [] "z",
  .read "z" ["a"] "o",
  .read "z" ["a", "a"] "o",
  .read "z" ["a", "a", "a"] "o",
  .read "o" [] "z",
  .read "o" ["a"] "o",
  .read "o" ["a", "a"] "o",
  .read "o" ["a", "a", "a"] "o",
  .start "put" "m",
  .start "meld" "m",
  .start "take" "m",
  .page ⟨"m", ["a", "a", "a", "a"], ["a"], "m"⟩,
  .page ⟨"m", ["a", "a", "a", "a", "a"], ["a", "a"], "m"⟩,
  .page ⟨"m", ["a", "a", "a", "a", "a", "a"], ["a", "a"], "m"⟩,
  .page ⟨"m", ["a", "a", "a", "a", "a", "a", "a"], ["a", "a"], "m"⟩]
def bkO2 : List PLine := [.leaf "a",
  .kind "a" ["a", "a"],
  .first "s",
  .ends ["o"],
  .read "s" [] "z",
  .read "s" ["a"] "o",
  .read "z" [] "z",
  .read "z" ["a"] "o",
  .read "o" [] "z",
  .read "o" ["a"] "o",
  .start "put" "m",
  .start "meld" "m",
  .start "take" "m",
  .page ⟨"m", ["a", "a"], ["a"], "c"⟩,
  .page ⟨"c", ["a"], [], "m"⟩,
  .page ⟨"c", ["a", "a"], ["a"], "c"⟩,
  .page ⟨"c", ["a", "a", "a"], ["a"], "c"⟩,
  .page ⟨"m", ["a", "a", "a"], ["a"], "c"⟩]
/-- a written book, and its kinds' names -/
def wbk : Nat → List PLine
  | 0 => bkBin
  | 1 => bkTer
  | 2 => bkTwo
  | 3 => bkGui
  | 4 => bkTur
  | _ => bkThr
def obk : Nat → List PLine
  | 0 => bkO0
  | 1 => bkO1
  | _ => bkO2
end Kl
set_option maxRecDepth 100000
set_option maxHeartbeats 4000000
namespace Kl
open PySem PySem.Spec PyProof.Rows L2 Gx Mx
/-- the line with another made, another after -/
def vPg (g g' : Pg) : Prop := g'.note = g.note ∧ g'.pool = g.pool ∧ (g'.made = g.made ∨ g'.made = []) ∧ (g'.after = g.after ∨ g'.after = "m" ∨ g'.after = "idle")
def vLine (x y : PLine) : Prop := y = x ∨ ∃ g g', x = .page g ∧ y = .page g' ∧ vPg g g'
def isPR : PLine → Bool
  | .page _ => true
  | .read _ _ _ => true
  | _ => false
theorem vPg.refl (g : Pg) : vPg g g := ⟨rfl, rfl, .inl rfl, .inl rfl⟩
theorem vLine.pr {x y : PLine} (h : vLine x y) : isPR y = isPR x := by
  rcases h with rfl | ⟨g, g', rfl, rfl, _⟩ <;> rfl
theorem vLine.page {x : PLine} {g : Pg} (h : vLine x (.page g)) : ∃ g0, x = .page g0 ∧ vPg g0 g := by
  rcases h with e | ⟨g0, g', rfl, e, v⟩
  · exact ⟨g, e.symm, vPg.refl g⟩
  · cases e
    exact ⟨g0, rfl, v⟩
theorem vLine.made {x : PLine} {g : Pg} (h : vLine x (.page g)) : vLine x (.page { g with made := [] }) := by
  obtain ⟨g0, e, a, b, c, d⟩ := h.page
  exact .inr ⟨g0, _, e, rfl, a, b, .inr rfl, d⟩
theorem vLine.after {x : PLine} {g : Pg} (h : vLine x (.page g)) {z : Str} (hz : z = "m" ∨ z = "idle") : vLine x (.page { g with after := z }) := by
  obtain ⟨g0, e, a, b, c, d⟩ := h.page
  exact .inr ⟨g0, _, e, rfl, a, b, c, .inr hz⟩
inductive VarL : List PLine → List PLine → Prop where
  | nil : VarL [] []
  | keep {x y : PLine} {bk ls : List PLine} : vLine x y → VarL bk ls → VarL (x :: bk) (y :: ls)
  | drop {x : PLine} {bk ls : List PLine} : isPR x = true → VarL bk ls → VarL (x :: bk) ls
theorem VarL.refl : ∀ bk : List PLine, VarL bk bk
  | [] => .nil
  | x :: bk => .keep (.inl rfl) (VarL.refl bk)
theorem VarL.set {bk ls : List PLine} (h : VarL bk ls) : ∀ {j : Nat} {y y' : PLine}, ls[j]? = some y → (∀ x, vLine x y → vLine x y') → VarL bk (ls.set j y') := by
  induction h with
  | nil => intro j y y' e; cases e
  | keep h t ih =>
    intro j y y' e f
    cases j with
    | zero =>
      cases e
      exact .keep (f _ h) t
    | succ j => exact .keep h (ih e f)
  | drop h t ih => intro j y y' e f; exact .drop h (ih e f)
theorem VarL.del {bk ls : List PLine} (h : VarL bk ls) : ∀ {j : Nat} {y : PLine}, ls[j]? = some y → isPR y = true → VarL bk (ls.eraseIdx j) := by
  induction h with
  | nil => intro j y e; cases e
  | keep h t ih =>
    intro j y e f
    cases j with
    | zero =>
      cases e
      exact .drop (by rw [← h.pr]; exact f) t
    | succ j => exact .keep h (ih e f)
  | drop h t ih => intro j y e f; exact .drop h (ih e f)
theorem VarL.mem {bk ls : List PLine} (h : VarL bk ls) {y : PLine} (m : y ∈ ls) : ∃ x ∈ bk, vLine x y := by
  induction h with
  | nil => cases m
  | @keep x _ _ _ h t ih =>
    rcases List.mem_cons.mp m with rfl | m
    · exact ⟨x, List.mem_cons_self, h⟩
    · obtain ⟨z, mz, e⟩ := ih m
      exact ⟨z, List.mem_cons_of_mem _ mz, e⟩
  | drop h t ih =>
    obtain ⟨z, mz, e⟩ := ih m
    exact ⟨z, List.mem_cons_of_mem _ mz, e⟩
theorem VarL.len {bk ls : List PLine} (h : VarL bk ls) : ls.length ≤ bk.length := by
  induction h with
  | nil => exact Nat.le_refl _
  | keep h t ih => rw [List.length_cons, List.length_cons]; omega
  | drop h t ih => rw [List.length_cons]; omega
/-- the pages of the one are pages of the other, a little changed -/
def VarG (gs gs' : List Pg) : Prop := ∃ sub : List Pg, sub.Sublist gs ∧ Paired vPg sub gs'
theorem paired_snoc {α β : Type} {R : α → β → Prop} {a : α} {b : β} (h : R a b) : ∀ {xs : List α} {ys : List β}, Paired R xs ys → Paired R (xs ++ [a]) (ys ++ [b])
  | _, _, .nil => .cons h .nil
  | _, _, .cons q t => .cons q (paired_snoc h t)
theorem VarG.keep {gs gs' : List Pg} {g g' : Pg} (h : VarG gs gs') (v : vPg g g') : VarG (gs ++ [g]) (gs' ++ [g']) := by
  obtain ⟨sub, s, p⟩ := h
  exact ⟨sub ++ [g], s.append (List.Sublist.refl _), paired_snoc v p⟩
theorem VarG.drop {gs gs' : List Pg} {g : Pg} (h : VarG gs gs') : VarG (gs ++ [g]) gs' := by
  obtain ⟨sub, s, p⟩ := h
  exact ⟨sub, s.trans (List.sublist_append_left _ _), p⟩
theorem VarG.places {gs gs' : List Pg} (h : VarG gs gs') : (gs'.map placeP).Sublist (gs.map placeP) := by
  obtain ⟨sub, s, p⟩ := h
  have e : gs'.map placeP = sub.map placeP := by
    clear s
    induction p with
    | nil => rfl
    | cons v t ih =>
      rw [List.map_cons, List.map_cons, ih]
      congr 1
      unfold placeP
      rw [v.1, v.2.1]
  rw [e]
  exact s.map placeP
theorem VarG.mem {gs gs' : List Pg} (h : VarG gs gs') {g' : Pg} (m : g' ∈ gs') : ∃ g ∈ gs, vPg g g' := by
  obtain ⟨sub, s, p⟩ := h
  have : ∃ g ∈ sub, vPg g g' := by
    clear s
    induction p with
    | nil => cases m
    | @cons a b _ _ v t ih =>
      rcases List.mem_cons.mp m with rfl | m
      · exact ⟨a, List.mem_cons_self, v⟩
      · obtain ⟨g, mg, e⟩ := ih m
        exact ⟨g, List.mem_cons_of_mem _ mg, e⟩
  obtain ⟨g, mg, e⟩ := this
  exact ⟨g, s.subset mg, e⟩
theorem VarG.len {gs gs' : List Pg} (h : VarG gs gs') : gs'.length ≤ gs.length := by
  have := h.places.length_le
  rwa [List.length_map, List.length_map] at this
/-- what they tell, a little changed -/
structure VarB (S S' : Bk) : Prop where
  leaf : S'.leaf = S.leaf
  maks : S'.maks = S.maks
  first : S'.first = S.first
  ends : S'.ends = S.ends
  rd : S'.rd.Sublist S.rd
  st : S'.st = S.st
  pg : VarG S.pg S'.pg
theorem varB_refl : VarB S0 S0 := ⟨rfl, rfl, rfl, rfl, List.Sublist.refl _, rfl, [], List.Sublist.refl _, .nil⟩
theorem VarB.keep {S S' : Bk} {x y : PLine} (h : VarB S S') (v : vLine x y) : VarB (stepP S x) (stepP S' y) := by
  obtain ⟨a, b, c, d, e, f, g⟩ := h
  rcases v with rfl | ⟨g0, g', rfl, rfl, v⟩
  · cases y with
    | leaf n => exact ⟨rfl, b, c, d, e, f, g⟩
    | first n => exact ⟨a, b, rfl, d, e, f, g⟩
    | ends n => exact ⟨a, b, c, rfl, e, f, g⟩
    | kind n q => exact ⟨a, by show S'.maks ++ _ = S.maks ++ _; rw [b], c, d, e, f, g⟩
    | read n q r => exact ⟨a, b, c, d, e.append (List.Sublist.refl _), f, g⟩
    | start n q => exact ⟨a, b, c, d, e, by show S'.st ++ _ = S.st ++ _; rw [f], g⟩
    | page q => exact ⟨a, b, c, d, e, f, g.keep (vPg.refl q)⟩
  · exact ⟨a, b, c, d, e, f, g.keep v⟩
theorem VarB.drop {S S' : Bk} {x : PLine} (h : VarB S S') (v : isPR x = true) : VarB (stepP S x) S' := by
  obtain ⟨a, b, c, d, e, f, g⟩ := h
  cases x with
  | leaf n => cases v
  | first n => cases v
  | ends n => cases v
  | kind n q => cases v
  | read n q r => exact ⟨a, b, c, d, e.trans (List.sublist_append_left _ _), f, g⟩
  | start n q => cases v
  | page q => exact ⟨a, b, c, d, e, f, g.drop⟩
theorem VarL.fold {bk ls : List PLine} (h : VarL bk ls) : ∀ {S S' : Bk}, VarB S S' → VarB (bk.foldl stepP S) (ls.foldl stepP S') := by
  induction h with
  | nil => intro S S' h; exact h
  | keep v t ih => intro S S' h; exact ih (h.keep v)
  | drop v t ih => intro S S' h; exact ih (h.drop v)
theorem VarL.bk {bk ls : List PLine} (h : VarL bk ls) : VarB (stOf bk) (stOf ls) := h.fold varB_refl
theorem VarB.nd {S S' : Bk} (h : VarB S S') (n : NdS S) : NdS S' where
  maks := by rw [h.maks]; exact n.maks
  rd := (h.rd.map placeP).nodup n.rd
  st := by rw [h.st]; exact n.st
  pg := h.pg.places.nodup n.pg
theorem vPg.fit {ns : List Str} {M : Mak} {g g' : Pg} (v : vPg g g') (h : FitP ns M g) : FitP ns M g' := by
  obtain ⟨ok, inn, fit⟩ := h
  obtain ⟨a, b, c, d⟩ := v
  refine ⟨⟨by rw [a]; exact ok.n, by rw [b]; exact ok.p, ?_, ?_⟩, fun z m => ?_, ?_⟩
  · rcases c with c | c
    · rw [c]; exact ok.m
    · rw [c]; decide +kernel
  · rcases d with d | d | d
    · rw [d]; exact ok.a
    · rw [d]; decide +kernel
    · rw [d]; decide +kernel
  · rw [b] at m
    rcases List.mem_append.mp m with m | m
    · exact inn z (List.mem_append_left _ m)
    · rcases c with c | c
      · rw [c] at m
        exact inn z (List.mem_append_right _ m)
      · rw [c] at m
        cases m
  · rcases c with c | c
    · have e : partsM M g' = partsM M g := by unfold partsM; rw [c]
      rw [b, e]
      exact fit
    · have e : partsM M g' = [] := by unfold partsM; rw [c]; rfl
      rw [b, e]
      show some g.pool ≠ none
      exact Option.some_ne_none _
theorem vLine.ok {x y : PLine} (v : vLine x y) (h : LnOk x = true) : LnOk y = true := by
  rcases v with rfl | ⟨g, g', rfl, rfl, a, b, c, d⟩
  · exact h
  · simp only [LnOk, Bool.and_eq_true] at h ⊢
    refine ⟨by rw [a]; exact h.1, by rw [b]; exact h.2.1, ?_, ?_⟩
    · rcases c with c | c
      · rw [c]; exact h.2.2.1
      · rw [c]; decide +kernel
    · rcases d with d | d | d
      · rw [d]; exact h.2.2.2
      · rw [d]; decide +kernel
      · rw [d]; decide +kernel
end Kl
set_option maxRecDepth 100000
set_option maxHeartbeats 4000000
namespace Kl
open PySem PySem.Spec PyProof.Rows L2 Gx Mx
structure Sm (B k : Nat) (d : PyData) : Prop where
  lay : d.canLay0 = true
  dp : d.depth ≤ k
  wt : d.weight ≤ B
  sh : d.showable = true
  is : d.intsShort 13 = true
theorem Sm.str {B k : Nat} {s : Str} (h : PyData.strOk s = true) (hl : s.length ≤ B) : Sm B k (.str s) := ⟨h, Nat.zero_le _, hl, rfl, rfl⟩
theorem Sm.up {B B' k k' : Nat} {d : PyData} (h : Sm B k d) (hB : B ≤ B') (hk : k ≤ k') : Sm B' k' d := ⟨h.lay, Nat.le_trans h.dp hk, Nat.le_trans h.wt hB, h.sh, h.is⟩
theorem Sm.all {B k : Nat} : ∀ {ds : List PyData}, (∀ d ∈ ds, Sm B k d) → PyData.canLayAll0 ds = true ∧ PyData.depthAll ds ≤ k ∧ PyData.weightAll ds ≤ ds.length * (B + 1) ∧ PyData.showableAll ds = true ∧ PyData.intsShortAll 13 ds = true
  | [], _ => ⟨rfl, Nat.zero_le _, Nat.zero_le _, rfl, rfl⟩
  | d :: ds, h => by
    obtain ⟨h1, h2, h3, h4, h5⟩ := h d List.mem_cons_self
    obtain ⟨i1, i2, i3, i4, i5⟩ := Sm.all (ds := ds) fun x hx => h x (List.mem_cons_of_mem _ hx)
    refine ⟨?_, ?_, ?_, ?_, ?_⟩
    · rw [PyData.canLayAll0, h1, i1]; rfl
    · rw [PyData.depthAll]; exact Nat.max_le.mpr ⟨h2, i2⟩
    · rw [PyData.weightAll, List.length_cons, Nat.succ_mul]
      omega
    · rw [PyData.showableAll, h4, i4]; rfl
    · rw [PyData.intsShortAll, h5, i5]; rfl
theorem Sm.tup {B k n B' k' : Nat} {ds : List PyData} (h : ∀ d ∈ ds, Sm B k d) (hn : ds.length ≤ n) (hB : n * (B + 1) ≤ B') (hk : k + 1 ≤ k') : Sm B' k' (.tuple ds) := by
  obtain ⟨i1, i2, i3, i4, i5⟩ := Sm.all h
  have hm : ds.length * (B + 1) ≤ n * (B + 1) := Nat.mul_le_mul_right _ hn
  exact ⟨i1, by rw [PyData.depth]; omega, by rw [PyData.weight]; omega, i4, i5⟩
theorem Sm.lst {B k n B' k' : Nat} {ds : List PyData} (h : ∀ d ∈ ds, Sm B k d) (hn : ds.length ≤ n) (hB : n * (B + 1) ≤ B') (hk : k + 1 ≤ k') : Sm B' k' (.list ds) := by
  obtain ⟨i1, i2, i3, i4, i5⟩ := Sm.all h
  have hm : ds.length * (B + 1) ≤ n * (B + 1) := Nat.mul_le_mul_right _ hn
  exact ⟨i1, by rw [PyData.depth]; omega, by rw [PyData.weight]; omega, i4, i5⟩
theorem Sm.int {B k n : Nat} (h : n ≤ 6) (hB : 3 ≤ B) : Sm B k (.int (n : Int)) := by
  have e : (List.range 7).all (fun n => decide (PyData.weight (.int (n : Int)) ≤ 3) && PyData.showable (.int (n : Int)) && PyData.intsShort 13 (.int (n : Int))) = true := by decide +kernel
  have e2 := List.all_eq_true.mp e n (List.mem_range.mpr (by omega))
  rw [Bool.and_eq_true, Bool.and_eq_true] at e2
  exact ⟨rfl, Nat.zero_le _, Nat.le_trans (of_decide_eq_true e2.1.1) hB, e2.1.2, e2.2⟩
/-- what repr asks of data -/
theorem Sm.repr {B k : Nat} {d : PyData} (h : Sm B k d) (hB : B ≤ 1000000) (hk : k ≤ 60) : d.showable = true ∧ d.hasDict = false ∧ d.depth ≤ 60 ∧ d.shown.length ≤ sizeLine := by
  have hl : PyData.layable0 d = true := by
    show (PyData.canLay0 d && decide (PyData.depth d ≤ 64) && decide (PyData.weight d ≤ 2 ^ 20)) = true
    rw [h.lay, decide_eq_true (show d.depth ≤ 64 from Nat.le_trans h.dp (by omega)), decide_eq_true (show d.weight ≤ 2 ^ 20 from Nat.le_trans h.wt (Nat.le_trans hB (by decide)))]
    rfl
  refine ⟨h.sh, PyData.hasDict_of_layable hl, Nat.le_trans h.dp hk, Nat.le_trans (shown_le13 hl h.is) (by decide)⟩
/-- texts -/
theorem sm_texts {B n : Nat} {zs : List Str} (h : ∀ z ∈ zs, PyData.strOk z = true ∧ z.length ≤ B) (hn : zs.length ≤ n) : Sm (n * (B + 1)) 1 (.tuple (tD zs)) := by
  refine Sm.tup (k := 0) (n := n) (fun d hd => ?_) (by unfold tD; rw [List.length_map]; exact hn) (Nat.le_refl _) (Nat.le_refl _)
  obtain ⟨z, hz, rfl⟩ := List.mem_map.mp hd
  exact Sm.str (h z hz).1 (h z hz).2
theorem Sm.bool {B k : Nat} (b : Bool) : Sm B k (.bool b) := ⟨rfl, Nat.zero_le _, Nat.zero_le _, rfl, rfl⟩
theorem Sm.non {B k : Nat} : Sm B k .none := ⟨rfl, Nat.zero_le _, Nat.zero_le _, rfl, rfl⟩
theorem Sm.shaped {B k : Nat} {d : PyData} (h : Sm B k d) (hk : k ≤ 64) : SeqAt.shaped d = true := by
  unfold SeqAt.shaped
  rw [Bool.and_eq_true]
  exact ⟨h.lay, decide_eq_true (Nat.le_trans h.dp hk)⟩
theorem sm_cons {B k : Nat} {d : PyData} {ds : List PyData} (h : Sm B k d) (r : ∀ e ∈ ds, Sm B k e) : ∀ e ∈ d :: ds, Sm B k e := fun e he => by
  rcases List.mem_cons.mp he with rfl | he
  · exact h
  · exact r e he
theorem sm_nil {B k : Nat} : ∀ e ∈ ([] : List PyData), Sm B k e := fun e he => nomatch he
theorem dice_sm {H H' : Hp} {d : Addr} (s : ∀ b o, H b = some o → H' b = some o) (q : DiceAt H d) : DiceAt H' d := by
  obtain ⟨x, b, c, h⟩ := q
  exact ⟨x, b, c, s _ _ h⟩
end Kl
set_option maxRecDepth 100000
set_option maxHeartbeats 4000000
namespace Kl
open PySem PySem.Spec PyProof.Rows L2 Gx Mx
theorem merge_new : ∀ (more kvs : List (Key × V)), (more.map (·.1)).Nodup → (∀ k ∈ more.map (·.1), valV kvs k = none) → mergeK kvs more = kvs ++ more
  | [], kvs, _, _ => by unfold mergeK; rw [List.foldl_nil, List.append_nil]
  | p :: r, kvs, nd, hn => by
    rw [List.map_cons, List.nodup_cons] at nd
    have e : mergeK kvs (p :: r) = mergeK (putK kvs p.1 p.2) r := rfl
    have e0 : valV kvs p.1 = none := hn _ (by rw [List.map_cons]; exact List.mem_cons_self)
    rw [e, putK_new _ e0, merge_new r _ nd.2 fun k hk => ?_, List.append_assoc]
    · rfl
    · have hk0 := hn k (by rw [List.map_cons]; exact List.mem_cons_of_mem _ hk)
      rw [valV_snoc _ _ _ _ e0, if_neg (fun (q : k = p.1) => nd.1 (by rw [← q]; exact hk)), hk0]
theorem merge_nil {more : List (Key × V)} (nd : (more.map (·.1)).Nodup) : mergeK [] more = more := merge_new more [] nd fun _ _ => rfl
/-- a dict of makings stands at m -/
def Mkd (H : Hp) (m : Addr) (M : Mak) : Prop := ∃ kvs, H m = some (.dK kvs) ∧ MakAt H kvs M
theorem Mkd.same {H H' : Hp} {m : Addr} {M : Mak} (h : Mkd H m M) (s : Same H H') : Mkd H' m M := by
  obtain ⟨kvs, e, hM⟩ := h
  exact ⟨kvs, s _ _ e, hM.same fun _ _ q => q.mono s⟩
theorem nodupL_len {α : Type} [DecidableEq α] : ∀ {xs ys : List α}, xs.Nodup → (∀ z ∈ xs, z ∈ ys) → xs.length ≤ ys.length
  | [], ys, _, _ => Nat.zero_le _
  | x :: xs, ys, hn, hs => by
    rw [List.nodup_cons] at hn
    have hx : x ∈ ys := hs x List.mem_cons_self
    have h1 := nodupL_len (ys := ys.erase x) hn.2 fun z hz => (List.mem_erase_of_ne (fun e => hn.1 (by rw [e] at hz; exact hz))).mpr (hs z (List.mem_cons_of_mem _ hz))
    rw [List.length_erase_of_mem hx] at h1
    have : 0 < ys.length := List.length_pos_of_mem hx
    rw [List.length_cons]
    omega
theorem KindsAt.dice {G G' : Hp} {C x md d : Addr} {leaf : Str} {M : Mak} {ns : List Str} (k : KindsAt C G x md leaf M ns) (hd : DiceAt G d) (s : SameX d G G') : KindsAt C G' x md leaf M ns := by
  obtain ⟨a, b, c', e⟩ := id hd
  obtain ⟨dx, nt, kvs, h1, h2, h3, h4⟩ := k
  refine ⟨dx, nt, kvs, s _ _ (fun z => by rw [z, e] at h1; cases h1) h1, s _ _ (fun z => by rw [z, e] at h2; cases h2) h2, h3.same fun a xs q => q.at fun o h => s _ _ (q.ne e fun ob w => by cases w) h, s _ _ (fun z => by rw [z, e] at h4; cases h4) h4⟩
theorem Mkd.dice {G G' : Hp} {m d : Addr} {M : Mak} (h : Mkd G m M) (hd : DiceAt G d) (s : SameX d G G') : Mkd G' m M := by
  obtain ⟨a, b, c', e⟩ := id hd
  obtain ⟨kvs, h2, h3⟩ := h
  exact ⟨kvs, s _ _ (fun z => by rw [z, e] at h2; cases h2) h2, h3.same fun a xs q => q.at fun o h => s _ _ (q.ne e fun ob w => by cases w) h⟩
theorem mk_same {G : Hp} {x dx : Addr} (nx : G x = none) (nd : G dx = none) {o1 o2 : HO} : Same G (upd (upd G dx o1) x o2) := fun b o e => by
  rw [upd_ne (ne_of_none e nx), upd_ne (ne_of_none e nd)]
  exact e
/-- kinds made of a dict that stands -/
theorem init_by {C x dx mk : Addr} {G : Hp} {leaf : Str} {M : Mak} {Q : VK} {E : XK} (hM : Mkd G mk M) (hV : Vld leaf M) (nx : G x = none) (nd : G dx = none)
    (q : ∀ G2 md M' ns, KindsAt C G2 x md leaf M' ns → OrdOf M M' → IsNames leaf (keysOf M) ns → Same G G2 → Q .non G2) : spInit C [.ref x, .str leaf, .ref mk] (upd (upd G dx (.own x)) x (.ins C dx [])) Q E := by
  obtain ⟨kvs, e, hM⟩ := hM
  have s := mk_same nx nd (o1 := .own x) (o2 := .ins C dx [])
  exact ⟨x, dx, leaf, mk, kvs, M, rfl, upd_same, s _ _ e, hM.same (fun _ _ h => h.mono s), hV, fun G2 md M' ns hK hO hN _ keep => q G2 md M' ns hK hO hN fun b o e => keep b o (ne_of_none e nx) (s _ _ e)⟩
end Kl
set_option maxRecDepth 100000
set_option maxHeartbeats 4000000
namespace Kl
open PySem PySem.Spec PyProof.Rows L2 Gx Mx
def vldB (leaf : Str) (M : Mak) : Bool :=
  decide (leaf ∈ POOL) && (decide (∀ z ∈ keysOf M, z ∈ POOL) && (decide (keysOf M).Nodup && (M.all (fun m => sortedS m.2 && (decide (2 ≤ m.2.length) && (decide (m.2.length ≤ 3) && decide (∀ p ∈ m.2, p = leaf ∨ p ∈ keysOf M)))) && decide (M.length ≤ 5))))
theorem vldB_ok {leaf : Str} {M : Mak} (h : vldB leaf M = true) : Vld leaf M := by
  unfold vldB at h
  simp only [Bool.and_eq_true, decide_eq_true_eq, List.all_eq_true] at h
  obtain ⟨a, b, c, d, e⟩ := h
  refine ⟨a, b, c, d, fun ns nd hs => ?_⟩
  refine Nat.le_trans (nodupL_len nd (ys := leaf :: keysOf M) fun z hz => ?_) ?_
  · rcases hs z hz with rfl | h
    · exact List.mem_cons_self
    · exact List.mem_cons_of_mem _ h
  · have : (keysOf M).length = M.length := List.length_map _
    rw [List.length_cons, this]
    omega
def pgB (g : Pg) : Bool := nameB g.note && (goodM 8 g.pool && (goodM 2 g.made && nameB g.after))
theorem pgB_ok {g : Pg} (h : pgB g = true) : PgOk g := by
  unfold pgB at h
  simp only [Bool.and_eq_true] at h
  exact ⟨h.1, h.2.1, h.2.2.1, h.2.2.2⟩
/-- the page fits what the leaf and the makings tell -/
def FitM (leaf : Str) (M : Mak) (g : Pg) : Prop := PgOk g ∧ (∀ z ∈ g.pool ++ g.made, z = leaf ∨ z ∈ keysOf M) ∧ leftM g.pool (partsM M g) ≠ none
def fitB (leaf : Str) (M : Mak) (g : Pg) : Bool := pgB g && (decide (∀ z ∈ g.pool ++ g.made, z = leaf ∨ z ∈ keysOf M) && (leftM g.pool (partsM M g)).isSome)
theorem fitB_ok {leaf : Str} {M : Mak} {g : Pg} (h : fitB leaf M g = true) : FitM leaf M g := by
  unfold fitB at h
  simp only [Bool.and_eq_true, decide_eq_true_eq] at h
  exact ⟨pgB_ok h.1, h.2.1, fun e => by rw [e] at h; cases h.2.2⟩
/-- names that no page has -/
def oddB (g : Pg) : Bool := decide (g.note ≠ "zz" ∧ g.after ≠ "other")
structure BkF (bk : List PLine) : Prop where
  odd : ∀ g ∈ (stOf bk).pg, oddB g = true
  ok : ∀ x ∈ bk, LnOk x = true
  few : bk.length ≤ 60
  pr : ∃ x ∈ bk, isPR x = true
  nd : NdS (stOf bk)
  vld : Vld (stOf bk).leaf (stOf bk).maks
  fit : ∀ g ∈ (stOf bk).pg, FitM (stOf bk).leaf (stOf bk).maks g
def bkB (bk : List PLine) : Bool := (stOf bk).pg.all oddB && (bk.all LnOk && (decide (bk.length ≤ 60) && (bk.any isPR && (decide (NdS (stOf bk)) && (vldB (stOf bk).leaf (stOf bk).maks && (stOf bk).pg.all (fitB (stOf bk).leaf (stOf bk).maks))))))
theorem bkB_ok {bk : List PLine} (h : bkB bk = true) : BkF bk := by
  unfold bkB at h
  simp only [Bool.and_eq_true, decide_eq_true_eq, List.all_eq_true, List.any_eq_true] at h
  obtain ⟨o, a, b, c, d, e, f⟩ := h
  exact ⟨o, a, b, c, d, vldB_ok e, fun g m => fitB_ok (f g m)⟩
theorem wbk_ok (k : Nat) : BkF (wbk k) := by
  match k with
  | 0 => exact bkB_ok (by decide +kernel : bkB bkBin = true)
  | 1 => exact bkB_ok (by decide +kernel : bkB bkTer = true)
  | 2 => exact bkB_ok (by decide +kernel : bkB bkTwo = true)
  | 3 => exact bkB_ok (by decide +kernel : bkB bkGui = true)
  | 4 => exact bkB_ok (by decide +kernel : bkB bkTur = true)
  | n + 5 => exact bkB_ok (by decide +kernel : bkB bkThr = true)
theorem obk_ok (k : Nat) : BkF (obk k) := by
  match k with
  | 0 => exact bkB_ok (by decide +kernel : bkB bkO0 = true)
  | 1 => exact bkB_ok (by decide +kernel : bkB bkO1 = true)
  | n + 2 => exact bkB_ok (by decide +kernel : bkB bkO2 = true)
theorem FitM.to {leaf : Str} {M M' : Mak} {ns : List Str} {g : Pg} (h : FitM leaf M g) (o : ∀ z, lookM M' z = lookM M z) (n : IsNames leaf (keysOf M) ns) : FitP ns M' g := by
  obtain ⟨a, b, c⟩ := h
  refine ⟨a, fun z m => (n.mem z).mpr (b z m), ?_⟩
  have e : partsM M' g = partsM M g := by
    unfold partsM
    exact List.map_congr_left fun z _ => by rw [o]
  rw [e]
  exact c
/-- .. and of what they tell when they are a little changed -/
structure BkV (S : Bk) : Prop where
  odd : ∀ g ∈ S.pg, oddB g = true
  nd : NdS S
  vld : Vld S.leaf S.maks
  fit : ∀ g ∈ S.pg, FitM S.leaf S.maks g
  few : S.pg.length ≤ 60
theorem vPg.fitM {leaf : Str} {M : Mak} {g g' : Pg} (v : vPg g g') (h : FitM leaf M g) : FitM leaf M g' := by
  obtain ⟨a, b, c⟩ := h
  have f : FitP (leaf :: keysOf M) M g := ⟨a, fun z m => by
    rcases b z m with rfl | h
    · exact List.mem_cons_self
    · exact List.mem_cons_of_mem _ h, c⟩
  obtain ⟨a', b', c'⟩ := v.fit f
  exact ⟨a', fun z m => List.mem_cons.mp (b' z m), c'⟩
theorem vPg.odd {g g' : Pg} (v : vPg g g') (h : oddB g = true) : oddB g' = true := by
  obtain ⟨a, b, c, d⟩ := v
  have h := of_decide_eq_true h
  refine decide_eq_true ⟨by rw [a]; exact h.1, ?_⟩
  rcases d with d | d | d
  · rw [d]; exact h.2
  · rw [d]; decide +kernel
  · rw [d]; decide +kernel
theorem BkF.var {bk ls : List PLine} (h : BkF bk) (v : VarL bk ls) : BkV (stOf ls) := by
  have b := v.bk
  refine ⟨fun g m => ?_, b.nd h.nd, ?_, fun g m => ?_, ?_⟩
  · obtain ⟨g0, m0, v0⟩ := b.pg.mem m
    exact v0.odd (h.odd g0 m0)
  · rw [b.leaf, b.maks]
    exact h.vld
  · obtain ⟨g0, m0, v0⟩ := b.pg.mem m
    rw [b.leaf, b.maks]
    exact v0.fitM (h.fit g0 m0)
  · have l1 := (stOf_len ls).2.2.2
    have l2 := v.len
    have l3 := h.few
    omega
end Kl
set_option maxRecDepth 100000
set_option maxHeartbeats 4000000
namespace Kl
open PySem PySem.Spec PyProof.Rows L2 Gx Mx LamX
section
variable {P : Program} {w : World} {K : PySem.W.Frag} {d : Addr} {G G' : Hp}
theorem dice_but (hd : DiceAt G d) (s : SameX d G G') : ButD d G G' := by
  obtain ⟨a, b, c, e⟩ := hd
  exact butD_of s e (fun _ => nofun) (fun _ _ => nofun)
theorem PlDict.dice {R : Hp → V → Pg → Prop} {x : Addr} {gs : List Pg} (h : PlDict R P w K G x gs) (hd : DiceAt G d) (s : SameX d G G') (r : ∀ v g, R G v g → R G' v g) : PlDict R P w K G' x gs := by
  have hd' := hd
  obtain ⟨a, b, c, e⟩ := hd'
  exact h.go (fun o q => s _ _ (h.ne e fun L z => dn_nolst _ z.symm) q) (dice_but hd s).sq r
theorem PageAt.dice {C x : Addr} {g : Pg} (h : PageAt K C G x g) (hd : DiceAt G d) (s : SameX d G G') : PageAt K C G' x g := by
  have bu := dice_but hd s
  obtain ⟨a, b, c, e⟩ := hd
  obtain ⟨dx, pp, mp, h1, h2, h3⟩ := h
  exact ⟨dx, pp, mp, s _ _ (fun z => by rw [z, e] at h1; cases h1) h1, bu.sq _ _ h2, bu.sq _ _ h3⟩
theorem MachAt.dice {CM CP CK m kx md : Addr} {leaf : Str} {M : Mak} {ns : List Str} {gs gs' : List Pg} (h : MachAt P w K CM CP CK G m kx md leaf M ns gs gs') (hd : DiceAt G d) (s : SameX d G G') : MachAt P w K CM CP CK G' m kx md leaf M ns gs gs' := by
  have bu := dice_but hd s
  have hd' := hd
  obtain ⟨a, b, c, e⟩ := hd'
  obtain ⟨dm, ld, pd, h1, h2, h3, h4⟩ := h
  refine ⟨dm, ld, pd, s _ _ (fun z => by rw [z, e] at h1; cases h1) h1, h2.dice hd s, h3.dice hd s fun v g h => ?_, h4.dice hd s fun v g h => ?_⟩
  · obtain ⟨a, ev, q⟩ := h
    exact ⟨a, ev, bu.sq _ _ q⟩
  · obtain ⟨a, ev, q⟩ := h
    exact ⟨a, ev, q.dice hd s⟩
theorem PlainIn.dice {p m e r s' g : Addr} {S : Bk} (h : PlainIn P w K G p m e r s' g S) (hd : DiceAt G d) (s : SameX d G G') : PlainIn P w K G' p m e r s' g S := by
  have bu := dice_but hd s
  have hd' := hd
  obtain ⟨a, b, c, ed⟩ := hd'
  obtain ⟨kvs, em, hM⟩ := h.hm
  have ne : e ≠ d := fun z => by
    have := h.he
    rw [z, ed] at this
    have h2 := HO.lst.inj (Option.some.inj this)
    cases c0 : S.ends with
    | nil => rw [c0] at h2; cases h2
    | cons y l => rw [c0] at h2; cases (List.cons.inj h2).1
  exact ⟨s _ _ (fun z => by have := h.hp; rw [z, ed] at this; cases this) h.hp, ⟨kvs, s _ _ (fun z => by rw [z, ed] at em; cases em) em, hM.same bu.tz⟩, s _ _ ne h.he, h.hr.dice hd s fun _ _ z => z,
    s _ _ (fun z => by have := h.hs; rw [z, ed] at this; cases this) h.hs, h.hg.dice hd s fun _ _ z => rval_go bu.sq z, h.mp, h.sp, h.ms, h.rg⟩
theorem PlainAt.dice {p : Addr} {S : Bk} (h : PlainAt P w K G p S) (hd : DiceAt G d) (s : SameX d G G') : PlainAt P w K G' p S := by
  obtain ⟨m, e, r, s', g, h⟩ := h
  exact ⟨m, e, r, s', g, h.dice hd s⟩
theorem PlainAt.same {p : Addr} {S : Bk} (h : PlainAt P w K G p S) (s : Same G G') : PlainAt P w K G' p S := by
  obtain ⟨m, e, r, s', g, h⟩ := h
  exact ⟨m, e, r, s', g, h.same s⟩
end
theorem good_mk {m : Nat} {q : List Str} (h1 : q.length ≤ m) (h2 : ∀ z ∈ q, nameB z = true) (h3 : sortedS q = true) : goodM m q = true := by
  unfold goodM
  simp only [Bool.and_eq_true, decide_eq_true_eq, List.all_eq_true]
  exact ⟨h1, h2, h3⟩
theorem pageOf_perm {gs hs : List Pg} (p : gs.Perm hs) (nd : (gs.map placeP).Nodup) (n : Str) (pool : List Str) : pageOf gs n pool = pageOf hs n pool := by
  have nd2 := (p.map placeP).nodup_iff.mp nd
  by_cases c : (n, pool) ∈ gs.map placeP
  · obtain ⟨g, mg, e⟩ := List.mem_map.mp c
    have e1 : g.note = n := congrArg Prod.fst e
    have e2 : g.pool = pool := congrArg Prod.snd e
    rw [← e1, ← e2, pageOf_some nd mg, pageOf_some nd2 (p.mem_iff.mp mg)]
  · have c2 : (n, pool) ∉ hs.map placeP := fun h => c ((p.map placeP).mem_iff.mpr h)
    rw [pageOf_none c, pageOf_none c2]
theorem stepM_eq {M N : Mak} {gs hs : List Pg} (o : ∀ z, lookM M z = lookM N z) (p : gs.Perm hs) (nd : (gs.map placeP).Nodup) (n : Str) (pool : List Str) : stepM M gs n pool = stepM N hs n pool := by
  unfold stepM
  rw [pageOf_perm p nd]
  cases pageOf hs n pool with
  | none => rfl
  | some g =>
    have e : partsM M g = partsM N g := by
      unfold partsM
      exact List.map_congr_left fun z _ => by rw [o]
    show (restM M g, g.made, g.after) = (restM N g, g.made, g.after)
    unfold restM
    rw [e]
theorem left_mem : ∀ (ms : List (List Str)) {r r' : List Str}, leftM r ms = some r' → ∀ z ∈ r', z ∈ r
  | [], r, r', h => by cases h; exact fun _ m => m
  | m :: ms, r, r', h => by
    unfold leftM at h
    split at h
    · cases h
    · cases c : takeAll r m with
      | none => rw [c] at h; cases h
      | some r2 =>
        rw [c] at h
        have h1 := left_mem ms (show leftM r2 ms = some r' from h)
        have h2 := (take_len m c).2
        exact fun z mz => h2 z (h1 z mz)
theorem stepM_names {M : Mak} {gs : List Pg} (ok : ∀ g ∈ gs, PgOk g) {n : Str} {pool : List Str} (hn : nameB n = true) (hp : ∀ z ∈ pool, nameB z = true) :
    (∀ z ∈ (stepM M gs n pool).1, nameB z = true) ∧ (∀ z ∈ (stepM M gs n pool).2.1, nameB z = true) ∧ nameB (stepM M gs n pool).2.2 = true := by
  unfold stepM
  cases c : pageOf gs n pool with
  | none => exact ⟨hp, nofun, hn⟩
  | some g =>
    have mg : g ∈ gs := List.mem_of_find?_eq_some c
    have og := ok g mg
    refine ⟨fun z m => ?_, good_names og.m, og.a⟩
    have m : z ∈ restM M g := m
    unfold restM at m
    cases c2 : leftM g.pool (partsM M g) with
    | none => rw [c2] at m; cases m
    | some r =>
      rw [c2] at m
      exact good_names og.p z (left_mem _ c2 z m)
abbrev stepD (r : List Str × List Str × Str) : PyData := .tuple [.tuple (tD r.1), .tuple (tD r.2.1), .str r.2.2]
theorem stepD_lay {r : List Str × List Str × Str} (h1 : ∀ z ∈ r.1, nameB z = true) (h2 : ∀ z ∈ r.2.1, nameB z = true) (h3 : nameB r.2.2 = true) : Lay 2 (stepD r) :=
  .tup (lay_cons (.txts fun z m => names_low (h1 z m)) (lay_cons (.txts fun z m => names_low (h2 z m)) (lay_cons (.str (names_low h3)) lay_nil)))
end Kl
set_option maxRecDepth 100000
set_option maxHeartbeats 4000000
namespace Kl
open PySem PySem.Spec PyProof.Rows L2 Gx Mx
theorem Paired.snoc {α β : Type} {F : α → β → Prop} {a : α} {b : β} (h : F a b) : ∀ {l₁ : List α} {l₂ : List β}, Paired F l₁ l₂ → Paired F (l₁ ++ [a]) (l₂ ++ [b])
  | _, _, .nil => .cons h .nil
  | _, _, .cons x r => .cons x (Paired.snoc h r)
theorem take_snoc {α : Type} {l : List α} {i : Nat} {x : α} (h : l[i]? = some x) : l.take (i + 1) = l.take i ++ [x] := by
  rw [List.take_add_one, h]
  rfl
/-- an instance that was made -/
theorem made {C x dx md : Addr} {G H1 : Hp} (nx : G x = none) (ndx : G dx = none) (nmd : (upd (upd G dx (.own x)) x (.ins C dx [])) md = none) (keep : ∀ b o, b ≠ x → (upd (upd G dx (.own x)) x (.ins C dx [])) b = some o → H1 b = some o) : Same G H1 ∧ G md = none := by
  refine ⟨fun b u e => keep b u (ne_of_none e nx) (by rw [upd_ne (ne_of_none e nx), upd_ne (ne_of_none e ndx)]; exact e), ?_⟩
  have n1 : md ≠ x := fun z => by
    rw [z, upd_same] at nmd
    cases nmd
  rw [upd_ne n1] at nmd
  have n2 : md ≠ dx := fun z => by
    rw [z, upd_same] at nmd
    cases nmd
  rwa [upd_ne n2] at nmd
abbrev Row := List (Str × Nat)
def keysR (R : Row) : List Str := R.map (·.1)
def lookR (R : Row) (z : Str) : Option Nat := (R.find? fun q => decide (q.1 = z)).map (·.2)
def getR (R : Row) (z : Str) : Nat := (lookR R z).getD 0
def fitsR (E : List Str) (ps : List Str) : Bool := ps.all fun p => decide (p ∈ E)
def aboveE (M : Mak) (E : List Str) : List Str := (M.filter fun m => fitsR E m.2).map (·.1)
def aboveR (M : Mak) (R : Row) : Row := (M.filter fun m => fitsR (keysR R) m.2).map fun m => (m.1, (m.2.map (getR R)).sum)
def rowsR (leaf : Str) (M : Mak) : Nat → Row
  | 0 => [(leaf, 1)]
  | r + 1 => aboveR M (rowsR leaf M r)
def setR (leaf : Str) (M : Mak) (r : Nat) : List Str := keysR (rowsR leaf M r)
theorem keys_above (M : Mak) (R : Row) : keysR (aboveR M R) = aboveE M (keysR R) := by
  unfold keysR aboveR aboveE
  rw [List.map_map]
  rfl
theorem set_succ (leaf : Str) (M : Mak) (r : Nat) : setR leaf M (r + 1) = aboveE M (setR leaf M r) := keys_above M _
theorem lookR_cons (q : Str × Nat) (R : Row) (z : Str) : lookR (q :: R) z = if q.1 = z then some q.2 else lookR R z := by
  unfold lookR
  rw [List.find?_cons]
  by_cases h : q.1 = z
  · rw [if_pos h, decide_eq_true h]
    rfl
  · rw [if_neg h, decide_eq_false h]
theorem lookR_in {R : Row} {z : Str} (h : z ∈ keysR R) : ∃ n, lookR R z = some n := by
  induction R with
  | nil => cases h
  | cons q R ih =>
    rw [lookR_cons]
    by_cases e : q.1 = z
    · exact ⟨q.2, if_pos e⟩
    · rw [if_neg e]
      rcases List.mem_cons.mp (show z ∈ q.1 :: keysR R from h) with h | h
      · exact absurd h.symm e
      · exact ih h
theorem lookR_no {R : Row} {z : Str} (h : z ∉ keysR R) : lookR R z = none := by
  induction R with
  | nil => rfl
  | cons q R ih =>
    have h' : ¬ (z = q.1 ∨ z ∈ keysR R) := fun c => h (List.mem_cons.mpr c)
    rw [lookR_cons, if_neg fun e => h' (.inl e.symm)]
    exact ih fun c => h' (.inr c)
/-- the dict of a row -/
def rowK (R : Row) : List (Key × V) := R.map fun q => (Sum.inr q.1, V.int (q.2 : Nat))
theorem rowK_keys (R : Row) : (rowK R).map (·.1) = (keysR R).map Sum.inr := by
  unfold rowK keysR
  rw [List.map_map, List.map_map]
  rfl
theorem rowK_len (R : Row) : (rowK R).length = R.length := List.length_map _
theorem rowK_look (R : Row) (z : Str) : valV (rowK R) (Sum.inr z) = (lookR R z).map fun n => V.int (n : Nat) := by
  induction R with
  | nil => rfl
  | cons q R ih =>
    rw [lookR_cons]
    show valV ((Sum.inr q.1, V.int (q.2 : Nat)) :: rowK R) _ = _
    by_cases e : q.1 = z
    · rw [if_pos e, valV_pos (by rw [e])]
      rfl
    · rw [if_neg e, valV_neg fun c => e (Sum.inr.inj c)]
      exact ih
theorem rowK_get {R : Row} {z : Str} (h : z ∈ keysR R) : valV (rowK R) (Sum.inr z) = some (.int (getR R z : Nat)) := by
  obtain ⟨n, e⟩ := lookR_in h
  rw [rowK_look, e]
  unfold getR
  rw [e]
  rfl
theorem set_sub {leaf : Str} {M : Mak} : ∀ (r : Nat), ∀ z ∈ setR leaf M r, z = leaf ∨ z ∈ keysOf M
  | 0, z, h => .inl (List.mem_singleton.mp h)
  | r + 1, z, h => by
    rw [set_succ] at h
    obtain ⟨m, hm, rfl⟩ := List.mem_map.mp h
    exact .inr (List.mem_map.mpr ⟨m, (List.mem_filter.mp hm).1, rfl⟩)
theorem above_sub (M : Mak) (E : List Str) : (aboveE M E).Sublist (keysOf M) := List.Sublist.map _ List.filter_sublist
theorem set_nd {leaf : Str} {M : Mak} (d : (keysOf M).Nodup) : ∀ r, (setR leaf M r).Nodup
  | 0 => List.nodup_cons.mpr ⟨List.not_mem_nil, List.nodup_nil⟩
  | r + 1 => by
    rw [set_succ]
    exact d.sublist (above_sub M _)
theorem set_len {leaf : Str} {M : Mak} (v : Vld leaf M) (r : Nat) : (setR leaf M r).length ≤ 6 := v.few _ (set_nd v.nd r) (set_sub r)
theorem rows_len {leaf : Str} {M : Mak} (v : Vld leaf M) (r : Nat) : (rowsR leaf M r).length ≤ 6 := by
  have h := set_len v r
  unfold setR keysR at h
  rw [List.length_map] at h
  exact h
end Kl
set_option maxRecDepth 100000
set_option maxHeartbeats 4000000
namespace Kl
open PySem PySem.Spec PyProof.Rows L2 Gx Mx
def TxtsAt (K : PySem.W.Frag) (H : Hp) (L : List (Addr × List Str)) : Prop := ∀ q ∈ L, SqT K H q.1 (q.2.map V.str)
theorem sqT_sm {K : PySem.W.Frag} {H H' : Hp} (s : Same H H') {a : Addr} {xs : List V} (h : SqT K H a xs) : SqT K H' a xs := by
  rcases h with (h | ⟨o, h⟩) | h
  · exact .inl (.inl (s _ _ h))
  · exact .inl (.inr ⟨o, s _ _ h⟩)
  · exact .inr h
structure RowAt (K : PySem.W.Frag) (H : Hp) (p : Addr) (LL : List (Addr × List Str)) : Prop where
  e : SqT K H p (LL.map fun q => V.ref q.1)
  t : TxtsAt K H LL
theorem RowAt.same {K : PySem.W.Frag} {H H' : Hp} {p : Addr} {LL : List (Addr × List Str)} (h : RowAt K H p LL) (s : Same H H') : RowAt K H' p LL := ⟨sqT_sm s h.e, fun q hq => sqT_sm s (h.t q hq)⟩
/-- a digit: at most 20 sorted names -/
def goodB (q : List Str) : Bool := decide (q.length ≤ 20) && (q.all nameB && sortedS q)
/-- not too great for the judges -/
def Few (qs : List (List Str)) : Prop := qs.length ≤ 1000 ∧ ∀ q ∈ qs, q.length ≤ 1000 ∧ ∀ z ∈ q, z.length ≤ 1000
section
variable {P : Program} {w : World} {K : PySem.W.Frag} {mg : Str → Option Value} {base : Heap}
def spDig (K : PySem.W.Frag) : Sp := fun vs H Q _ => ∃ (p : Addr) (LL : List (Addr × List Str)), vs = [V.ref p] ∧ RowAt K H p LL ∧ Few (LL.map (·.2)) ∧ ∀ H', Same H H' → Q (.bl (LL.all fun q => goodB q.2)) H'
abbrev NDG : List Str := ["value", "digit"]
theorem ok_dig {f : Addr} {fd : FuncData} (F : Fun K "are_digits" "are_digits" s_are_digits f fd) (T : Top K mg) : FnOk P w K mg base CX0 4 f fd ["value"] (spDig K) := by
  obtain ⟨tm, gm⟩ := T.g_LOOSE_DIGIT
  have cs : CalO P w K mg base 3 "is_sorted" ["value", "most"] 1 ["most"] (fun vs zs => vs ++ zs) (spSorted K) := T.d_is_sorted.calO fun f fd F => ok_sorted F T
  refine F.ok sc_are_digits (fun vs H Q E h => ?_) (fun cdv A outer s H vs Q E hr h => ?_)
  · obtain ⟨p, LL, rfl, _⟩ := h
    rfl
  · obtain ⟨p, LL, rfl, hR, hF, q⟩ := h
    refine ⟨_, pss_one (ps_ret (pe_and (pe_callB call_isi (by rfl) T.b_isinstance (by decide +kernel) (pa_cons (pv 0) (pa_cons (pe_bltn (v := .ty "tuple") (by rfl) T.b_tuple (by decide +kernel) rfl) pa_nil)))
      (pe_one (pe_callB (cr_all rfl) (by rfl) T.b_all (by decide +kernel) (pa_cons (pe_lc (own := [("digit", 1)]) (g := gName 1) (tt := tYes) rfl sc_are_digits.nd (pi_tup (pv 0))
        (blkOk_by (N := NDG) (sc := defScope s_are_digits) (by decide +kernel)) (fun _ _ _ _ _ => pg_name (i := 1) sc_are_digits.nd rfl (.inl rfl)) (fun _ _ _ _ _ => pts_nil)
        (fun _ _ _ _ _ => pe_calO cs hr (by rfl) (pa_cons (pv 1) pa_nil) (pk_cons (pe_glob (v := .int 20) (by rfl) gm ⟨_, rfl⟩) pk_nil))) pa_nil))))), ?_⟩
    have big : 100000 ≤ sizeLine := by decide
    refine ⟨_, rfl, _, .ty "tuple", .type "tuple", .type "tuple", true, rfl, .ty _, tyx_sqT hR.e, kit_ty (by decide +kernel), true, rfl, ?_⟩
    rw [if_pos rfl]
    have l1 : LL.length ≤ 1000 := by
      have := hF.1
      rw [List.length_map] at this
      exact this
    refine ⟨_, rfl, p, rfl, ⟨_, hR.e⟩, fun D hD => ?_⟩
    refine lc_it (g := gName 1) (tt := tYes) (vs := [1]) (walk_tup (K := K) (a := p) (xs := LL.map fun q => V.ref q.1)) (fun j G' => G' D = some (.lst (((LL.take j).map fun q => goodB q.2).map V.bl)) ∧ Same H G')
      ⟨upd_same, same_new (Same.refl H) hD⟩ (fun j G' _ h => sqT_sm h.2 hR.e) (fun j u Gx G' hj h hy => ?_) (fun G' h => ?_)
    · obtain ⟨eD, sm⟩ := h
      obtain ⟨rfl, hu⟩ := hy
      have hu : (LL.map fun q => V.ref q.1)[j]? = some u := hu
      rw [List.getElem?_map] at hu
      obtain ⟨q0, hq0, rfl⟩ := Option.map_eq_some_iff.mp hu
      have hm := List.mem_of_getElem? hq0
      obtain ⟨f1, f2⟩ := hF.2 q0.2 (List.mem_map.mpr ⟨_, hm, rfl⟩)
      have hs := sqT_sm sm (hR.t q0 hm)
      refine ⟨rfl, _, rfl, rfl, rfl, q0.1, q0.2, 20, rfl, hs, tyx_sqT hs, by decide, by decide, f1, f2, fun G3 s3 => ?_⟩
      refine ⟨_, s3 _ _ eD, ?_, ?_, fun b o e => by rw [upd_ne (ne_of_none e hD)]; exact s3 _ _ (sm b o e)⟩
      · rw [List.length_map, List.length_map, List.length_take]
        omega
      · rw [upd_same, take_snoc hq0, List.map_append, List.map_append]
        show some (HO.lst (_ ++ [V.bl _])) = some (HO.lst (_ ++ [V.bl (goodB q0.2)]))
        unfold goodB
        rw [show decide (((q0.2.length : Nat) : Int) ≤ 20) = decide (q0.2.length ≤ 20) by rw [decide_eq_decide]; omega]
    · obtain ⟨eD, sm⟩ := h
      rw [List.length_map, List.take_length] at eD
      refine ⟨D, _, rfl, .inl (.inl eD), ?_⟩
      rw [List.all_map]
      exact q G' sm
def spLDig (K : PySem.W.Frag) : Sp := fun vs H Q _ => ∃ (p : Addr) (LL : List (Addr × List Str)), vs = [V.ref p] ∧ RowAt K H p LL ∧ Few (LL.map (·.2)) ∧ ∀ H', Same H H' → Q (.bl (decide (LL.length ≤ 402) && LL.all fun q => goodB q.2)) H'
theorem ok_ldig {f : Addr} {fd : FuncData} (F : Fun K "are_loose_digits" "are_loose_digits" s_are_loose_digits f fd) (T : Top K mg) : FnOk P w K mg base CX0 5 f fd ["value"] (spLDig K) := by
  obtain ⟨tm, gm⟩ := T.g__LOOSE_RANKS
  have cd : Cal P w K mg base 4 "are_digits" ["value"] (spDig K) := T.d_are_digits.cal fun f fd F => ok_dig F T
  refine F.ok sc_are_loose_digits (fun vs H Q E h => ?_) (fun cdv A outer s H vs Q E hr h => ?_)
  · obtain ⟨p, LL, rfl, _⟩ := h
    rfl
  · obtain ⟨p, LL, rfl, hR, hF, q⟩ := h
    refine ⟨_, pss_one (ps_ret (pe_and (pe_callB call_isi (by rfl) T.b_isinstance (by decide +kernel) (pa_cons (pv 0) (pa_cons (pe_bltn (v := .ty "tuple") (by rfl) T.b_tuple (by decide +kernel) rfl) pa_nil)))
      (pe_and (pe_cmpR op_le (pe_callB call_len_seq (by rfl) T.b_len PySem.boot_len (pa_cons (pv 0) pa_nil)) (pe_glob (v := .int 402) (by rfl) gm ⟨_, rfl⟩) (nomark _))
        (pe_one (pe_cal cd hr (by rfl) (pa_cons (pv 0) pa_nil)))))), ?_⟩
    refine ⟨_, rfl, _, .ty "tuple", .type "tuple", .type "tuple", true, rfl, .ty _, tyx_sqT hR.e, kit_ty (by decide +kernel), true, rfl, ?_⟩
    rw [if_pos rfl]
    refine ⟨_, rfl, p, _, rfl, .inr hR.e, _, _, rfl, rfl, _, rfl, ?_⟩
    rw [List.length_map, show decide (((LL.length : Nat) : Int) ≤ 402) = decide (LL.length ≤ 402) by rw [decide_eq_decide]; omega]
    cases c : decide (LL.length ≤ 402) with
    | false =>
      rw [if_neg (by decide)]
      have h1 := q H (Same.refl H)
      rw [c, Bool.false_and] at h1
      exact h1
    | true =>
      rw [if_pos rfl]
      refine ⟨_, rfl, p, LL, rfl, hR, hF, fun H' s => ?_⟩
      have h1 := q H' s
      rw [c, Bool.true_and] at h1
      exact h1
end
end Kl
set_option maxRecDepth 100000
set_option maxHeartbeats 4000000
namespace Kl
open PySem PySem.Spec PyProof.Rows L2 Gx Mx
def rSlS (K : PySem.W.Frag) : V → Option Int → Option Int → Hp → VK → Prop := fun x lo hi H Q => ∃ a xs, x = .ref a ∧ SqT K H a xs ∧ ∀ p G, Same H G → SqT K G p (cutV xs lo hi) → Q (.ref p) G
theorem cut_whole {xs : List V} {lo hi : Option Int} (h : HT.sIx xs.length 0 lo = 0 ∧ HT.sIx xs.length xs.length hi = xs.length) : cutV xs lo hi = xs := by
  unfold cutV
  rw [h.1, h.2, List.drop_zero, Nat.sub_zero, List.take_length]
theorem sl_tupS {X : Cx} : SlR X (rSlS X.K) := by
  intro pins s σ H x v vl vu lo hi sl Q I rx hs pl pu h
  obtain ⟨a, xs, rfl, ea, q⟩ := h
  exact sl_tupA pins s σ H _ v vl vu lo hi sl Q I rx hs pl pu ⟨a, xs, rfl, ea, fun hw => q a H (Same.refl H) (by rw [cut_whole hw]; exact ea), fun _ p np => q p _ (same_new (Same.refl H) np) (.inl (.inl upd_same))⟩
def rCatS (K : PySem.W.Frag) : R2 := fun x y H Q => ∃ a b xs ys, x = .ref a ∧ y = .ref b ∧ SqT K H a xs ∧ SqT K H b ys ∧ xs.length + ys.length ≤ sizeLine ∧ ∀ p G, Same H G → SqT K G p (xs ++ ys) → Q (.ref p) G
theorem op_catS {X : Cx} : OpR X (binaryOp .Add) (rCatS X.K) := by
  intro pins s σ H x y v u Q I rx ry h
  obtain ⟨a, b, xs, ys, rfl, rfl, ha, hb, hz, q⟩ := h
  refine op_catA pins s σ H _ _ v u Q I rx ry ⟨a, b, xs, ys, rfl, rfl, ha, hb, hz, fun e => q b H (Same.refl H) (by rw [e]; exact hb), fun _ e => q a H (Same.refl H) (by rw [e, List.append_nil]; exact ha), fun _ _ p np => q p _ (same_new (Same.refl H) np) (.inl (.inl upd_same))⟩
end Kl
set_option maxRecDepth 100000
set_option maxHeartbeats 4000000
namespace Kl
open PySem PySem.Spec PyProof.Rows L2 Gx Mx
abbrev rD (qs : List (List Str)) : PyData := .tuple (qs.map fun z => .tuple (tD z))
theorem dp_refs {K : PySem.W.Frag} {H : Hp} : ∀ {LL : List (Addr × List Str)}, TxtsAt K H LL → DpAll K H (LL.map fun q => V.ref q.1) ((LL.map (·.2)).map fun z => PyData.tuple (tD z))
  | [], _ => .nil
  | q :: LL, h => .cons (.tup (h q List.mem_cons_self) (dp_texts _)) (dp_refs fun x hx => h x (List.mem_cons_of_mem _ hx))
theorem RowAt.dp {K : PySem.W.Frag} {H : Hp} {p : Addr} {LL : List (Addr × List Str)} (h : RowAt K H p LL) : Dp K H (.ref p) (rD (LL.map (·.2))) := .tup h.e (dp_refs h.t)
theorem row_all : ∀ {qs : List (List Str)}, (∀ q ∈ qs, ∀ z ∈ q, PyData.strOk z = true) → PyData.canLayAll0 (qs.map fun z => PyData.tuple (tD z)) = true ∧ PyData.depthAll (qs.map fun z => PyData.tuple (tD z)) ≤ 2
  | [], _ => ⟨rfl, Nat.zero_le _⟩
  | q :: qs, h => by
    obtain ⟨i1, i2⟩ := row_all (qs := qs) fun x hx => h x (List.mem_cons_of_mem _ hx)
    have c := canLay_texts q (h q List.mem_cons_self)
    have d := depth_texts q
    refine ⟨?_, ?_⟩
    · rw [List.map_cons, PyData.canLayAll0, i1]
      show (PyData.canLayAll0 (tD q) && true) = true
      rw [c]
      rfl
    · rw [List.map_cons, PyData.depthAll, PyData.depth]
      omega
section
variable {P : Program} {w : World} {K : PySem.W.Frag} {mg : Str → Option Value} {base : Heap}
def spDigAt (K : PySem.W.Frag) : Sp := fun vs H Q _ => ∃ (p : Addr) (LL : List (Addr × List Str)) (r : Nat), vs = [V.ref p, V.int (r : Nat)] ∧ RowAt K H p LL ∧ ∀ (a : Addr) H', Same H H' → SqT K H' a (((LL[r]?.map (·.2)).getD []).map V.str) → Q (.ref a) H'
theorem ok_digat {f : Addr} {fd : FuncData} (F : Fun K "digit_at" "digit_at" s_digit_at f fd) (T : Top K mg) : FnOk P w K mg base CX0 1 f fd ["digits", "rank"] (spDigAt K) := by
  refine F.ok sc_digit_at (fun vs H Q E h => ?_) (fun cdv A outer s H vs Q E hr h => ?_)
  · obtain ⟨p, LL, r, rfl, _⟩ := h
    rfl
  · obtain ⟨p, LL, r, rfl, hR, q⟩ := h
    refine ⟨_, pss_one (ps_ret (pe_ifExp (pt_cmpR op_lt (pv 1) (pe_callB call_len_seq (by rfl) T.b_len PySem.boot_len (pa_cons (pv 0) pa_nil)) (nomark _)) (pe_ix ix_tup (pv 0) (pv 1) (fun _ _ => rfl)) (pe_tup pa_nil))), ?_⟩
    refine ⟨_, rfl, _, rfl, p, _, rfl, .inr hR.e, _, _, rfl, rfl, _, rfl, ite2 (fun c => ?_) (fun c => ?_)⟩
    · have hr' : r < LL.length := by
        have := of_decide_eq_true c
        rw [List.length_map] at this
        omega
      have hq : LL[r]? = some LL[r] := List.getElem?_eq_getElem hr'
      refine ⟨_, rfl, _, rfl, p, _, _, .ref LL[r].1, rfl, rfl, hR.e, ?_, ?_⟩
      · rw [show (LL.map fun q => V.ref q.1) = (LL.map fun q => V.ref q.1) from rfl]
        refine atI_nat ?_
        rw [List.getElem?_map, hq]
        rfl
      · refine q _ H (Same.refl H) ?_
        rw [hq]
        exact hR.t _ (List.mem_of_getElem? hq)
    · have hr' : LL.length ≤ r := by
        rw [List.length_map] at c
        have h : ¬ ((r : Nat) : Int) < ((LL.length : Nat) : Int) := fun h => c (decide_eq_true h)
        omega
      refine ⟨Nat.zero_le _, fun p2 n2 => q _ _ (same_new (Same.refl H) n2) ?_⟩
      rw [List.getElem?_eq_none hr']
      exact .inl (.inl upd_same)
/-- two digits as one -/
def spMerged (K : PySem.W.Frag) : Sp := fun vs H Q _ => ∃ (a b : Addr) (xs ys : List Str), vs = [V.ref a, V.ref b] ∧ SqT K H a (xs.map V.str) ∧ SqT K H b (ys.map V.str) ∧ xs.length + ys.length ≤ 1000 ∧
  ∀ (p : Addr) (zs : List Str) H', Same H H' → zs.Perm (xs ++ ys) → sortedS zs = true → H' p = some (.tup (zs.map V.str)) → Q (.ref p) H'
theorem ok_merged {f : Addr} {fd : FuncData} (F : Fun K "merged" "merged" s_merged f fd) (T : Top K mg) : FnOk P w K mg base CX0 1 f fd ["one", "other"] (spMerged K) := by
  refine F.ok sc_merged (fun vs H Q E h => ?_) (fun cdv A outer s H vs Q E hr h => ?_)
  · obtain ⟨a, b, xs, ys, rfl, _⟩ := h
    rfl
  · obtain ⟨a, b, xs, ys, rfl, ha, hb, hl, q⟩ := h
    refine ⟨_, pss_one (ps_ret (pe_callTy call_tuple_of (by rfl) T.b_tuple (by decide +kernel) (pa_cons (pe_callB cr_sortedTS (by rfl) T.b_sorted (by decide +kernel) (pa_cons (pe_op op_catS (pv 0) (pv 1)) pa_nil)) pa_nil))), ?_⟩
    have big : 100000 ≤ sizeLine := by decide
    refine ⟨_, rfl, _, rfl, a, b, _, _, rfl, rfl, ha, hb, by rw [List.length_map, List.length_map]; omega, fun p1 G1 s1 hp1 => ?_⟩
    rw [← List.map_append] at hp1
    refine ⟨p1, xs ++ ys, rfl, hp1, by rw [List.length_append]; omega, fun zs p2 hperm hs n2 => ?_⟩
    have s2 := same_new (o := .lst (zs.map V.str)) s1 n2
    refine ⟨p2, _, rfl, .inl ⟨.inl (.inl upd_same), fun p3 n3 => ?_⟩⟩
    exact q p3 zs _ (same_new s2 n3) hperm hs upd_same
end
end Kl
set_option maxRecDepth 100000
set_option maxHeartbeats 4000000
namespace Kl
open PySem PySem.Spec PyProof.Rows L2 Gx Mx
theorem len_sum : ∀ l : List (List Str), (l.map fun q => ((q.length : Nat) : Int)).sum = (((l.map List.length).sum : Nat) : Int)
  | [] => rfl
  | p :: l => by
    rw [List.map_cons, List.sum_cons, len_sum l, List.map_cons, List.sum_cons, Int.natCast_add]
theorem call_lenK {X : Cx} {K : PySem.W.Frag} (hk : X.K = K) : CallR X (.builtin "len") (fun xs H Q => ∃ p ys, xs = [V.ref p] ∧ (SqL K H p ys ∨ SqT K H p ys) ∧ Q (V.int (ys.length : Nat)) H) := by
  subst hk
  exact call_len_seq
/-- the digit at a place, none is () -/
def dg (qs : List (List Str)) (i : Nat) : List Str := (qs[i]?).getD []
end Kl
set_option maxRecDepth 100000
set_option maxHeartbeats 4000000
namespace Kl
open PySem PySem.Spec PyProof.Rows L2 Gx Mx
section
variable {P : Program} {w : World} {K : PySem.W.Frag} {mg : Str → Option Value} {base : Heap}
/-- where a row ends -/
def IsEnd (qs : List (List Str)) (n : Nat) : Prop := n ≤ qs.length ∧ (∀ i, n ≤ i → dg qs i = []) ∧ (n = 0 ∨ dg qs (n - 1) ≠ [])
theorem cut_to0 {xs : List V} (n : Nat) : cutV xs none (some ((n : Nat) : Int)) = xs.take n := by
  unfold cutV
  rw [HT.sIx_nat, HT.sIx_none, List.drop_zero, Nat.sub_zero]
  by_cases h : n ≤ xs.length
  · rw [Nat.min_eq_left h]
  · rw [Nat.min_eq_right (by omega), List.take_length, List.take_of_length_le (by omega)]
def spTrim (K : PySem.W.Frag) : Sp := fun vs H Q _ => ∃ (p : Addr) (LL : List (Addr × List Str)), vs = [V.ref p] ∧ RowAt K H p LL ∧ Few (LL.map (·.2)) ∧ (∀ q ∈ LL, goodB q.2 = true) ∧
  ∀ (a : Addr) (n : Nat) H', Same H H' → IsEnd (LL.map (·.2)) n → RowAt K H' a (LL.take n) → Q (.ref a) H'
theorem ok_trim {f : Addr} {fd : FuncData} (F : Fun K "trimmed" "trimmed" s_trimmed f fd) (T : Top K mg) : FnOk P w K mg base CX0 5 f fd ["digits"] (spTrim K) := by
  have cd : Cal P w K mg base 4 "are_digits" ["value"] (spDig K) := T.d_are_digits.cal fun f fd F => ok_dig F T
  refine F.ok sc_trimmed (fun vs H Q E h => ?_) (fun cdv A outer s H vs Q E hr h => ?_)
  · obtain ⟨p, LL, rfl, _⟩ := h
    rfl
  · obtain ⟨p, LL, rfl, hR, hF, hg, q⟩ := h
    refine ⟨_, pss_cons (ps_if (pt_not (pt_val (pe_cal cd hr (by rfl) (pa_cons (pv 0) pa_nil)))) (pss_one ps_never) pss_nil)
      (pss_cut (ps_set (i := 1) sc_trimmed.nd rfl (.inl rfl) (pe_callB call_len_seq (by rfl) T.b_len PySem.boot_len (pa_cons (pv 0) pa_nil)))
      (pss_cut (ps_while PassesOwn.never (PW.pt (pw_and (pt_cmpR op_gt (pv 1) pe_int (nomark _)) (pw_and1 (pt_not (pt_truth (pe_ix ix_tup (pv 0) (pe_op op_sub (pv 1) pe_int) (fun _ _ => rfl)) (fun _ => rfl))))))
        (pss_one (ps_aug (i := 1) sc_trimmed.nd rfl (.inl rfl) pe_int ip_sub)))
      (pss_one (ps_ret (pe_slice sl_tupS (pv 0) po_none (po_some (pv 1))))))), ?_⟩
    refine ⟨_, rfl, p, LL, rfl, hR, hF, fun H1 s1 => ⟨_, rfl, ?_⟩⟩
    rw [List.all_eq_true.mpr hg]
    show (if (!true) = true then _ else _)
    rw [if_neg (by decide)]
    have hR1 := hR.same s1
    refine ⟨fun σ' G => σ' = [some (.ref p), some (.int (LL.length : Nat))] ∧ G = H1, ?_, ?_⟩
    · refine ⟨_, rfl, p, _, rfl, .inr hR1.e, ?_, rfl⟩
      rw [List.length_map]
      rfl
    rintro σ' G ⟨rfl, eG⟩
    have eG' := eG.symm
    subst eG'
    refine ⟨fun σ' G => ∃ n : Nat, σ' = [some (.ref p), some (.int (n : Nat))] ∧ G = H1 ∧ IsEnd (LL.map (·.2)) n, ?_, ?_⟩
    · refine ⟨fun m σ' G => σ' = [some (.ref p), some (.int (m : Nat))] ∧ G = H1 ∧ m ≤ LL.length ∧ ∀ i, m ≤ i → dg (LL.map (·.2)) i = [], ⟨LL.length, rfl, rfl, Nat.le_refl _, fun i hi => ?_⟩, fun m σ' G hW => ?_⟩
      · unfold dg
        rw [List.getElem?_eq_none (by rw [List.length_map]; exact hi)]
        rfl
      obtain ⟨rfl, eG, hm, hall⟩ := hW
      have eG' := eG.symm
      subst eG'
      refine ⟨_, rfl, _, _, rfl, rfl, _, rfl, ?_⟩
      cases m with
      | zero =>
        rw [decide_eq_false (show ¬ (((0 : Nat) : Int) > 0) by decide)]
        show (if false = true then _ else _)
        rw [if_neg (by decide)]
        show (if false = true then _ else _)
        rw [if_neg (by decide)]
        exact ⟨0, rfl, rfl, by rw [List.length_map]; exact hm, hall, .inl rfl⟩
      | succ m =>
        rw [decide_eq_true (show (((m + 1 : Nat) : Int) > 0) by omega)]
        show (if true = true then _ else _)
        rw [if_pos rfl]
        have hml : m < LL.length := hm
        have hq : LL[m]? = some LL[m] := List.getElem?_eq_getElem hml
        have hs := hR1.t _ (List.mem_of_getElem? hq)
        have ed : dg (LL.map (·.2)) m = LL[m].2 := by
          unfold dg
          rw [List.getElem?_map, hq]
          rfl
        refine ⟨_, rfl, _, rfl, _, _, rfl, rfl, p, _, _, .ref LL[m].1, rfl, rfl, hR1.e, ?_, !(LL[m].2.map V.str).isEmpty, .inr (.inl ⟨_, hs, rfl⟩), ?_⟩
        · rw [show ((m + 1 : Nat) : Int) - 1 = ((m : Nat) : Int) by omega]
          refine atI_nat ?_
          rw [List.getElem?_map, hq]
          rfl
        cases hc : LL[m].2 with
        | nil =>
          show (if (!(!true)) = true then _ else _)
          rw [if_pos (by decide)]
          refine ⟨fun σ' G => σ' = [some (.ref p), some (.int (m : Nat))] ∧ G = H1, fun σ' G h => ⟨m, Nat.lt_succ_self m, h.1, h.2, by omega, fun i hi => ?_⟩, ?_⟩
          · rcases Nat.eq_or_lt_of_le hi with h | h
            · rw [← h, ed, hc]
            · exact hall i h
          · refine ⟨_, rfl, _, _, rfl, rfl, ?_⟩
            refine ⟨?_, rfl⟩
            show [some (V.ref p), some (V.int (((m + 1 : Nat) : Int) - 1))] = _
            rw [show ((m + 1 : Nat) : Int) - 1 = ((m : Nat) : Int) by omega]
        | cons z zs =>
          show (if (!(!false)) = true then _ else _)
          rw [if_neg (by decide)]
          refine ⟨m + 1, rfl, rfl, by rw [List.length_map]; exact hm, hall, .inr ?_⟩
          rw [Nat.add_sub_cancel, ed, hc]
          exact List.cons_ne_nil _ _
    rintro σ' G ⟨n, rfl, eG, hE⟩
    have eG' := eG.symm
    subst eG'
    refine ⟨_, rfl, _, rfl, _, rfl, p, _, rfl, hR1.e, fun a G2 s2 ha => ?_⟩
    rw [cut_to0, ← List.map_take] at ha
    exact q a n G2 (fun b o e => s2 _ _ (s1 _ _ e)) hE ⟨ha, fun x hx => sqT_sm s2 (hR1.t x (List.mem_of_mem_take hx))⟩
end
end Kl
set_option maxRecDepth 100000
set_option maxHeartbeats 4000000
namespace Kl
open PySem PySem.Spec PyProof.Rows L2 Gx Mx LamX
abbrev Stp : Type := Str → List Str → List Str × List Str × Str
/-- what a machine's run tells of the digits ds, what is carried, the note: the new digits, the steps -/
inductive RunR (st : Stp) : List (List Str) → List Str → Str → List (List Str) → List (List Str × List Str × Str) → Prop where
  | nil {n : Str} : RunR st [] [] n [] []
  | step {ds : List (List Str)} {c : List Str} {n : Str} {pool : List Str} {rs : List (List Str)} {ss : List (List Str × List Str × Str)} : (ds ≠ [] ∨ c ≠ []) → pool.Perm (ds.headD [] ++ c) → sortedS pool = true →
      RunR st ds.tail (st n pool).2.1 (st n pool).2.2 rs ss → RunR st ds c n ((st n pool).1 :: rs) ((pool, (st n pool).2.1, (st n pool).2.2) :: ss)
theorem RunR.det {st : Stp} {ds : List (List Str)} {c : List Str} {n : Str} {rs : List (List Str)} {ss : List (List Str × List Str × Str)} (h : RunR st ds c n rs ss) : ∀ {rs' ss'}, RunR st ds c n rs' ss' → rs' = rs ∧ ss' = ss := by
  induction h with
  | nil =>
    intro rs' ss' h'
    cases h' with
    | nil => exact ⟨rfl, rfl⟩
    | step a b d e => rcases a with a | a <;> exact absurd rfl a
  | step a p s t ih =>
    intro rs' ss' h'
    cases h' with
    | nil => rcases a with a | a <;> exact absurd rfl a
    | step a' p' s' t' =>
      have e := sortedS_unique (p'.trans p.symm) s' s
      subst e
      obtain ⟨e1, e2⟩ := ih t'
      rw [e1, e2]
      exact ⟨rfl, rfl⟩
theorem left_perm : ∀ (ms : List (List Str)) {r r' : List Str}, leftM r ms = some r' → r.Perm (r' ++ ms.flatten) ∧ r'.Sublist r ∧ ∀ m ∈ ms, m ≠ [] := by
  have tk : ∀ (ps : List Str) {r r' : List Str}, takeAll r ps = some r' → r.Perm (r' ++ ps) ∧ r'.Sublist r := by
    intro ps
    induction ps with
    | nil => intro r r' h; cases h; rw [List.append_nil]; exact ⟨List.Perm.refl _, List.Sublist.refl _⟩
    | cons p ps ih =>
      intro r r' h
      have h : (if p ∈ r then takeAll (outS r p) ps else none) = some r' := h
      split at h
      · rename_i hp
        obtain ⟨a, b⟩ := ih h
        have e1 : r.Perm (p :: outS r p) := by
          have e2 := List.perm_cons_erase hp
          rw [List.erase_eq_eraseIdx_of_idxOf rfl] at e2
          exact e2
        refine ⟨e1.trans ?_, b.trans (List.eraseIdx_sublist _ _)⟩
        exact (a.cons p).trans List.perm_middle.symm
      · cases h
  intro ms
  induction ms with
  | nil => intro r r' h; cases h; exact ⟨by rw [List.flatten_nil, List.append_nil], List.Sublist.refl _, nofun⟩
  | cons m ms ih =>
    intro r r' h
    unfold leftM at h
    split at h
    · cases h
    · rename_i hm
      cases c : takeAll r m with
      | none => rw [c] at h; cases h
      | some r2 =>
        rw [c] at h
        obtain ⟨a, b, n⟩ := ih (show leftM r2 ms = some r' from h)
        obtain ⟨a2, b2⟩ := tk m c
        refine ⟨a2.trans ?_, b.trans b2, fun x hx => ?_⟩
        · rw [List.flatten_cons]
          refine (a.append_right m).trans ?_
          rw [List.append_assoc]
          exact (List.perm_append_comm).append_left _
        · rcases List.mem_cons.mp hx with rfl | hx
          · exact hm
          · exact n x hx
/-- the parts of what is made -/
def partsF (M : Mak) (made : List Str) : List Str := (made.map fun z => (lookM M z).getD []).flatten
structure StepF (ns : List Str) (M : Mak) (pool : List Str) (r : List Str × List Str × Str) : Prop where
  keep : pool.Perm (r.1 ++ partsF M r.2.1)
  sub : r.1.Sublist pool
  made : r.2.1.length ≤ 2
  half : 2 * r.2.1.length ≤ pool.length
  inn : ∀ z ∈ r.2.1, z ∈ ns
  nm : ∀ z ∈ r.2.1, nameB z = true
  keys : ∀ z ∈ r.2.1, z ∈ keysOf M
theorem stepM_f {ns : List Str} {M : Mak} {gs : List Pg} (fit : ∀ g ∈ gs, FitP ns M g) (two : ∀ z ps, lookM M z = some ps → 2 ≤ ps.length) (n : Str) (pool : List Str) : StepF ns M pool (stepM M gs n pool) := by
  unfold stepM
  cases c : pageOf gs n pool with
  | none => exact ⟨by show pool.Perm (pool ++ []); rw [List.append_nil], List.Sublist.refl _, Nat.zero_le _, Nat.zero_le _, nofun, nofun, nofun⟩
  | some g =>
    have mg : g ∈ gs := List.mem_of_find?_eq_some c
    have e : placeP g = (n, pool) := of_decide_eq_true (List.find?_some (p := fun g => decide (placeP g = (n, pool))) (show gs.find? _ = some g from c))
    have ep : g.pool = pool := congrArg Prod.snd e
    obtain ⟨ok, inn, hl⟩ := fit g mg
    obtain ⟨r', hr⟩ : ∃ r', leftM g.pool (partsM M g) = some r' := by
      cases q : leftM g.pool (partsM M g) with
      | none => exact absurd q hl
      | some r' => exact ⟨r', rfl⟩
    obtain ⟨a, b, d⟩ := left_perm _ hr
    have er : restM M g = r' := by unfold restM; rw [hr]; rfl
    have ef : partsF M g.made = (partsM M g).flatten := rfl
    have look : ∀ z ∈ g.made, ∃ ps, lookM M z = some ps ∧ 2 ≤ ps.length := fun z mz => by
      have := d _ (List.mem_map.mpr ⟨z, mz, rfl⟩)
      cases q : lookM M z with
      | none => rw [q] at this; exact absurd rfl this
      | some ps => exact ⟨ps, rfl, two z ps q⟩
    have ll : ∀ qs : List Str, (∀ z ∈ qs, ∃ ps, lookM M z = some ps ∧ 2 ≤ ps.length) → 2 * qs.length ≤ ((qs.map fun z => (lookM M z).getD []).flatten).length := by
      intro qs
      induction qs with
      | nil => intro _; exact Nat.le_refl _
      | cons z qs ih =>
        intro h
        obtain ⟨ps, e, l⟩ := h z List.mem_cons_self
        have i := ih fun y my => h y (List.mem_cons_of_mem _ my)
        rw [List.map_cons, List.flatten_cons, List.length_append, List.length_cons, e]
        show _ ≤ ps.length + _
        omega
    refine ⟨?_, ?_, good_len ok.m, ?_, fun z m => inn z (List.mem_append_right _ m), good_names ok.m, fun z m => ?_⟩
    · show pool.Perm (restM M g ++ partsF M g.made)
      rw [er, ef, ← ep]
      exact a
    · show (restM M g).Sublist pool
      rw [er, ← ep]
      exact b
    · show 2 * g.made.length ≤ pool.length
      have h1 := ll g.made look
      have h2 := a.length_eq
      rw [List.length_append] at h2
      rw [← ep]
      have h3 : ((g.made.map fun z => (lookM M z).getD []).flatten).length = ((partsM M g).flatten).length := rfl
      omega
    · obtain ⟨ps, e, _⟩ := look z m
      exact Classical.byContradiction fun q => by rw [lookM_none.mpr q] at e; cases e
end Kl
set_option maxRecDepth 100000
set_option maxHeartbeats 4000000
namespace Kl
open PySem PySem.Spec PyProof.Rows L2 Gx Mx LamX
def StpAt (K : PySem.W.Frag) (H : Hp) (x : Addr) (s : List Str × List Str × Str) : Prop := ∃ pp mp, SqT K H x [.ref pp, .ref mp, .str s.2.2] ∧ SqT K H pp (s.1.map V.str) ∧ SqT K H mp (s.2.1.map V.str)
abbrev StpsAt (K : PySem.W.Frag) (H : Hp) (xs : List Addr) (ss : List (List Str × List Str × Str)) : Prop := Paired (StpAt K H) xs ss
theorem StpAt.go {K : PySem.W.Frag} {H H' : Hp} (sq : ∀ a xs, SqT K H a xs → SqT K H' a xs) {x : Addr} {s : List Str × List Str × Str} (h : StpAt K H x s) : StpAt K H' x s := by
  obtain ⟨pp, mp, a, b, c⟩ := h
  exact ⟨pp, mp, sq _ _ a, sq _ _ b, sq _ _ c⟩
theorem StpsAt.go {K : PySem.W.Frag} {H H' : Hp} (sq : ∀ a xs, SqT K H a xs → SqT K H' a xs) : ∀ {xs : List Addr} {ss : List (List Str × List Str × Str)}, StpsAt K H xs ss → StpsAt K H' xs ss
  | _, _, .nil => .nil
  | _, _, .cons h t => .cons (h.go sq) (StpsAt.go sq t)
section
variable {P : Program} {w : World} {K : PySem.W.Frag} {mg : Str → Option Value} {base : Heap}
abbrev NRU : List Str := ["self", "note", "digits", "carried", "new_digits", "gone", "pool", "digit"]
def spMRun (P : Program) (w : World) (K : PySem.W.Frag) (CM CP CK : Addr) : Sp := fun vs H Q _ => ∃ m kx md leaf M ns gs gs' note pd c0, ∃ (cs0 : List Str) (LL : List (Addr × List Str)), vs = [V.ref m, .str note, .ref pd, .ref c0] ∧ MachAt P w K CM CP CK H m kx md leaf M ns gs gs' ∧ MOk ns M gs gs' ∧ (∀ z ∈ ns, PyData.strOk z = true) ∧ (∀ z ps, lookM M z = some ps → 2 ≤ ps.length) ∧ nameB note = true ∧
  RowAt K H pd LL ∧ LL.length ≤ 402 ∧ (∀ q ∈ LL, goodB q.2 = true ∧ q.2.length ≤ 18 ∧ ∀ z ∈ q.2, z ∈ ns) ∧ SqT K H c0 (cs0.map V.str) ∧ goodM 20 cs0 = true ∧ cs0.length ≤ 2 ∧ (∀ z ∈ cs0, z ∈ ns) ∧
  ∀ (t ra ga : Addr) (L2 : List (Addr × List Str)) (xs : List Addr) (rs : List (List Str)) (ss : List (List Str × List Str × Str)) (n : Nat) H', Same H H' → SqT K H' t [.ref ra, .ref ga] → RowAt K H' ra L2 → L2.map (·.2) = rs.take n → IsEnd rs n → SqT K H' ga (xs.map V.ref) → StpsAt K H' xs ss → RunR (stepM M gs) (LL.map (·.2)) cs0 note rs ss → ss.length ≤ LL.length + 2 → Q (.ref t) H'
theorem ok_mrun {CM CP CK f : Addr} {fd : FuncData} (F : Fun K "run" "Machine.run" s_Machine_run f fd) (T : Top K mg) (TM : Cl_Machine K mg CM) (TC : Cl_Page K mg CP) (TK : Cl_Kinds K mg CK) : FnOk P w K mg base CX0 6 f fd ["self", "note", "digits", "carried"] (spMRun P w K CM CP CK) := by
  obtain ⟨tm, gm⟩ := T.g_LOOSE_DIGIT
  have cn : Cal P w K mg base 5 "is_name" ["value"] (spName K) := (T.d_is_name.cal fun f fd F => ok_name F T).mono (by decide)
  have cl : Cal P w K mg base 5 "are_loose_digits" ["value"] (spLDig K) := T.d_are_loose_digits.cal fun f fd F => ok_ldig F T
  have ct : Cal P w K mg base 5 "trimmed" ["digits"] (spTrim K) := T.d_trimmed.cal fun f fd F => ok_trim F T
  have cm : Cal P w K mg base 5 "merged" ["one", "other"] (spMerged K) := (T.d_merged.cal fun f fd F => ok_merged F T).mono (by decide)
  have cd : Cal P w K mg base 5 "digit_at" ["digits", "rank"] (spDigAt K) := (T.d_digit_at.cal fun f fd F => ok_digat F T).mono (by decide)
  have kPo : CalM P w K mg base CM "_is_pool" 4 ["self", "value"] (spMPool P w K CM CP CK) := TM.m_is_pool.cal fun f fd F => ok_mpool F T TM TK
  have kAt : CalM P w K mg base CM "_at_rank" 3 ["self", "note", "pool"] (spMRank P w K CM CP CK) := TM.m_at_rank.cal fun f fd F => ok_mrank F T TM TC
  refine F.ok sc_Machine_run (fun vs H Q E h => ?_) (fun cdv A outer s H vs Q E hr h => ?_)
  · obtain ⟨m, kx, md, leaf, M, ns, gs, gs', note, pd, c0, cs0, LL, rfl, _⟩ := h
    rfl
  · obtain ⟨m, kx, md, leaf, M, ns, gs, gs', note, pd, c0, cs0, LL, rfl, hM, hOk, hok, two, hn, hR, l60, hg, h0, hc0, lc0, hcn0, q⟩ := h
    refine ⟨_, pss_cut (ps_if (pt_not (pt_val (pe_cal cn hr (by rfl) (pa_cons (pv 1) pa_nil)))) (pss_one ps_never) pss_nil)
      (pss_cut (ps_if (PW.pt (pw_or (pt_not (pt_val (pe_cal cl hr (by rfl) (pa_cons (pv 2) pa_nil)))) (pw_or1 (pt_not (pt_val (pe_callB (cr_all rfl) (by rfl) T.b_all (by decide +kernel) (pa_cons (pe_lc (own := [("digit", 7)]) (g := gName 7) (tt := tYes) rfl sc_Machine_run.nd (pi_tup (pv 2))
        (blkOk_by (N := NRU) (sc := defScope s_Machine_run) (by decide +kernel)) (fun _ _ _ _ _ => pg_name (i := 7) sc_Machine_run.nd rfl (.inl rfl)) (fun _ _ _ _ _ => pts_nil)
        (fun _ _ _ _ _ => pe_methC (pl := _) (pv 0) TM.cl kPo (hr.mono (by decide)) (pa_cons (pv 7) pa_nil))) pa_nil))))))) (pss_one ps_never) pss_nil)
      (pss_cut (ps_if (pt_not (pt_val (pe_methC (pl := _) (pv 0) TM.cl kPo (hr.mono (by decide)) (pa_cons (pv 3) pa_nil)))) (pss_one ps_never) pss_nil)
      (pss_cut (ps_set (i := 4) sc_Machine_run.nd rfl (.inl rfl) (pe_lst pa_nil))
      (pss_cut (ps_set (i := 5) sc_Machine_run.nd rfl (.inl rfl) (pe_lst pa_nil))
      (pss_cut (ps_while PassesOwn.never (PW.pt (pw_or (pt_cmpR op_lt (pe_callB call_len_seq (by rfl) T.b_len PySem.boot_len (pa_cons (pv 5) pa_nil)) (pe_callB call_len_seq (by rfl) T.b_len PySem.boot_len (pa_cons (pv 2) pa_nil)) (nomark _)) (pw_or1 (pt_truth (pv 3) (fun _ => rfl)))))
        (pss_cut (ps_set (i := 6) sc_Machine_run.nd rfl (.inl rfl) (pe_cal cm hr (by rfl) (pa_cons (pe_cal cd hr (by rfl) (pa_cons (pv 2) (pa_cons (pe_callB call_len_seq (by rfl) T.b_len PySem.boot_len (pa_cons (pv 5) pa_nil)) pa_nil))) (pa_cons (pv 3) pa_nil))))
        (pss_cut (ps_if (pt_cmpR op_gt (pe_callB call_len_seq (by rfl) T.b_len PySem.boot_len (pa_cons (pv 6) pa_nil)) (pe_glob (v := .int 20) (by rfl) gm ⟨_, rfl⟩) (nomark _)) (pss_one ps_never) pss_nil)
        (pss_cut (ps_asg (pe_methC (pl := _) (pv 0) TM.cl kAt (hr.mono (by decide)) (pa_cons (pv 1) (pa_cons (pv 6) pa_nil))) (pg_tup rfl (pgs_cons (pg_name (i := 7) sc_Machine_run.nd rfl (.inl rfl)) (pgs_cons (pg_name (i := 3) sc_Machine_run.nd rfl (.inl rfl)) (pgs_cons (pg_name (i := 1) sc_Machine_run.nd rfl (.inl rfl)) pgs_nil)))))
        (pss_cut (ps_expr (pe_bm PySem.F.plainAttrs_list PySem.F.slot_list_append PySem.F.type_list_append mt_append (pv 4) (pa_cons (pv 7) pa_nil)))
        (pss_one (ps_expr (pe_bm PySem.F.plainAttrs_list PySem.F.slot_list_append PySem.F.type_list_append mt_append (pv 5) (pa_cons (pe_tup (pa_cons (pv 6) (pa_cons (pv 3) (pa_cons (pv 1) pa_nil)))) pa_nil)))))))))
      (pss_one (ps_ret (pe_tup (pa_cons (pe_cal ct hr (by rfl) (pa_cons (pe_callTy call_tuple_of (by rfl) T.b_tuple (by decide +kernel) (pa_cons (pv 4) pa_nil)) pa_nil)) (pa_cons (pe_callTy call_tuple_of (by rfl) T.b_tuple (by decide +kernel) (pa_cons (pv 5) pa_nil)) pa_nil)))))))))), ?_⟩
    have big : 100000 ≤ sizeLine := by decide
    have nsok := hok
    obtain ⟨dm, ld, pdm, hx, _⟩ := id hM
    have nok : ∀ z : Str, (z == ("_kinds" : Str)) = false → (z == ("_left" : Str)) = false → (z == ("_pages" : Str)) = false → List.lookup z (mf kx ld pdm) = none := fun z a b c => mf_no _ _ _ a b c
    have g20 : ∀ q ∈ LL, goodM 20 q.2 = true := fun q m => (hg q m).1
    have hF : Few (LL.map (·.2)) := ⟨by rw [List.length_map]; omega, fun q hq => by
      obtain ⟨x, mx, rfl⟩ := List.mem_map.mp hq
      exact ⟨by have := (hg x mx).2.1; omega, fun z mz => Nat.le_trans (name_len (good_names (g20 x mx) z mz)) (by decide)⟩⟩
    refine ⟨fun σ' G => σ' = [some (.ref m), some (.str note), some (.ref pd), some (.ref c0), none, none, none, none] ∧ Same H G, ?_, ?_⟩
    · refine ⟨_, rfl, .str note, rfl, name_arg (Nat.le_trans (name_len hn) (by decide)), _, rfl, ?_⟩
      show (if (!nameB note) = true then _ else _)
      rw [hn, if_neg (by decide)]
      exact ⟨rfl, Same.refl H⟩
    rintro σ' G0 ⟨rfl, s0⟩
    refine ⟨fun σ' G => σ' = [some (.ref m), some (.str note), some (.ref pd), some (.ref c0), none, none, none, none] ∧ Same H G, ?_, ?_⟩
    · refine ⟨_, rfl, pd, LL, rfl, hR.same s0, hF, fun H1 s1 => ⟨_, rfl, ?_⟩⟩
      have s01 := s0.trans s1
      have eb : (decide (LL.length ≤ 402) && LL.all fun q => goodB q.2) = true := by
        rw [decide_eq_true (by omega), Bool.true_and, List.all_eq_true]
        exact fun q mq => (hg q mq).1
      rw [eb]
      refine iteF (by decide) ?_
      have hR1 := hR.same s01
      refine ⟨_, rfl, pd, rfl, ⟨_, hR1.e⟩, fun D hD => ?_⟩
      refine lc_it (g := gName 7) (tt := tYes) (vs := [7]) (walk_tup (K := K) (a := pd) (xs := LL.map fun q => V.ref q.1)) (fun j G' => G' D = some (.lst (List.replicate j (V.bl true))) ∧ Same H1 G')
        ⟨upd_same, same_new (Same.refl H1) hD⟩ (fun j G' _ h => sqT_same h.2 hR1.e) (fun j u Gx G' hj h hy => ?_) (fun G' h => ?_)
      · obtain ⟨eD, sm⟩ := h
        obtain ⟨rfl, hu⟩ := hy
        have hu : (LL.map fun q => V.ref q.1)[j]? = some u := hu
        rw [List.getElem?_map] at hu
        obtain ⟨q0, hq0, rfl⟩ := Option.map_eq_some_iff.mp hu
        have mq := List.mem_of_getElem? hq0
        have lj : j < LL.length := (List.getElem?_eq_some_iff.mp hq0).1
        have sH := s01.trans sm
        refine ⟨rfl, _, rfl, m, dm, _, rfl, sH _ _ hx, nok _ (by decide +kernel) (by decide +kernel) (by decide +kernel), _, rfl, m, kx, md, leaf, M, ns, gs, gs', q0.1, q0.2, rfl, hM.same sH, hok, sqT_same sm (hR1.t q0 mq), g20 q0 mq, (hg q0 mq).2.2, fun G3 s3 => ?_⟩
        refine ⟨_, s3 _ _ eD, ?_, ?_, fun b o e => by rw [upd_ne (ne_of_none e hD)]; exact s3 _ _ (sm b o e)⟩
        · rw [List.length_replicate]
          omega
        · rw [upd_same]
          show some (HO.lst (List.replicate j (V.bl true) ++ [V.bl true])) = _
          rw [rep_snoc]
      · obtain ⟨eD, sm⟩ := h
        refine ⟨D, List.replicate LL.length true, rfl, .inl (.inl ?_), ?_⟩
        · rw [List.length_map] at eD
          rw [eD]
          exact congrArg (fun z => some (HO.lst z)) (List.map_replicate).symm
        · rw [all_true]
          exact ⟨_, rfl, iteF (by decide) ⟨rfl, s01.trans sm⟩⟩
    rintro σ' G1 ⟨rfl, s1⟩
    refine ⟨fun σ' G => σ' = [some (.ref m), some (.str note), some (.ref pd), some (.ref c0), none, none, none, none] ∧ Same H G, ?_, ?_⟩
    · refine ⟨_, rfl, m, dm, _, rfl, s1 _ _ hx, nok _ (by decide +kernel) (by decide +kernel) (by decide +kernel), _, rfl, m, kx, md, leaf, M, ns, gs, gs', c0, cs0, rfl, hM.same s1, hok, sqT_same s1 h0, hc0, hcn0, fun H' s => ⟨_, rfl, ?_⟩⟩
      exact iteF (by decide) ⟨rfl, s1.trans s⟩
    rintro σ' G2 ⟨rfl, s2⟩
    refine ⟨fun σ' G => ∃ nl : Addr, σ' = [some (.ref m), some (.str note), some (.ref pd), some (.ref c0), some (.ref nl), none, none, none] ∧ G nl = some (.lst []) ∧ H nl = none ∧ Same H G, ?_, ?_⟩
    · exact ⟨Nat.zero_le _, fun nl nn => ⟨nl, rfl, upd_same, s2.free nn, s2.trans (same_new (Same.refl _) nn)⟩⟩
    rintro σ' G3 ⟨nl, rfl, enl, nnl, s3⟩
    refine ⟨fun σ' G => ∃ gl : Addr, σ' = [some (.ref m), some (.str note), some (.ref pd), some (.ref c0), some (.ref nl), some (.ref gl), none, none] ∧ G nl = some (.lst []) ∧ G gl = some (.lst []) ∧ H gl = none ∧ nl ≠ gl ∧ Same H G, ?_, ?_⟩
    · exact ⟨Nat.zero_le _, fun gl ng => ⟨gl, rfl, by rw [upd_ne (ne_of_none enl ng)]; exact enl, upd_same, s3.free ng, ne_of_none enl ng, s3.trans (same_new (Same.refl _) ng)⟩⟩
    rintro σ' G4 ⟨gl, rfl, enl, egl, ngl, nng, s4⟩
    -- rank by rank
    refine ⟨fun σ' G => ∃ (n' : Str) (c : Addr) (LN : List (Addr × List Str)) (xs : List Addr) (ss : List (List Str × List Str × Str)) (t6 t7 : Option V), σ' = [some (.ref m), some (.str n'), some (.ref pd), some (.ref c), some (.ref nl), some (.ref gl), t6, t7] ∧ G nl = some (.lst (LN.map fun q => V.ref q.1)) ∧ TxtsAt K G LN ∧ G gl = some (.lst (xs.map V.ref)) ∧ StpsAt K G xs ss ∧ Same H G ∧
        RunR (stepM M gs) (LL.map (·.2)) cs0 note (LN.map (·.2)) ss ∧ (∀ q ∈ LN, goodB q.2 = true) ∧ LN.length = ss.length ∧ ss.length ≤ LL.length + 2, ?_, ?_⟩
    · let W : Nat → L2.St → Hp → Prop := fun k σ' G => ∃ (n' : Str) (c : Addr) (cs : List Str) (LN : List (Addr × List Str)) (xs : List Addr) (ss : List (List Str × List Str × Str)) (t6 t7 : Option V), σ' = [some (.ref m), some (.str n'), some (.ref pd), some (.ref c), some (.ref nl), some (.ref gl), t6, t7] ∧ G nl = some (.lst (LN.map fun q => V.ref q.1)) ∧ TxtsAt K G LN ∧ G gl = some (.lst (xs.map V.ref)) ∧ StpsAt K G xs ss ∧ Same H G ∧ SqT K G c (cs.map V.str) ∧
          (∀ rs2 ss2, RunR (stepM M gs) ((LL.map (·.2)).drop ss.length) cs n' rs2 ss2 → RunR (stepM M gs) (LL.map (·.2)) cs0 note (LN.map (·.2) ++ rs2) (ss ++ ss2)) ∧ (∀ q ∈ LN, goodB q.2 = true) ∧ LN.length = ss.length ∧ nameB n' = true ∧ cs.length ≤ 2 ∧ (∀ z ∈ cs, z ∈ ns) ∧ (∀ z ∈ cs, nameB z = true) ∧ k = 3 * (LL.length - ss.length) + cs.length ∧ (ss.length ≤ LL.length ∨ ss.length + cs.length ≤ LL.length + 2)
      refine ⟨W,
        ⟨3 * LL.length + cs0.length, note, c0, cs0, [], [], [], none, none, rfl, enl, nofun, egl, .nil, s4, sqT_same s4 h0, fun rs2 ss2 h => h, nofun, rfl, hn, lc0, hcn0, good_names hc0, rfl, .inl (Nat.zero_le _)⟩, fun k σ' G hW => ?_⟩
      obtain ⟨n', c, cs, LN, xs, ss, t6, t7, rfl, eN, hT, eG, hS, sG, hc, cont, gN, lN, hn', l2, hcs, hcn, rfl, bound⟩ := hW
      have hRG := hR.same sG
      have lxs : xs.length = ss.length := Paired.length hS
      have lx : (xs.map V.ref).length = ss.length := by rw [List.length_map, lxs]
      refine (fun (hX : (ss.length < LL.length ∨ cs ≠ []) → _) => ⟨_, rfl, gl, _, rfl, .inl (.inl (.inl eG)), _, rfl, pd, _, rfl, .inr hRG.e, _, _, rfl, rfl, _, rfl, ite2 (fun c1 => hX (.inl (by
          have c2 := of_decide_eq_true c1
          rw [lx, List.length_map] at c2
          omega))) (fun c1 => ⟨_, rfl, !(cs.map V.str).isEmpty, .inr (.inl ⟨_, hc, rfl⟩), ite2 (fun c2 => hX (.inr (fun z => by rw [z] at c2; cases c2))) (fun c2 => ?fin)⟩)⟩) (fun hgo => ?go)
      case fin =>
        -- the end
        have e0 : cs = [] := by
          cases cs with
          | nil => rfl
          | cons z l => exact absurd rfl c2
        have le : LL.length ≤ ss.length := by
          have h : ¬ ((ss.length : Nat) : Int) < ((LL.length : Nat) : Int) := fun h => c1 (decide_eq_true (by rw [lx, List.length_map]; exact h))
          omega
        subst e0
        have fin := cont [] [] (by rw [List.drop_eq_nil_of_le (by rw [List.length_map]; exact le)]; exact .nil)
        rw [List.append_nil, List.append_nil] at fin
        exact ⟨n', c, LN, xs, ss, t6, t7, rfl, eN, hT, eG, hS, sG, fin, gN, lN, by omega⟩
      -- one more
      have ldig : ((LL[ss.length]?.map (·.2)).getD []).length ≤ 18 ∧ (∀ z ∈ (LL[ss.length]?.map (·.2)).getD [], z ∈ ns) ∧ ∀ z ∈ (LL[ss.length]?.map (·.2)).getD [], nameB z = true := by
        cases e : LL[ss.length]? with
        | none => exact ⟨Nat.zero_le _, nofun, nofun⟩
        | some q0 =>
          have mq := List.mem_of_getElem? e
          exact ⟨(hg q0 mq).2.1, (hg q0 mq).2.2, good_names (g20 q0 mq)⟩
      have ehd : ((LL.map (·.2)).drop ss.length).headD [] = (LL[ss.length]?.map (·.2)).getD [] := by
        rw [List.headD_eq_head?_getD, List.head?_drop, List.getElem?_map]
      refine ⟨fun σ' G' => ∃ k', k' < 3 * (LL.length - ss.length) + cs.length ∧ W k' σ' G', fun _ _ h => h, ?_⟩
      generalize hdig : (LL[ss.length]?.map (·.2)).getD [] = dig at ldig ehd
      refine ⟨fun σ' G' => ∃ (pp : Addr) (zs : List Str), σ' = [some (.ref m), some (.str n'), some (.ref pd), some (.ref c), some (.ref nl), some (.ref gl), some (.ref pp), t7] ∧ SqT K G' pp (zs.map V.str) ∧ zs.Perm (dig ++ cs) ∧ sortedS zs = true ∧ Same G G', ?_, ?_⟩
      · refine ⟨_, rfl, _, rfl, gl, _, rfl, .inl (.inl (.inl eG)), pd, LL, _, rfl, hRG, fun a1 G1 u1 h1 => ⟨_, rfl, a1, c, dig, cs, rfl, ?_, sqT_same u1 hc, by omega, fun p zs G2 u2 hp hs ep => ⟨p, zs, rfl, .inl (.inl ep), hp, hs, u1.trans u2⟩⟩⟩
        rw [lx, hdig] at h1
        exact h1
      rintro σ' G1 ⟨pp, zs, rfl, hpp, hperm, hsrt, u1⟩
      have lz : zs.length ≤ 20 := by
        have := hperm.length_eq
        rw [List.length_append] at this
        omega
      refine ⟨fun σ' G' => σ' = [some (.ref m), some (.str n'), some (.ref pd), some (.ref c), some (.ref nl), some (.ref gl), some (.ref pp), t7] ∧ G' = G1, ?_, ?_⟩
      · refine ⟨_, rfl, pp, _, rfl, .inr hpp, _, _, rfl, rfl, _, rfl, ?_⟩
        refine iteF (fun h => ?_) ⟨rfl, rfl⟩
        have h := of_decide_eq_true h
        rw [List.length_map] at h
        omega
      rintro σ' G2 ⟨rfl, rfl⟩
      have hf := stepM_f hOk.fit two n' zs
      have zn : ∀ z ∈ zs, nameB z = true := fun z mz => by
        rcases List.mem_append.mp (hperm.mem_iff.mp mz) with h | h
        · exact ldig.2.2 z h
        · exact hcn z h
      have okp : ∀ g ∈ gs, PgOk g := fun g mg => (hOk.fit g mg).1
      obtain ⟨nm1, nm2, nm3⟩ := stepM_names (M := M) okp hn' zn
      have lmade := hf.made
      have lhalf := hf.half
      have hst : RunR (stepM M gs) (((LL.map (·.2)).drop ss.length).tail) (stepM M gs n' zs).2.1 (stepM M gs n' zs).2.2 = RunR (stepM M gs) ((LL.map (·.2)).drop (ss.length + 1)) (stepM M gs n' zs).2.1 (stepM M gs n' zs).2.2 := by rw [List.tail_drop]
      have more : ∀ rs2 ss2, RunR (stepM M gs) ((LL.map (·.2)).drop (ss.length + 1)) (stepM M gs n' zs).2.1 (stepM M gs n' zs).2.2 rs2 ss2 → RunR (stepM M gs) (LL.map (·.2)) cs0 note ((LN.map (·.2) ++ [(stepM M gs n' zs).1]) ++ rs2) ((ss ++ [(zs, (stepM M gs n' zs).2.1, (stepM M gs n' zs).2.2)]) ++ ss2) := fun rs2 ss2 h => by
        rw [← hst] at h
        have r := cont _ _ (RunR.step (pool := zs) (hgo.imp (fun h => fun z => by
          have := congrArg List.length z
          rw [List.length_drop, List.length_map] at this
          simp only [List.length_nil] at this
          omega) id) (by rw [ehd]; exact hperm) hsrt h)
        rw [List.append_assoc, List.append_assoc]
        exact r
      have gdig : goodB (stepM M gs n' zs).1 = true := good_mk (m := 20) (Nat.le_trans hf.sub.length_le lz) nm1 (sortedS_sub hsrt hf.sub)
      have kk : ∃ k', k' < 3 * (LL.length - ss.length) + cs.length ∧ k' = 3 * (LL.length - (ss.length + 1)) + (stepM M gs n' zs).2.1.length ∧ (ss.length + 1 ≤ LL.length ∨ (ss.length + 1) + (stepM M gs n' zs).2.1.length ≤ LL.length + 2) := by
        refine ⟨_, ?_, rfl, ?_⟩
        · by_cases c1 : ss.length < LL.length
          · omega
          · have hcs0 : cs ≠ [] := hgo.resolve_left c1
            have l1 : 1 ≤ cs.length := List.length_pos_iff.mpr hcs0
            have d0 : dig = [] := by
              rw [← ehd, List.drop_eq_nil_of_le (by rw [List.length_map]; omega)]
              rfl
            have := hperm.length_eq
            rw [d0, List.length_append, List.length_nil] at this
            omega
        · by_cases c1 : ss.length < LL.length
          · exact .inl (by omega)
          · have hcs0 : cs ≠ [] := hgo.resolve_left c1
            have l1 : 1 ≤ cs.length := List.length_pos_iff.mpr hcs0
            have d0 : dig = [] := by
              rw [← ehd, List.drop_eq_nil_of_le (by rw [List.length_map]; omega)]
              rfl
            have := hperm.length_eq
            rw [d0, List.length_append, List.length_nil] at this
            exact .inr (by omega)
      have inn := hf.inn
      clear hf
      obtain ⟨r, er⟩ : ∃ r, stepM M gs n' zs = r := ⟨_, rfl⟩
      rw [er] at nm1 nm2 nm3 lmade lhalf more gdig kk inn
      clear hst
      obtain ⟨rd, rm, rn⟩ := r
      have sG1 := sG.trans u1
      obtain ⟨k', klt, ek, kb⟩ := kk
      refine ⟨fun σ' G' => ∃ a b : Addr, σ' = [some (.ref m), some (.str rn), some (.ref pd), some (.ref b), some (.ref nl), some (.ref gl), some (.ref pp), some (.ref a)] ∧ SqT K G' a (rd.map V.str) ∧ SqT K G' b (rm.map V.str) ∧ Same G2 G', ?_, ?_⟩
      · refine ⟨_, rfl, m, dm, _, rfl, sG1 _ _ hx, nok _ (by decide +kernel) (by decide +kernel) (by decide +kernel), _, rfl, _, rfl, m, kx, md, leaf, M, ns, gs, gs', n', pp, zs, rfl, hM.same sG1, hOk, hpp, fun t a b G3 u3 h1 h2 h3 => ?_⟩
        rw [er] at h1 h2 h3
        exact ⟨_, _, rfl, h1, rfl, _, _, rfl, _, _, rfl, _, _, rfl, rfl, a, b, rfl, h2, h3, u3⟩
      rintro σ' G3 ⟨a, b, rfl, ha, hb, u3⟩
      have u13 := u1.trans u3
      have eN3 := u13 _ _ eN
      have eG3 := u13 _ _ eG
      have lLN : LN.length ≤ 1000 := by omega
      have bd : ∀ (d : Addr) (ys zs : List V), G3 d = some (.lst ys) → ∀ a xs, SqT K G3 a xs → SqT K (upd G3 d (.lst zs)) a xs := fun d ys zs e => (butD_of (fun b o n e => by rw [upd_ne n]; exact e) e (fun _ => nofun) (fun _ _ => nofun)).sq
      refine ⟨fun σ' G' => σ' = [some (.ref m), some (.str rn), some (.ref pd), some (.ref b), some (.ref nl), some (.ref gl), some (.ref pp), some (.ref a)] ∧ G' = upd G3 nl (.lst ((LN ++ [(a, rd)]).map fun q => V.ref q.1)), ?_, ?_⟩
      · refine ⟨_, rfl, ⟨.inl ⟨rfl, _, .inl (.inl eN3)⟩, ?_⟩⟩
        refine ⟨_, rfl, nl, _, _, rfl, rfl, eN3, by rw [List.length_map]; omega, rfl, ?_⟩
        rw [List.map_append]
        rfl
      rintro σ' G4' ⟨rfl, e4⟩
      have nw := bd nl _ ((LN ++ [(a, rd)]).map fun q => V.ref q.1) eN3
      have sG4 : Same H G4' := fun b' o e => by
        rw [e4, upd_ne (ne_of_none e nnl)]
        exact u13 _ _ (sG _ _ e)
      have eG4 : G4' gl = some (.lst (xs.map V.ref)) := by rw [e4, upd_ne (Ne.symm nng)]; exact eG3
      have eN4 : G4' nl = some (.lst ((LN ++ [(a, rd)]).map fun q => V.ref q.1)) := by rw [e4]; exact upd_same
      rw [← e4] at nw
      clear e4 bd
      have hpp4 := nw _ _ (sqT_same u3 hpp)
      have ha4 := nw _ _ ha
      have hb4 := nw _ _ hb
      have hT4 : TxtsAt K G4' (LN ++ [(a, rd)]) := fun q0 hq => by
        rcases List.mem_append.mp hq with h | h
        · exact nw _ _ (sqT_same u13 (hT q0 h))
        · rw [List.mem_singleton.mp h]
          exact ha4
      have hS4 : StpsAt K G4' xs ss := hS.go fun _ _ h => nw _ _ (sqT_same u13 h)
      refine ⟨_, rfl, ⟨.inl ⟨rfl, _, .inl (.inl eG4)⟩, ?_⟩⟩
      refine ⟨_, rfl, _, rfl, _, rfl, by show 3 ≤ sizeLine; omega, fun t nt => ⟨gl, _, _, rfl, rfl, same_new (Same.refl G4') nt _ _ eG4, by rw [List.length_map]; omega, ?_⟩⟩
      have s5 := same_new (o := .tup [V.ref pp, .ref b, .str rn]) (Same.refl G4') nt
      have et : (upd G4' t (.tup [V.ref pp, .ref b, .str rn])) t = some (.tup [V.ref pp, .ref b, .str rn]) := upd_same
      generalize upd G4' t (.tup [V.ref pp, .ref b, .str rn]) = G5 at *
      have eG5 := s5 _ _ eG4
      have nw5 : ∀ a xs', SqT K G5 a xs' → SqT K (upd G5 gl (.lst (xs.map V.ref ++ [V.ref t]))) a xs' := (butD_of (fun b o n e => by rw [upd_ne n]; exact e) eG5 (fun _ => nofun) (fun _ _ => nofun)).sq
      refine ⟨k', klt, rn, b, rm, LN ++ [(a, rd)], xs ++ [t], ss ++ [(zs, rm, rn)], _, _, rfl, by rw [upd_ne nng]; exact s5 _ _ eN4, fun q0 hq => nw5 _ _ (sqT_same s5 (hT4 q0 hq)), by rw [upd_same, List.map_append]; rfl, ?_, fun b' o e => by rw [upd_ne (ne_of_none e ngl)]; exact s5 _ _ (sG4 _ _ e), nw5 _ _ (sqT_same s5 hb4), ?_, ?_, ?_, nm3, lmade, inn, nm2, ?_, ?_⟩
      · exact paired_snoc ⟨pp, b, nw5 _ _ (.inl (.inl et)), nw5 _ _ (sqT_same s5 hpp4), nw5 _ _ (sqT_same s5 hb4)⟩ (hS4.go fun _ _ h => nw5 _ _ (sqT_same s5 h))
      · rw [List.length_append, List.map_append]
        exact more
      · intro q0 hq
        rcases List.mem_append.mp hq with h | h
        · exact gN q0 h
        · rw [List.mem_singleton.mp h]
          exact gdig
      · rw [List.length_append, List.length_append, lN]
        rfl
      · rw [List.length_append]
        exact ek
      · rw [List.length_append]
        exact kb
    rintro σ' G5 ⟨n', c, LN, xs, ss, t6, t7, rfl, eN, hT, eG, hS, s5, hrun, gN, lN, l200⟩
    refine ⟨_, rfl, nl, _, rfl, .inl ⟨.inl (.inl eN), fun tq ntq => ?_⟩⟩
    have s6 := same_new (o := .tup (LN.map fun q => V.ref q.1)) (Same.refl G5) ntq
    have etq : (upd G5 tq (.tup (LN.map fun q => V.ref q.1))) tq = some (.tup (LN.map fun q => V.ref q.1)) := upd_same
    generalize upd G5 tq (.tup (LN.map fun q => V.ref q.1)) = G6 at *
    refine ⟨tq, LN, rfl, ⟨.inl (.inl etq), fun q0 hq => sqT_same s6 (hT q0 hq)⟩, ⟨by rw [List.length_map]; omega, fun q0 hq => ?_⟩, gN, fun ra n G7 s7 hE hRA => ?_⟩
    · obtain ⟨x, mx, rfl⟩ := List.mem_map.mp hq
      have g1 : goodM 20 x.2 = true := gN x mx
      exact ⟨Nat.le_trans (good_len g1) (by decide), fun z mz => Nat.le_trans (name_len (good_names g1 z mz)) (by decide)⟩
    have s57 := s6.trans s7
    refine ⟨_, rfl, gl, _, rfl, .inl ⟨.inl (.inl (s57 _ _ eG)), fun ga nga => ?_⟩⟩
    have s8 := same_new (o := .tup (xs.map V.ref)) (Same.refl G7) nga
    have ega : (upd G7 ga (.tup (xs.map V.ref))) ga = some (.tup (xs.map V.ref)) := upd_same
    generalize upd G7 ga (.tup (xs.map V.ref)) = G8 at *
    refine ⟨by show 2 ≤ sizeLine; omega, fun t nt => ?_⟩
    have s9 := same_new (o := .tup [V.ref ra, .ref ga]) (Same.refl G8) nt
    have s79 := s8.trans s9
    exact q t ra ga (LN.take n) xs (LN.map (·.2)) ss n _ (s5.trans (s57.trans s79)) (.inl (.inl upd_same)) (hRA.same s79) (by rw [List.map_take]) hE (.inl (.inl (s9 _ _ ega))) (hS.go fun _ _ h => sqT_same (s57.trans s79) h) hrun l200
end
end Kl
set_option maxRecDepth 100000
set_option maxHeartbeats 4000000
namespace Kl
open PySem PySem.Spec PyProof.Rows L2 Gx Mx
/-- the size of a kind at a rank -/
def siz (leaf : Str) (M : Mak) (r : Nat) (z : Str) : Nat := getR (rowsR leaf M r) z
theorem mem_succ {leaf : Str} {M : Mak} (nd : (keysOf M).Nodup) {r : Nat} {z : Str} : z ∈ setR leaf M (r + 1) ↔ ∃ ps, lookM M z = some ps ∧ ∀ p ∈ ps, p ∈ setR leaf M r := by
  rw [set_succ]
  unfold aboveE
  rw [List.mem_map]
  constructor
  · rintro ⟨m, hm, rfl⟩
    obtain ⟨h1, h2⟩ := List.mem_filter.mp hm
    exact ⟨m.2, lookM_mem nd h1, fun p hp => of_decide_eq_true (List.all_eq_true.mp h2 p hp)⟩
  · rintro ⟨ps, h1, h2⟩
    refine ⟨(z, ps), List.mem_filter.mpr ⟨lookM_some h1, ?_⟩, rfl⟩
    exact List.all_eq_true.mpr fun p hp => decide_eq_true (h2 p hp)
theorem lookR_above {M : Mak} {R : Row} : ∀ {N : Mak}, (keysOf N).Nodup → ∀ {z : Str} {ps : List Str}, (z, ps) ∈ N → fitsR (keysR R) ps = true → lookR ((N.filter fun m => fitsR (keysR R) m.2).map fun m => (m.1, (m.2.map (getR R)).sum)) z = some (ps.map (getR R)).sum
  | [], _, _, _, h, _ => nomatch h
  | m :: N, nd, z, ps, h, hf => by
    have nd' : (m.1 :: keysOf N).Nodup := nd
    rw [List.nodup_cons] at nd'
    rw [List.filter_cons]
    rcases List.mem_cons.mp h with e | h
    · subst e
      rw [if_pos hf, List.map_cons, lookR_cons, if_pos rfl]
    · have ne : m.1 ≠ z := fun e => nd'.1 (by rw [e]; exact List.mem_map.mpr ⟨(z, ps), h, rfl⟩)
      have ih := lookR_above (M := M) (R := R) nd'.2 h hf
      by_cases c : fitsR (keysR R) m.2 = true
      · rw [if_pos c, List.map_cons, lookR_cons, if_neg ne]
        exact ih
      · rw [if_neg c]
        exact ih
theorem siz_succ {leaf : Str} {M : Mak} (nd : (keysOf M).Nodup) {r : Nat} {z : Str} {ps : List Str} (h1 : lookM M z = some ps) (h2 : ∀ p ∈ ps, p ∈ setR leaf M r) : siz leaf M (r + 1) z = (ps.map (siz leaf M r)).sum := by
  unfold siz
  have h := lookR_above (M := M) (R := rowsR leaf M r) nd (lookM_some h1) (List.all_eq_true.mpr fun p hp => decide_eq_true (h2 p hp))
  show getR (aboveR M (rowsR leaf M r)) z = _
  unfold getR aboveR
  rw [h]
  rfl
theorem siz_zero (leaf : Str) (M : Mak) : siz leaf M 0 leaf = 1 := by
  unfold siz getR
  show (lookR [(leaf, 1)] leaf).getD 0 = 1
  rw [lookR_cons, if_pos rfl]
  rfl
def DedOf (M N : Mak) : Prop := Paired (fun (m n : Str × List Str) => n.1 = m.1 ∧ sortedS n.2 = true ∧ n.2.Nodup ∧ ∀ z, z ∈ n.2 ↔ z ∈ m.2) M N
theorem DedOf.keys {M N : Mak} (h : DedOf M N) : keysOf N = keysOf M := by
  unfold DedOf at h
  induction h with
  | nil => rfl
  | @cons m n M N h _ ih =>
    show n.1 :: keysOf N = m.1 :: keysOf M
    rw [ih, h.1]
theorem DedOf.mem {M N : Mak} (h : DedOf M N) {n : Str × List Str} (hn : n ∈ N) : ∃ m ∈ M, n.1 = m.1 ∧ sortedS n.2 = true ∧ n.2.Nodup ∧ ∀ z, z ∈ n.2 ↔ z ∈ m.2 := by
  unfold DedOf at h
  induction h with
  | nil => cases hn
  | @cons m n' M N h _ ih =>
    rcases List.mem_cons.mp hn with rfl | hn
    · exact ⟨m, List.mem_cons_self, h⟩
    · obtain ⟨m', h1, h2⟩ := ih hn
      exact ⟨m', List.mem_cons_of_mem _ h1, h2⟩
theorem DedOf.look {M N : Mak} (h : DedOf M N) {z : Str} {ps : List Str} (e : lookM M z = some ps) : ∃ qs, lookM N z = some qs ∧ sortedS qs = true ∧ qs.Nodup ∧ ∀ y, y ∈ qs ↔ y ∈ ps := by
  unfold DedOf at h
  induction h with
  | nil => cases e
  | @cons m n M N h _ ih =>
    obtain ⟨h1, h2, h3, h4⟩ := h
    rw [lookM_cons] at e ⊢
    by_cases c : m.1 = z
    · rw [if_pos c] at e
      cases e
      rw [if_pos (h1.trans c)]
      exact ⟨_, rfl, h2, h3, h4⟩
    · rw [if_neg c] at e
      rw [if_neg (by rw [h1]; exact c)]
      exact ih e
theorem DedOf.fits {E : List Str} {m n : Str × List Str} (h : ∀ z, z ∈ n.2 ↔ z ∈ m.2) : fitsR E n.2 = fitsR E m.2 := by
  unfold fitsR
  rw [Bool.eq_iff_iff, List.all_eq_true, List.all_eq_true]
  exact ⟨fun q z hz => q z ((h z).mpr hz), fun q z hz => q z ((h z).mp hz)⟩
end Kl
set_option maxRecDepth 100000
set_option maxHeartbeats 4000000
namespace Kl
open PySem PySem.Spec PyProof.Rows L2 Gx Mx LamX
abbrev StepT : Type := List Str × List Str × Str
/-- the steps over just the ranks ds: what is carried on and the note behind them -/
inductive Pref (st : Stp) : List (List Str) → List Str → Str → List (List Str) → List StepT → List Str → Str → Prop where
  | nil {c : List Str} {n : Str} : Pref st [] c n [] [] c n
  | cons {d : List Str} {ds : List (List Str)} {c : List Str} {n : Str} {pool : List Str} {rs : List (List Str)} {ss : List StepT} {c' : List Str} {n' : Str} : pool.Perm (d ++ c) → sortedS pool = true →
      Pref st ds (st n pool).2.1 (st n pool).2.2 rs ss c' n' → Pref st (d :: ds) c n ((st n pool).1 :: rs) ((pool, (st n pool).2.1, (st n pool).2.2) :: ss) c' n'
theorem Pref.len {st : Stp} {ds : List (List Str)} {c : List Str} {n : Str} {rs : List (List Str)} {ss : List StepT} {c' : List Str} {n' : Str} (h : Pref st ds c n rs ss c' n') : rs.length = ds.length ∧ ss.length = ds.length := by
  induction h with
  | nil => exact ⟨rfl, rfl⟩
  | cons a b t ih => exact ⟨congrArg Nat.succ ih.1, congrArg Nat.succ ih.2⟩
theorem Pref.det {st : Stp} {ds : List (List Str)} {c : List Str} {n : Str} {rs : List (List Str)} {ss : List StepT} {c' : List Str} {n' : Str} (h : Pref st ds c n rs ss c' n') : ∀ {rs2 ss2 c2 n2}, Pref st ds c n rs2 ss2 c2 n2 → rs2 = rs ∧ ss2 = ss ∧ c2 = c' ∧ n2 = n' := by
  induction h with
  | nil =>
    intro rs2 ss2 c2 n2 h2
    cases h2
    exact ⟨rfl, rfl, rfl, rfl⟩
  | cons p s t ih =>
    intro rs2 ss2 c2 n2 h2
    cases h2 with
    | cons p' s' t' =>
      have e := sortedS_unique (p'.trans p.symm) s' s
      subst e
      obtain ⟨e1, e2, e3, e4⟩ := ih t'
      rw [e1, e2, e3, e4]
      exact ⟨rfl, rfl, rfl, rfl⟩
theorem RunR.split {st : Stp} {B : List (List Str)} : ∀ {A : List (List Str)} {c : List Str} {n : Str} {rs : List (List Str)} {ss : List StepT}, RunR st (A ++ B) c n rs ss → ∃ rsA rsB ssA ssB c' n', rs = rsA ++ rsB ∧ ss = ssA ++ ssB ∧ Pref st A c n rsA ssA c' n' ∧ RunR st B c' n' rsB ssB
  | [], c, n, rs, ss, h => ⟨[], rs, [], ss, c, n, rfl, rfl, .nil, h⟩
  | d :: A, c, n, rs, ss, h => by
    have h : RunR st (d :: (A ++ B)) c n rs ss := h
    cases h with
    | step a p s t =>
      obtain ⟨rsA, rsB, ssA, ssB, c', n', e1, e2, e3, e4⟩ := RunR.split t
      subst e1 e2
      exact ⟨_, rsB, _, ssB, c', n', rfl, rfl, .cons p s e3, e4⟩
/-- rows alike, whatever empty digits stand at their ends -/
theorem end_same {p q : List (List Str)} (h : ∀ i, dg p i = dg q i) {m n : Nat} (hp : IsEnd p m) (hq : IsEnd q n) : p.take m = q.take n := by
  obtain ⟨a1, a2, a3⟩ := hp
  obtain ⟨b1, b2, b3⟩ := hq
  have e : m = n := by
    rcases Nat.lt_trichotomy m n with c | c | c
    · rcases b3 with b3 | b3
      · omega
      · exact absurd ((h (n - 1)).symm.trans (a2 (n - 1) (by omega))) b3
    · exact c
    · rcases a3 with a3 | a3
      · omega
      · exact absurd ((h (m - 1)).trans (b2 (m - 1) (by omega))) a3
  subst e
  refine List.ext_getElem? fun i => ?_
  by_cases c : i < m
  · rw [List.getElem?_take_of_lt c, List.getElem?_take_of_lt c]
    have d := h i
    unfold dg at d
    rw [List.getElem?_eq_getElem (by omega), List.getElem?_eq_getElem (by omega)] at d ⊢
    exact congrArg some d
  · rw [List.getElem?_eq_none (by rw [List.length_take]; omega), List.getElem?_eq_none (by rw [List.length_take]; omega)]
theorem dg_app (p q : List (List Str)) (i : Nat) : dg (p ++ q) i = if i < p.length then dg p i else dg q (i - p.length) := by
  unfold dg
  by_cases c : i < p.length
  · rw [if_pos c, List.getElem?_append_left c]
  · rw [if_neg c, List.getElem?_append_right (by omega)]
theorem dg_end {q : List (List Str)} {n : Nat} (h : IsEnd q n) (i : Nat) : dg (q.take n) i = dg q i := by
  by_cases c : i < n
  · unfold dg
    rw [List.getElem?_take_of_lt c]
  · rw [h.2.1 i (by omega)]
    unfold dg
    rw [List.getElem?_eq_none (by rw [List.length_take]; omega)]
    rfl
theorem dg_part {p q : List (List Str)} {n : Nat} (h : IsEnd q n) (i : Nat) : dg (p ++ q.take n) i = dg (p ++ q) i := by
  rw [dg_app, dg_app, dg_end h]
def lessF (M : Mak) (made : List Str) : Nat := (made.map fun z => ((lookM M z).getD []).length - 1).sum
def lessS (M : Mak) (ss : List StepT) : Nat := (ss.map fun s => lessF M s.2.1).sum
theorem parts_less {M : Mak} (two : ∀ z ps, lookM M z = some ps → 2 ≤ ps.length) : ∀ {made : List Str}, (∀ z ∈ made, z ∈ keysOf M) → (partsF M made).length = lessF M made + made.length
  | [], _ => rfl
  | z :: made, h => by
    have ih := parts_less two (made := made) fun y my => h y (List.mem_cons_of_mem _ my)
    obtain ⟨ps, e⟩ := lookM_in (h z List.mem_cons_self)
    have l := two z ps e
    show ((lookM M z).getD [] ++ partsF M made).length = (((lookM M z).getD []).length - 1 + lessF M made) + (made.length + 1)
    rw [List.length_append, ih, e]
    show ps.length + _ = _
    show ps.length + (lessF M made + made.length) = (ps.length - 1 + lessF M made) + (made.length + 1)
    omega
theorem RunR.trees {st : Stp} {ns : List Str} {M : Mak} (two : ∀ z ps, lookM M z = some ps → 2 ≤ ps.length) (hst : ∀ n pool, StepF ns M pool (st n pool)) {ds : List (List Str)} {c : List Str} {n : Str} {rs : List (List Str)} {ss : List StepT} (h : RunR st ds c n rs ss) :
    (rs.map List.length).sum + lessS M ss = (ds.map List.length).sum + c.length := by
  induction h with
  | nil => rfl
  | @step ds c n pool rs ss a p s t ih =>
    have hf := hst n pool
    have l1 := hf.keep.length_eq
    have l2 := p.length_eq
    rw [List.length_append] at l1 l2
    have l3 := parts_less two hf.keys
    have l4 : (ds.map List.length).sum = (ds.headD []).length + (ds.tail.map List.length).sum := by
      cases ds with
      | nil => rfl
      | cons d ds => rfl
    have l5 : lessS M ((pool, (st n pool).2.1, (st n pool).2.2) :: ss) = lessF M (st n pool).2.1 + lessS M ss := rfl
    rw [List.map_cons, List.sum_cons, l5]
    omega
theorem sum_end {q : List (List Str)} : ∀ {n : Nat}, (∀ i, n ≤ i → dg q i = []) → ((q.take n).map List.length).sum = (q.map List.length).sum := by
  induction q with
  | nil => intro n _; rw [List.take_nil]
  | cons x q ih =>
    intro n h
    cases n with
    | zero =>
      have h0 : x = [] := h 0 (Nat.le_refl _)
      have i0 := ih (n := 0) fun i _ => h (i + 1) (Nat.zero_le _)
      rw [List.take_zero] at i0 ⊢
      rw [List.map_cons, List.sum_cons, ← i0, h0]
      rfl
    | succ n =>
      rw [List.take_succ_cons, List.map_cons, List.map_cons, List.sum_cons, List.sum_cons, ih fun i hi => h (i + 1) (by omega)]
def kz (leaf : Str) (M : Mak) (r : Nat) (q : List Str) : Nat := (q.map (siz leaf M r)).sum
def sumK (leaf : Str) (M : Mak) : Nat → List (List Str) → Nat
  | _, [] => 0
  | r, q :: qs => kz leaf M r q + sumK leaf M (r + 1) qs
theorem kz_perm {leaf : Str} {M : Mak} {r : Nat} {p q : List Str} (h : p.Perm q) : kz leaf M r p = kz leaf M r q := (h.map _).sum_nat
theorem kz_app {leaf : Str} {M : Mak} {r : Nat} (p q : List Str) : kz leaf M r (p ++ q) = kz leaf M r p + kz leaf M r q := by
  unfold kz
  rw [List.map_append, List.sum_append]
theorem made_keys {leaf : Str} {M : Mak} (nd : (keysOf M).Nodup) {r : Nat} : ∀ {made : List Str}, (∀ z ∈ made, z ∈ keysOf M) → (∀ z ∈ partsF M made, z ∈ setR leaf M r) → (∀ z ∈ made, z ∈ setR leaf M (r + 1)) ∧ kz leaf M (r + 1) made = kz leaf M r (partsF M made)
  | [], _, _ => ⟨nofun, rfl⟩
  | z :: made, h, hp => by
    obtain ⟨ps, e⟩ := lookM_in (h z List.mem_cons_self)
    have ep : partsF M (z :: made) = ps ++ partsF M made := by
      show (lookM M z).getD [] ++ partsF M made = _
      rw [e]
      rfl
    rw [ep] at hp ⊢
    obtain ⟨i1, i2⟩ := made_keys nd (made := made) (fun y my => h y (List.mem_cons_of_mem _ my)) fun y my => hp y (List.mem_append_right _ my)
    have hz := fun y (my : y ∈ ps) => hp y (List.mem_append_left _ my)
    refine ⟨fun y my => ?_, ?_⟩
    · rcases List.mem_cons.mp my with rfl | my
      · exact (mem_succ nd).mpr ⟨ps, e, hz⟩
      · exact i1 y my
    · rw [kz_app, ← i2]
      show siz leaf M (r + 1) z + kz leaf M (r + 1) made = _
      rw [siz_succ nd e hz]
      rfl
theorem RunR.keys {st : Stp} {ns : List Str} {leaf : Str} {M : Mak} (nd : (keysOf M).Nodup) (hst : ∀ n pool, StepF ns M pool (st n pool)) {ds : List (List Str)} {c : List Str} {n : Str} {rs : List (List Str)} {ss : List StepT} (h : RunR st ds c n rs ss) :
    ∀ r, (∀ i, ∀ z ∈ dg ds i, z ∈ setR leaf M (r + i)) → (∀ z ∈ c, z ∈ setR leaf M r) → (∀ i, ∀ z ∈ dg rs i, z ∈ setR leaf M (r + i)) ∧ sumK leaf M r rs = sumK leaf M r ds + kz leaf M r c := by
  induction h with
  | nil => intro r _ _; exact ⟨nofun, rfl⟩
  | @step ds c n pool rs ss a p s t ih =>
    intro r hd hc
    have hf := hst n pool
    have hh : ∀ z ∈ ds.headD [], z ∈ setR leaf M r := fun z mz => by
      cases ds with
      | nil => cases mz
      | cons d ds => exact hd 0 z mz
    have hp : ∀ z ∈ pool, z ∈ setR leaf M r := fun z mz => by
      rcases List.mem_append.mp (p.mem_iff.mp mz) with h | h
      · exact hh z h
      · exact hc z h
    obtain ⟨m1, m2⟩ := made_keys (leaf := leaf) nd (r := r) hf.keys fun z mz => hp z (hf.keep.mem_iff.mpr (List.mem_append_right _ mz))
    have ht : ∀ i, ∀ z ∈ dg ds.tail i, z ∈ setR leaf M (r + 1 + i) := fun i z mz => by
      cases ds with
      | nil => cases mz
      | cons d ds =>
        have := hd (i + 1) z mz
        rwa [show r + (i + 1) = r + 1 + i by omega] at this
    obtain ⟨i1, i2⟩ := ih (r + 1) ht m1
    refine ⟨fun i z mz => ?_, ?_⟩
    · cases i with
      | zero => exact hp z (hf.sub.subset mz)
      | succ i =>
        have := i1 i z mz
        rwa [show r + 1 + i = r + (i + 1) by omega] at this
    · have e1 := kz_perm (leaf := leaf) (M := M) (r := r) hf.keep
      have e2 := kz_perm (leaf := leaf) (M := M) (r := r) p
      rw [kz_app] at e1 e2
      have e3 : sumK leaf M r ds = kz leaf M r (ds.headD []) + sumK leaf M (r + 1) ds.tail := by
        cases ds with
        | nil => rfl
        | cons d ds => rfl
      show kz leaf M r (st n pool).1 + sumK leaf M (r + 1) rs = _
      rw [i2, e3, m2]
      omega
theorem sumK_end {leaf : Str} {M : Mak} {q : List (List Str)} : ∀ {n r : Nat}, (∀ i, n ≤ i → dg q i = []) → sumK leaf M r (q.take n) = sumK leaf M r q := by
  induction q with
  | nil => intro n r _; rw [List.take_nil]
  | cons x q ih =>
    intro n r h
    cases n with
    | zero =>
      have h0 : x = [] := h 0 (Nat.le_refl _)
      have i0 := ih (n := 0) (r := r + 1) fun i _ => h (i + 1) (Nat.zero_le _)
      rw [List.take_zero] at i0 ⊢
      show 0 = kz leaf M r x + sumK leaf M (r + 1) q
      rw [← i0, h0]
      rfl
    | succ n =>
      rw [List.take_succ_cons]
      show kz leaf M r x + sumK leaf M (r + 1) (q.take n) = kz leaf M r x + sumK leaf M (r + 1) q
      rw [ih fun i hi => h (i + 1) (by omega)]
end Kl
set_option maxRecDepth 100000
set_option maxHeartbeats 4000000
namespace Kl
open PySem PySem.Spec PyProof.Rows L2 Gx Mx LamX
section
variable {P : Program} {w : World} {K : PySem.W.Frag} {d : Addr} {G G' : Hp}
/-- all but the tables stays -/
theorem extN_of {m dx : Addr} {G H' : Hp} {o1 o2 : HO} (nm : G m = none) (nd : G dx = none) (k : Keep m (upd (upd G dx o1) m o2) H') : ExtN G H' := fun b o e t => k b o (ne_of_none e nm) (by rw [upd_ne (ne_of_none e nm), upd_ne (ne_of_none e nd)]; exact e) t
theorem PlainIn.exN {p m e r s' g : Addr} {S : Bk} (h : PlainIn P w K G p m e r s' g S) (s : ExtN G G') : PlainIn P w K G' p m e r s' g S := by
  obtain ⟨kvs, em, hM⟩ := h.hm
  exact ⟨s _ _ h.hp (fun _ => nofun), ⟨kvs, s _ _ em (fun _ => nofun), hM.same fun b xs q => q.at fun o e' => by
    obtain ⟨ob, dn, e2⟩ := q
    rw [e2] at e'
    cases e'
    exact s _ _ e2 (fun _ => nofun)⟩, s _ _ h.he (fun _ => nofun), h.hr.exN s fun _ _ z => z, s _ _ h.hs (fun _ => nofun), h.hg.exN s fun _ _ z => rval_go (fun _ _ z => sqT_exN s z) z, h.mp, h.sp, h.ms, h.rg⟩
theorem PlainAt.exN {p : Addr} {S : Bk} (h : PlainAt P w K G p S) (s : ExtN G G') : PlainAt P w K G' p S := by
  obtain ⟨m, e, r, s', g, h⟩ := h
  exact ⟨m, e, r, s', g, h.exN s⟩
theorem PdOf.dice {CM m pd : Addr} (h : PdOf CM G m pd) (hd : DiceAt G d) (s : SameX d G G') : PdOf CM G' m pd := by
  obtain ⟨dm, kx, ld, e⟩ := h
  obtain ⟨a, b, c, ed⟩ := hd
  exact ⟨dm, kx, ld, s _ _ (fun z => by rw [z, ed] at e; cases e) e⟩
theorem PgsAt.exN {C : Addr} (s : ExtN G G') : ∀ {xs : List Addr} {gs : List Pg}, PgsAt K C G xs gs → PgsAt K C G' xs gs
  | _, _, .nil => .nil
  | _, _, .cons h t => .cons (h.exN s) (PgsAt.exN s t)
theorem PgsAt.dice {C : Addr} (hd : DiceAt G d) (s : SameX d G G') : ∀ {xs : List Addr} {gs : List Pg}, PgsAt K C G xs gs → PgsAt K C G' xs gs
  | _, _, .nil => .nil
  | _, _, .cons h t => .cons (h.dice hd s) (PgsAt.dice hd s t)
end
theorem sqL_xnew {K : PySem.W.Frag} {G G' : Hp} {d a : Addr} {xs : List V} (nd : G d = none) (x : ExtX d G G') (h : SqL K G a xs) : SqL K G' a xs := by
  rcases h with (h | ⟨o, h⟩) | h
  · exact .inl (.inl (x _ _ (ne_of_none h nd) h (fun _ z => by cases z)))
  · exact .inl (.inr ⟨o, x _ _ (ne_of_none h nd) h (fun _ z => by cases z)⟩)
  · exact .inr h
theorem paired_at {α β : Type} {R : α → β → Prop} : ∀ {xs : List α} {ys : List β}, Paired R xs ys → ∀ {j : Nat} {x : α}, xs[j]? = some x → ∃ y, ys[j]? = some y ∧ R x y
  | _, _, .nil, j, x, e => by cases e
  | _, _, .cons h t, 0, x, e => by cases e; exact ⟨_, rfl, h⟩
  | _, _, .cons h t, j + 1, x, e => paired_at t e
section
variable {P : Program} {w : World} {K : PySem.W.Frag} {mg : Str → Option Value} {base : Heap}
theorem minit_by {CM CP CK m dm kx md p : Addr} {Tb : List (Addr × Str)} {leaf : Str} {M : Mak} {ns : List Str} {xs : List Addr} {gs : List Pg} {G : Hp} {Q : VK} {E : XK} (hK : KindsAt CK G kx md leaf M ns) (nsok : ∀ z ∈ ns, PyData.strOk z = true) (hp : SqT K G p (xs.map V.ref)) (hP : PgsAt K CP G xs gs)
    (fit : ∀ g ∈ gs, FitP ns M g) (nd : (gs.map placeP).Nodup) (few : gs.length < 64) (nm : G m = none) (ndm : G dm = none) (tb : Tabs Tb G)
    (q : ∀ gs' pd H', MachAt P w K CM CP CK H' m kx md leaf M ns gs gs' → MOk ns M gs gs' → PdOf CM H' m pd → NewN G pd → ExtN G H' → Tabs Tb H' → Q .non H') :
    spMInit P w K CM CP CK Tb [.ref m, .ref kx, .ref p] (upd (upd G dm (.own m)) m (.ins CM dm [])) Q E := by
  have s := mk_same nm ndm (o1 := .own m) (o2 := .ins CM dm [])
  have nkm : kx ≠ m := by
    obtain ⟨dx, nt, kvs, h1, _⟩ := hK
    exact ne_of_none h1 nm
  exact ⟨m, dm, kx, md, leaf, M, ns, p, xs, gs, rfl, upd_same, hK.same s, nsok, sqT_same s hp, PgsAt.same s hP, fit, nd, few, nkm, tb.ext s, fun gs' pd H' pm asc hM hpd npd keep tb' =>
    q gs' pd H' hM ⟨fit, nd, few, pm, asc⟩ hpd (fun o e => npd o (s _ _ e)) (extN_of nm ndm keep) tb'⟩
end
end Kl
set_option maxRecDepth 100000
set_option maxHeartbeats 4000000
namespace Kl
open PySem PySem.Spec PyProof.Rows L2 Gx Mx LamX
abbrev resD (r : List (List Str)) (ss : List (List Str × List Str × Str)) : PyData := .tuple [rD r, .tuple (ss.map stepD)]
/-- what a run gives -/
def ResAt (K : PySem.W.Frag) (H : Hp) (t : Addr) (r : List (List Str)) (ss : List (List Str × List Str × Str)) : Prop :=
  ∃ (ra ga : Addr) (L2 : List (Addr × List Str)) (xs : List Addr), SqT K H t [.ref ra, .ref ga] ∧ RowAt K H ra L2 ∧ L2.map (·.2) = r ∧ SqT K H ga (xs.map V.ref) ∧ StpsAt K H xs ss
theorem RowAt.sq {K : PySem.W.Frag} {H H' : Hp} (sq : ∀ a xs, SqT K H a xs → SqT K H' a xs) {p : Addr} {LL : List (Addr × List Str)} (h : RowAt K H p LL) : RowAt K H' p LL := ⟨sq _ _ h.e, fun q hq => sq _ _ (h.t q hq)⟩
theorem ResAt.same {K : PySem.W.Frag} {H H' : Hp} {t : Addr} {r : List (List Str)} {ss : List (List Str × List Str × Str)} (h : ResAt K H t r ss) (s : Same H H') : ResAt K H' t r ss := by
  obtain ⟨ra, ga, L2, xs, a, b, c, d, e⟩ := h
  exact ⟨ra, ga, L2, xs, sqT_same s a, b.same s, c, sqT_same s d, e.go fun _ _ z => sqT_same s z⟩
theorem steps_dp {K : PySem.W.Frag} {H : Hp} : ∀ {xs : List Addr} {ss : List (List Str × List Str × Str)}, StpsAt K H xs ss → DpAll K H (xs.map V.ref) (ss.map stepD)
  | _, _, .nil => .nil
  | _, _, .cons ⟨pp, mp, a, b, c⟩ t => .cons (.tup a (.cons (.tup b (dp_texts _)) (.cons (.tup c (dp_texts _)) (.cons (.str _) .nil)))) (steps_dp t)
theorem ResAt.dp {K : PySem.W.Frag} {H : Hp} {t : Addr} {r : List (List Str)} {ss : List (List Str × List Str × Str)} (h : ResAt K H t r ss) : Dp K H (.ref t) (resD r ss) := by
  obtain ⟨ra, ga, L2, xs, a, b, rfl, d, e⟩ := h
  exact .tup a (.cons b.dp (.cons (.tup d (steps_dp e)) .nil))
/-- all names in it -/
structure NmsOk (r : List (List Str)) (ss : List (List Str × List Str × Str)) : Prop where
  row : ∀ q ∈ r, ∀ z ∈ q, nameB z = true
  st : ∀ s ∈ ss, (∀ z ∈ s.1, nameB z = true) ∧ (∀ z ∈ s.2.1, nameB z = true) ∧ nameB s.2.2 = true
theorem NmsOk.shaped {r : List (List Str)} {ss : List (List Str × List Str × Str)} (h : NmsOk r ss) : SeqAt.shaped (resD r ss) = true := by
  have l1 : Lay 3 (rD r) := .tup fun d hd => by
    obtain ⟨q, mq, rfl⟩ := List.mem_map.mp hd
    exact (Lay.txts fun z mz => names_low (h.row q mq z mz)).up (by decide : 1 ≤ 2)
  have l2 : Lay 3 (.tuple (ss.map stepD)) := .tup fun d hd => by
    obtain ⟨s, ms, rfl⟩ := List.mem_map.mp hd
    obtain ⟨a, b, c⟩ := h.st s ms
    exact stepD_lay a b c
  exact (Lay.tup (lay_cons l1 (lay_cons l2 lay_nil))).shaped (by decide)
theorem RunR.names {st : Stp} (hst : ∀ n pool, nameB n = true → (∀ z ∈ pool, nameB z = true) → (∀ z ∈ (st n pool).1, nameB z = true) ∧ (∀ z ∈ (st n pool).2.1, nameB z = true) ∧ nameB (st n pool).2.2 = true)
    {ds : List (List Str)} {c : List Str} {n : Str} {rs : List (List Str)} {ss : List (List Str × List Str × Str)} (h : RunR st ds c n rs ss) : (∀ q ∈ ds, ∀ z ∈ q, nameB z = true) → (∀ z ∈ c, nameB z = true) → nameB n = true → NmsOk rs ss := by
  induction h with
  | nil => intro _ _ _; exact ⟨nofun, nofun⟩
  | @step ds c n pool rs ss a p s t ih =>
    intro h1 h2 h3
    have hp : ∀ z ∈ pool, nameB z = true := fun z mz => by
      rcases List.mem_append.mp (p.mem_iff.mp mz) with h | h
      · cases ds with
        | nil => cases h
        | cons q ds => exact h1 q List.mem_cons_self z h
      · exact h2 z h
    obtain ⟨a1, a2, a3⟩ := hst n pool h3 hp
    have i := ih (fun q mq => h1 q (List.mem_of_mem_tail mq)) a2 a3
    refine ⟨fun q mq => ?_, fun x mx => ?_⟩
    · rcases List.mem_cons.mp mq with rfl | mq
      · exact a1
      · exact i.row q mq
    · rcases List.mem_cons.mp mx with rfl | mx
      · exact ⟨hp, a2, a3⟩
      · exact i.st x mx
theorem RunR.pools {st : Stp} {ns : List Str} (hst : ∀ n pool, (st n pool).2.1.length ≤ 2 ∧ ∀ z ∈ (st n pool).2.1, z ∈ ns)
    {ds : List (List Str)} {c : List Str} {n : Str} {rs : List (List Str)} {ss : List (List Str × List Str × Str)} (h : RunR st ds c n rs ss) : (∀ q ∈ ds, q.length ≤ 18 ∧ ∀ z ∈ q, z ∈ ns) → (c.length ≤ 2 ∧ ∀ z ∈ c, z ∈ ns) → ∀ s ∈ ss, sortedS s.1 = true ∧ s.1.length ≤ 20 ∧ ∀ z ∈ s.1, z ∈ ns := by
  induction h with
  | nil => intro _ _; exact nofun
  | @step ds c n pool rs ss a p s t ih =>
    intro h1 h2
    have hh : (ds.headD []).length ≤ 18 ∧ ∀ z ∈ ds.headD [], z ∈ ns := by
      cases ds with
      | nil => exact ⟨Nat.zero_le _, nofun⟩
      | cons q ds => exact h1 q List.mem_cons_self
    have i := ih (fun q mq => h1 q (List.mem_of_mem_tail mq)) (hst n pool)
    intro x mx
    rcases List.mem_cons.mp mx with rfl | mx
    · refine ⟨s, ?_, fun z mz => ?_⟩
      · have := p.length_eq
        rw [List.length_append] at this
        show pool.length ≤ 20
        have := hh.1
        have := h2.1
        omega
      · rcases List.mem_append.mp (p.mem_iff.mp mz) with h | h
        · exact hh.2 z h
        · exact h2.2 z h
    · exact i x mx
theorem paired_take {α β : Type} {R : α → β → Prop} : ∀ {xs : List α} {ys : List β} (n : Nat), Paired R xs ys → Paired R (xs.take n) (ys.take n)
  | _, _, 0, _ => by rw [List.take_zero, List.take_zero]; exact .nil
  | _, _, _ + 1, .nil => by rw [List.take_nil, List.take_nil]; exact .nil
  | _, _, n + 1, .cons h t => by rw [List.take_succ_cons, List.take_succ_cons]; exact .cons h (paired_take n t)
theorem paired_app {α β : Type} {R : α → β → Prop} : ∀ {xs : List α} {ys : List β} {xs' : List α} {ys' : List β}, Paired R xs ys → Paired R xs' ys' → Paired R (xs ++ xs') (ys ++ ys')
  | _, _, _, _, .nil, q => q
  | _, _, _, _, .cons h t, q => .cons h (paired_app t q)
theorem RunR.lens {st : Stp} {ds : List (List Str)} {c : List Str} {n : Str} {rs : List (List Str)} {ss : List StepT} (h : RunR st ds c n rs ss) : ss.length = rs.length := by
  induction h with
  | nil => rfl
  | step a p s t ih => rw [List.length_cons, List.length_cons, ih]
theorem stepM_made {M : Mak} {gs : List Pg} (ok : ∀ g ∈ gs, PgOk g) (n : Str) (pool : List Str) : goodM 20 (stepM M gs n pool).2.1 = true := by
  unfold stepM
  cases c : pageOf gs n pool with
  | none => exact (by decide +kernel : goodM 20 [] = true)
  | some g => exact good_up (ok g (List.mem_of_find?_eq_some c)).m (by decide)
end Kl
set_option maxRecDepth 100000
set_option maxHeartbeats 4000000
namespace Kl
open PySem PySem.Spec PyProof.Rows L2 Gx Mx LamX
section
variable {P : Program} {w : World} {K : PySem.W.Frag} {mg : Str → Option Value} {base : Heap}
def spCut (K : PySem.W.Frag) : Sp := fun vs H Q _ => ∃ (p : Addr) (LL : List (Addr × List Str)), vs = [V.ref p] ∧ (SqL K H p (LL.map fun q => V.ref q.1) ∨ SqT K H p (LL.map fun q => V.ref q.1)) ∧ TxtsAt K H LL ∧ LL.length ≤ 1000 ∧ (∀ q ∈ LL, ∀ z ∈ q.2, PyData.strOk z = true) ∧
  ∀ (a : Addr) (n : Nat) H', Same H H' → IsEnd (LL.map (·.2)) n → RowAt K H' a (LL.take n) → Q (.ref a) H'
theorem ok_cut {f : Addr} {fd : FuncData} (F : Fun K "_law_cut" "_law_cut" s_law_cut f fd) (T : Top K mg) : FnOk P w K mg base CX0 1 f fd ["_law_digits"] (spCut K) := by
  refine F.ok sc_law_cut (fun vs H Q E h => ?_) (fun cdv A outer s H vs Q E hr h => ?_)
  · obtain ⟨p, LL, rfl, _⟩ := h
    rfl
  · obtain ⟨p, LL, rfl, hR, hTx, lL, hok, q⟩ := h
    refine ⟨_, pss_cut (ps_set (i := 1) sc_law_cut.nd rfl (.inl rfl) (pe_callTy call_list_of (by rfl) T.b_list (by decide +kernel) (pa_cons (pv 0) pa_nil)))
      (pss_cut (ps_while PassesOwn.never (PW.pt (pw_and (pt_cmpR (op_neD hr.units) (pv 1) (pe_lst pa_nil) (by rfl)) (pw_and1 (pt_cmpR (op_eqD hr.units) (pe_ix ix_list (pv 1) (pe_un un_neg pe_int) (fun _ _ => rfl)) (pe_tup pa_nil) (by rfl)))))
        (pss_one (ps_expr (pe_bm0 PySem.F.plainAttrs_list PySem.F.slot_list_pop PySem.F.type_list_pop mt_pop (pv 1)))))
      (pss_one (ps_ret (pe_callTy call_tuple_of (by rfl) T.b_tuple (by decide +kernel) (pa_cons (pv 1) pa_nil))))), ?_⟩
    have big : 100000 ≤ sizeLine := by decide
    refine ⟨fun σ' G => ∃ l : Addr, σ' = [some (.ref p), some (.ref l)] ∧ G l = some (.lst (LL.map fun q => V.ref q.1)) ∧ H l = none ∧ Same H G, ?_, ?_⟩
    · refine ⟨_, rfl, p, _, rfl, hR, fun l nl => ⟨l, rfl, upd_same, nl, same_new (Same.refl H) nl⟩⟩
    rintro σ' G0 ⟨l, rfl, el0, nl, s0⟩
    refine ⟨fun σ' G => ∃ n : Nat, σ' = [some (.ref p), some (.ref l)] ∧ G l = some (.lst ((LL.take n).map fun q => V.ref q.1)) ∧ IsEnd (LL.map (·.2)) n ∧ Same H G, ?_, ?_⟩
    · refine ⟨fun m σ' G => σ' = [some (.ref p), some (.ref l)] ∧ G l = some (.lst ((LL.take m).map fun q => V.ref q.1)) ∧ m ≤ LL.length ∧ (∀ i, m ≤ i → dg (LL.map (·.2)) i = []) ∧ Same H G, ⟨LL.length, rfl, by rw [List.take_length]; exact el0, Nat.le_refl _, fun i hi => ?_, s0⟩, fun m σ' G hW => ?_⟩
      · unfold dg
        rw [List.getElem?_eq_none (by rw [List.length_map]; exact hi)]
        rfl
      obtain ⟨rfl, eL, lm, hall, sG⟩ := hW
      refine ⟨_, rfl, Nat.zero_le _, fun e0 ne0 => ?_⟩
      have s2 := same_new (o := .lst []) (Same.refl G) ne0
      have ee : (upd G e0 (.lst [])) e0 = some (.lst []) := upd_same
      generalize upd G e0 (.lst []) = G2 at s2 ee
      have eL2 := s2 _ _ eL
      have sH2 := sG.trans s2
      cases m with
      | zero =>
        rw [List.take_zero] at eL2
        refine ⟨.list [], .list [], .lst (.inl (.inl eL2)) .nil, .lst (.inl (.inl ee)) .nil, rfl, rfl, ?_⟩
        rw [show PyData.eqv (.list []) (.list []) = true from rfl]
        refine ⟨_, rfl, ?_⟩
        show (if (!true) = true then _ else _)
        rw [if_neg (by decide)]
        show (if false = true then _ else _)
        rw [if_neg (by decide)]
        exact ⟨0, rfl, by rw [List.take_zero]; exact eL2, ⟨Nat.zero_le _, hall, .inl rfl⟩, sH2⟩
      | succ m =>
        have lm' : m < LL.length := lm
        obtain ⟨q0, hq0⟩ : ∃ q0, LL[m]? = some q0 := ⟨_, List.getElem?_eq_getElem lm'⟩
        have tk : LL.take (m + 1) = LL.take m ++ [q0] := by rw [List.take_add_one, hq0]; rfl
        have ltk : (LL.take m).length = m := by rw [List.length_take]; omega
        rw [tk] at eL2
        have mq := List.mem_of_getElem? hq0
        have hT2 : TxtsAt K G2 (LL.take m ++ [q0]) := fun q hq => sqT_same sH2 (hTx q (by rw [← tk] at hq; exact List.mem_of_mem_take hq))
        have sOk : ∀ q ∈ LL.take m ++ [q0], ∀ z ∈ q.2, PyData.strOk z = true := fun q hq => hok q (by rw [← tk] at hq; exact List.mem_of_mem_take hq)
        obtain ⟨A, eA⟩ : ∃ A, LL.take m = A := ⟨_, rfl⟩
        have tk' : LL.take (m + 1) = A ++ [q0] := by rw [tk, eA]
        rw [eA] at eL2 hT2 sOk ltk
        have shL : SeqAt.shaped (.list (((A ++ [q0]).map (·.2)).map fun z => PyData.tuple (tD z))) = true := by
          obtain ⟨h1, h2⟩ := row_all (qs := (A ++ [q0]).map (·.2)) fun q hq => by
            obtain ⟨y, hy, rfl⟩ := List.mem_map.mp hq
            exact sOk y hy
          unfold SeqAt.shaped
          rw [Bool.and_eq_true]
          exact ⟨h1, decide_eq_true (by rw [PyData.depth]; omega)⟩
        have dpL : Dp K G2 (.ref l) (.list (((A ++ [q0]).map (·.2)).map fun z => PyData.tuple (tD z))) := .lst (.inl (.inl eL2)) (dp_refs hT2)
        refine ⟨_, .list [], dpL, .lst (.inl (.inl ee)) .nil, shL, rfl, ?_⟩
        rw [show PyData.eqv (.list (((A ++ [q0]).map (·.2)).map fun z => PyData.tuple (tD z))) (.list []) = false by rw [PyData.eqv]; cases A <;> rfl]
        refine ⟨_, rfl, ?_⟩
        show (if (!false) = true then _ else _)
        rw [if_pos (by decide)]
        have hat : atI ((A ++ [q0]).map fun q => V.ref q.1) (-1) = some (.ref q0.1) := by
          unfold atI ixN
          rw [if_neg (by decide), List.length_map, List.length_append, List.length_singleton, if_pos (by omega)]
          show ((A ++ [q0]).map fun q => V.ref q.1)[((-1 : Int) + ((A.length + 1 : Nat) : Int)).toNat]? = _
          rw [show ((-1 : Int) + ((A.length + 1 : Nat) : Int)).toNat = A.length by omega, List.getElem?_map, List.getElem?_append_right (Nat.le_refl _), Nat.sub_self]
          rfl
        have hqt := hT2 q0 (List.mem_append.mpr (.inr (List.mem_singleton.mpr rfl)))
        refine ⟨_, rfl, _, rfl, l, _, _, .ref q0.1, rfl, rfl, .inl (.inl eL2), hat, Nat.zero_le _, fun e1 ne1 => ?_⟩
        have s3 := same_new (o := .tup []) (Same.refl G2) ne1
        have ee1 : (upd G2 e1 (.tup [])) e1 = some (.tup []) := upd_same
        generalize upd G2 e1 (.tup []) = G3 at s3 ee1
        have eL3 := s3 _ _ eL2
        refine ⟨.tuple (tD q0.2), .tuple (tD []), .tup (sqT_same s3 hqt) (dp_texts _), .tup (.inl (.inl ee1)) (dp_texts []), shaped_textsT (sOk q0 (List.mem_append.mpr (.inr (List.mem_singleton.mpr rfl)))), shaped_textsT (fun z hz => nomatch hz), ?_⟩
        rw [PyData.eqv, eqv_texts]
        refine ⟨_, rfl, ?_⟩
        have edg : dg (LL.map (·.2)) m = q0.2 := by
          unfold dg
          rw [List.getElem?_map, hq0]
          rfl
        by_cases c : q0.2 = []
        · rw [decide_eq_true c]
          show (if true = true then _ else _)
          rw [if_pos rfl]
          refine ⟨_, fun σ' G h => h, ?_⟩
          have hlast : ((A ++ [q0]).map fun q => V.ref q.1)[((A ++ [q0]).map fun q => V.ref q.1).length - 1]? = some (V.ref q0.1) := by
            rw [List.length_map, List.length_append, List.length_singleton, Nat.add_sub_cancel, List.getElem?_map, List.getElem?_append_right (Nat.le_refl _), Nat.sub_self]
            rfl
          refine ⟨_, rfl, ⟨.inl ⟨rfl, _, .inl (.inl eL3)⟩, l, _, _, rfl, rfl, eL3, hlast, ?_⟩⟩
          rw [show ((A ++ [q0]).map fun q => V.ref q.1).dropLast = A.map fun q => V.ref q.1 by rw [List.map_append]; exact List.dropLast_concat]
          refine ⟨m, by omega, rfl, ?_, by omega, fun i hi => ?_, fun b o e => by rw [upd_ne (ne_of_none e nl)]; exact s3 _ _ (sH2 _ _ e)⟩
          · rw [upd_same, eA]
          · rcases Nat.eq_or_lt_of_le hi with h | h
            · rw [← h, edg, c]
            · exact hall i h
        · rw [decide_eq_false c]
          show (if false = true then _ else _)
          rw [if_neg (by decide)]
          refine ⟨m + 1, rfl, by rw [tk']; exact eL3, ⟨by rw [List.length_map]; exact lm, hall, .inr (by rw [Nat.add_sub_cancel, edg]; exact c)⟩, sH2.trans s3⟩
    rintro σ' G1 ⟨n, rfl, el, hE, s1⟩
    refine ⟨_, rfl, l, _, rfl, .inl ⟨.inl (.inl el), fun tq ntq => ?_⟩⟩
    have s2 := same_new (o := .tup ((LL.take n).map fun q => V.ref q.1)) s1 ntq
    exact q tq n _ s2 hE ⟨.inl (.inl upd_same), fun x hx => sqT_same s2 (hTx x (List.mem_of_mem_take hx))⟩
end
end Kl
set_option maxRecDepth 100000
set_option maxHeartbeats 4000000
namespace Kl
open PySem PySem.Spec PyProof.Rows L2 Gx Mx LamX
theorem cut_from {xs : List V} {n : Nat} (h : n ≤ xs.length) : cutV xs (some ((n : Nat) : Int)) none = xs.drop n := by
  unfold cutV
  rw [HT.sIx_nat, HT.sIx_none, Nat.min_eq_left h, List.take_of_length_le (by rw [List.length_drop]; omega)]
section
variable {P : Program} {w : World} {K : PySem.W.Frag} {mg : Str → Option Value} {base : Heap}
def spIP (P : Program) (w : World) (K : PySem.W.Frag) (CM CP CK : Addr) : Sp := fun vs H Q _ => ∃ m kx md leaf M ns gs gs' note pd c0 at_, ∃ (cs0 : List Str) (LL : List (Addr × List Str)) (rs : List (List Str)) (ss : List StepT) (n0 : Nat), vs = [V.ref m, .str note, .ref pd, .ref c0, .int (at_ : Nat)] ∧ MachAt P w K CM CP CK H m kx md leaf M ns gs gs' ∧ MOk ns M gs gs' ∧ (∀ z ∈ ns, PyData.strOk z = true) ∧ (∀ z ps, lookM M z = some ps → 2 ≤ ps.length) ∧ nameB note = true ∧
  RowAt K H pd LL ∧ LL.length ≤ 300 ∧ (∀ q ∈ LL, goodB q.2 = true ∧ q.2.length ≤ 18 ∧ ∀ z ∈ q.2, z ∈ ns) ∧ SqT K H c0 (cs0.map V.str) ∧ goodM 20 cs0 = true ∧ cs0.length ≤ 2 ∧ (∀ z ∈ cs0, z ∈ ns) ∧ at_ ≤ LL.length ∧
  RunR (stepM M gs) (LL.map (·.2)) cs0 note rs ss ∧ IsEnd rs n0 ∧ NmsOk rs ss ∧ rs.length ≤ 400 ∧ ∀ t H', Same H H' → ResAt K H' t (rs.take n0) ss → Q (.ref t) H'
theorem ok_ip {CM CP CK f : Addr} {fd : FuncData} (F : Fun K "_law_in_parts" "_law_in_parts" s_law_in_parts f fd) (T : Top K mg) (TM : Cl_Machine K mg CM) (TC : Cl_Page K mg CP) (TK : Cl_Kinds K mg CK) : FnOk P w K mg base CX0 8 f fd ["_law_machine", "_law_note", "_law_digits", "_law_brought", "_law_at"] (spIP P w K CM CP CK) := by
  have cc : Cal P w K mg base 7 "_law_cut" ["_law_digits"] (spCut K) := (T.d_law_cut.cal fun f fd F => ok_cut F T).mono (by decide)
  have kRun : CalMKK P w K mg base CM "run" 6 ["self", "note", "digits", "carried"] 3 "carried" (spMRun P w K CM CP CK) := TM.m_run.calK fun f fd F => ok_mrun F T TM TC TK
  have kSp : CalM P w K mg base CM "step" 6 ["self", "note", "pool"] (spMStep P w K CM CP CK) := TM.m_step.cal fun f fd F => ok_mstep F T TM TC TK
  refine F.ok sc_law_in_parts (fun vs H Q E h => ?_) (fun cdv A outer s H vs Q E hr h => ?_)
  · obtain ⟨m, kx, md, leaf, M, ns, gs, gs', note, pd, c0, at_, cs0, LL, rs, ss, n0, rfl, _⟩ := h
    rfl
  · obtain ⟨m, kx, md, leaf, M, ns, gs, gs', note, pd, c0, at_, cs0, LL, rs, ss, n0, rfl, hM, hOk, hok, two, hn, hR, l300, hg, h0, hc0, lc0, hcn0, hat, hrun, hE, hnm, lrs, q⟩ := h
    refine ⟨_, pss_cut (ps_asg (pe_methKK (pl := _) (pv 0) TM.cl kRun (hr.mono (by decide)) (pa_cons (pv 1) (pa_cons (pe_slice sl_tupS (pv 2) po_none (po_some (pv 4))) pa_nil)) (pk_cons (pv 3) pk_nil)) (pg_tup rfl (pgs_cons (pg_name (i := 5) sc_law_in_parts.nd rfl (.inl rfl)) (pgs_cons (pg_name (i := 6) sc_law_in_parts.nd rfl (.inl rfl)) pgs_nil))))
      (pss_cut (ps_set (i := 7) sc_law_in_parts.nd rfl (.inl rfl) (pe_lst pa_nil))
      (pss_cut (ps_for PassesOwn.never rfl (pi_tup (pe_slice sl_tupS (pv 6) po_none (po_some (pv 4)))) (pg_tup rfl (pgs_cons (pg_name (i := 8) sc_law_in_parts.nd rfl (.inl rfl)) (pgs_cons (pg_name (i := 9) sc_law_in_parts.nd rfl (.inl rfl)) (pgs_cons (pg_name (i := 10) sc_law_in_parts.nd rfl (.inl rfl)) pgs_nil))))
        (pss_cut (ps_expr (pe_bm PySem.F.plainAttrs_list PySem.F.slot_list_append PySem.F.type_list_append mt_append (pv 7) (pa_cons (pe_ix ix_tup (pe_methC (pl := _) (pv 0) TM.cl kSp (hr.mono (by decide)) (pa_cons (pv 1) (pa_cons (pv 8) pa_nil))) pe_int (fun _ _ => rfl)) pa_nil)))
        (pss_one (ps_par (i := 1) (j := 3) rfl sc_law_in_parts.nd rfl rfl (by decide) rfl rfl (pa_cons (pv 10) (pa_cons (pv 9) pa_nil)) (by kernel_rfl)))))
      (pss_cut (ps_asg (pe_methKK (pl := _) (pv 0) TM.cl kRun (hr.mono (by decide)) (pa_cons (pv 1) (pa_cons (pe_slice sl_tupS (pv 2) (po_some (pv 4)) po_none) pa_nil)) (pk_cons (pv 3) pk_nil)) (pg_tup rfl (pgs_cons (pg_name (i := 11) sc_law_in_parts.nd rfl (.inl rfl)) (pgs_cons (pg_name (i := 12) sc_law_in_parts.nd rfl (.inl rfl)) pgs_nil))))
      (pss_one (ps_ret (pe_tup (pa_cons (pe_cal cc hr (by rfl) (pa_cons (pe_op op_catS (pe_callTy call_tuple_of (by rfl) T.b_tuple (by decide +kernel) (pa_cons (pv 7) pa_nil)) (pv 11)) pa_nil)) (pa_cons (pe_op op_catS (pe_slice sl_tupS (pv 6) po_none (po_some (pv 4))) (pv 12)) pa_nil)))))))), ?_⟩
    have big : 100000 ≤ sizeLine := by decide
    obtain ⟨dm, ld, pdm, hx, _⟩ := id hM
    have nok : ∀ z : Str, (z == ("_kinds" : Str)) = false → (z == ("_left" : Str)) = false → (z == ("_pages" : Str)) = false → ∀ kx ld pd : Addr, List.lookup z (mf kx ld pd) = none := fun z a b c kx ld pd => mf_no _ _ _ a b c
    have okp : ∀ g ∈ gs, PgOk g := fun g mg => (hOk.fit g mg).1
    have hst : ∀ n pool, StepF ns M pool (stepM M gs n pool) := fun n pool => stepM_f hOk.fit two n pool
    have hpools := hrun.pools (ns := ns) (fun n pool => ⟨(hst n pool).made, (hst n pool).inn⟩) (fun q mq => by
      obtain ⟨x, mx, rfl⟩ := List.mem_map.mp mq
      exact ⟨(hg x mx).2.1, (hg x mx).2.2⟩) ⟨lc0, hcn0⟩
    have esp : LL.map (·.2) = (LL.take at_).map (·.2) ++ (LL.drop at_).map (·.2) := by rw [← List.map_append, List.take_append_drop]
    have hrun2 := hrun
    rw [esp] at hrun2
    obtain ⟨rsA, rsB, ssA, ssB, c', n', ers, ess, hPr, hrB⟩ := hrun2.split
    have lA : rsA.length = at_ ∧ ssA.length = at_ := by
      have := hPr.len
      rw [List.length_map, List.length_take] at this
      omega
    have lss : ss.length ≤ 400 ∨ True := .inr trivial
    -- the first ranks
    refine ⟨fun σ' G => ∃ (ra ga : Addr) (xs1 : List Addr) (ss1 : List StepT), σ' = [some (.ref m), some (.str note), some (.ref pd), some (.ref c0), some (.int (at_ : Nat)), some (.ref ra), some (.ref ga), none, none, none, none, none, none] ∧ SqT K G ga (xs1.map V.ref) ∧ StpsAt K G xs1 ss1 ∧ (∃ ssX, ss1 = ssA ++ ssX) ∧ Same H G, ?_, ?_⟩
    · refine ⟨_, rfl, m, dm, _, rfl, hx, nok _ (by decide +kernel) (by decide +kernel) (by decide +kernel) _ _ _, _, rfl, _, rfl, _, rfl, _, rfl, pd, _, rfl, hR.e, fun p2 G2 s2 hp2 => ?_⟩
      rw [cut_to0, ← List.map_take] at hp2
      refine ⟨_, rfl, rfl, rfl, ?_⟩
      refine ⟨m, kx, md, leaf, M, ns, gs, gs', note, p2, c0, cs0, LL.take at_, rfl, hM.same s2, hOk, hok, two, hn, ⟨hp2, fun x hx => sqT_same s2 (hR.t x (List.mem_of_mem_take hx))⟩, by rw [List.length_take]; omega, fun x hx => hg x (List.mem_of_mem_take hx), sqT_same s2 h0, hc0, lc0, hcn0, fun t ra ga L2 xs1 rs1 ss1 n1 H' s3 h1 h2 h3 h4 h5 h6 h7 h8 => ?_⟩
      have h7' : RunR (stepM M gs) ((LL.take at_).map (·.2) ++ []) cs0 note rs1 ss1 := by rw [List.append_nil]; exact h7
      obtain ⟨rsA2, rsX, ssA2, ssX, c2, n2, e1, e2, hPr2, _⟩ := h7'.split
      obtain ⟨_, e3, _, _⟩ := hPr.det hPr2
      subst e3
      exact ⟨_, _, rfl, h1, rfl, _, _, rfl, _, _, rfl, rfl, ra, ga, xs1, ss1, rfl, h5, h6, ⟨ssX, e2⟩, s2.trans s3⟩
    rintro σ' G1 ⟨ra, ga, xs1, ss1, rfl, hga, hS1, ⟨ssX, e1⟩, s1⟩
    have lx1 : xs1.length = ss1.length := Paired.length hS1
    refine ⟨fun σ' G => ∃ nl : Addr, σ' = [some (.ref m), some (.str note), some (.ref pd), some (.ref c0), some (.int (at_ : Nat)), some (.ref ra), some (.ref ga), some (.ref nl), none, none, none, none, none] ∧ G nl = some (.lst []) ∧ G1 nl = none ∧ Same G1 G, ?_, ?_⟩
    · exact ⟨Nat.zero_le _, fun nl nn => ⟨nl, rfl, upd_same, nn, same_new (Same.refl G1) nn⟩⟩
    rintro σ' G2 ⟨nl, rfl, enl, nnl, s2⟩
    -- what is told of them
    refine ⟨fun σ' G => ∃ (c : Addr) (FN : List (Addr × List Str)) (t8 t9 t10 : Option V), σ' = [some (.ref m), some (.str n'), some (.ref pd), some (.ref c), some (.int (at_ : Nat)), some (.ref ra), some (.ref ga), some (.ref nl), t8, t9, t10, none, none] ∧ G nl = some (.lst (FN.map fun q => V.ref q.1)) ∧ TxtsAt K G FN ∧ FN.map (·.2) = rsA ∧ SqT K G c (c'.map V.str) ∧ nameB n' = true ∧ goodM 20 c' = true ∧ c'.length ≤ 2 ∧ (∀ z ∈ c', z ∈ ns) ∧ Same G1 G, ?_, ?_⟩
    · refine ⟨_, rfl, _, rfl, _, rfl, ga, _, rfl, sqT_same s2 hga, fun p2 G3 s3 hp2 => ?_⟩
      rw [cut_to0, ← List.map_take] at hp2
      have ltk : (xs1.take at_).length = at_ := by
        rw [List.length_take, lx1, e1, List.length_append, lA.2]
        omega
      have hsA : ∀ {j : Nat} {x : Addr}, (xs1.take at_)[j]? = some x → ∃ s0, ssA[j]? = some s0 ∧ StpAt K G1 x s0 := fun {j x} hj => by
        have lj : j < at_ := by
          have := (List.getElem?_eq_some_iff.mp hj).1
          omega
        rw [List.getElem?_take_of_lt lj] at hj
        obtain ⟨s0, hs0, hst0⟩ := paired_at hS1 hj
        rw [e1, List.getElem?_append_left (by omega)] at hs0
        exact ⟨s0, hs0, hst0⟩
      have s23 := s2.trans s3
      refine ⟨p2, rfl, ⟨_, hp2⟩, ?_⟩
      refine for_it (walk_tup (K := K) (a := p2) (xs := (xs1.take at_).map V.ref)) (fun j σ' G => ∃ (nj : Str) (c : Addr) (cj : List Str) (FN : List (Addr × List Str)) (t8 t9 t10 : Option V), σ' = [some (.ref m), some (.str nj), some (.ref pd), some (.ref c), some (.int (at_ : Nat)), some (.ref ra), some (.ref ga), some (.ref nl), t8, t9, t10, none, none] ∧ G nl = some (.lst (FN.map fun q => V.ref q.1)) ∧ TxtsAt K G FN ∧ FN.map (·.2) = rsA.take j ∧ SqT K G c (cj.map V.str) ∧
          nameB nj = true ∧ goodM 20 cj = true ∧ cj.length ≤ 2 ∧ (∀ z ∈ cj, z ∈ ns) ∧ Pref (stepM M gs) (((LL.take at_).map (·.2)).drop j) cj nj (rsA.drop j) (ssA.drop j) c' n' ∧ Same G1 G ∧ (∀ a xs, SqT K G3 a xs → SqT K G a xs))
        ⟨note, c0, cs0, [], none, none, none, rfl, s3 _ _ enl, nofun, rfl, sqT_same (s1.trans s23) h0, hn, hc0, lc0, hcn0, hPr, s23, fun _ _ h => h⟩ (fun j σ' G _ h => by obtain ⟨_, _, _, _, _, _, _, _, _, _, _, _, _, _, _, _, _, _, k⟩ := h; exact k _ _ hp2) (fun j v σ' Gx G hj h hy => ?_) (fun σ' G h => ?_)
      rotate_left
      · obtain ⟨nj, c, cj, FN, t8, t9, t10, rfl, eN, hT, eF, hc, h1, h2, h3, h4, hP, sG, _⟩ := h
        rw [List.length_map, ltk] at eF hP
        rw [List.take_of_length_le (by omega)] at eF
        have e0 : ((LL.take at_).map (·.2)).drop at_ = [] := List.drop_eq_nil_of_le (by rw [List.length_map, List.length_take]; omega)
        rw [e0] at hP
        generalize rsA.drop at_ = u1 at hP
        generalize ssA.drop at_ = u2 at hP
        cases hP
        exact ⟨c, FN, t8, t9, t10, rfl, eN, hT, eF, hc, h1, h2, h3, h4, sG⟩
      obtain ⟨nj, c, cj, FN, t8, t9, t10, rfl, eN, hT, eF, hc, hnj, g2, g3, g4, hP, sG, keepT⟩ := h
      obtain ⟨rfl, hv⟩ := hy
      have hv : ((xs1.take at_).map V.ref)[j]? = some v := hv
      rw [List.getElem?_map] at hv
      obtain ⟨x, hx0, rfl⟩ := Option.map_eq_some_iff.mp hv
      obtain ⟨s0, hs0, pp, mp, k1, k2, k3⟩ := hsA hx0
      have ms0 : s0 ∈ ss := by rw [ess]; exact List.mem_append_left _ (List.mem_of_getElem? hs0)
      have lj : j < at_ := by
        have := (List.getElem?_eq_some_iff.mp hx0).1
        omega
      obtain ⟨d0, hd0⟩ : ∃ d0, ((LL.take at_).map (·.2))[j]? = some d0 := ⟨_, List.getElem?_eq_getElem (by rw [List.length_map, List.length_take]; omega)⟩
      obtain ⟨r0, hr0⟩ : ∃ r0, rsA[j]? = some r0 := ⟨_, List.getElem?_eq_getElem (by omega)⟩
      have dr : ∀ {α : Type} {l : List α} {y : α}, l[j]? = some y → l.drop j = y :: l.drop (j + 1) := fun {α l y} h => by
        obtain ⟨hl, e⟩ := List.getElem?_eq_some_iff.mp h
        rw [List.drop_eq_getElem_cons hl, e]
      rw [dr hd0, dr hr0, dr hs0] at hP
      obtain ⟨pl1, pl2, pl3⟩ := hpools s0 ms0
      obtain ⟨nm1, nm2, nm3⟩ := hnm.st s0 ms0
      have gpool : goodM 20 s0.1 = true := good_mk pl2 nm1 pl1
      obtain ⟨er, es⟩ : (stepM M gs nj s0.1).1 = r0 ∧ (stepM M gs nj s0.1).2 = s0.2 := by
        cases hP
        exact ⟨rfl, rfl⟩
      have hPn : Pref (stepM M gs) (((LL.take at_).map (·.2)).drop (j + 1)) s0.2.1 s0.2.2 (rsA.drop (j + 1)) (ssA.drop (j + 1)) c' n' := by
        cases hP
        assumption
      have hf := hst nj s0.1
      have hmd := stepM_made (M := M) okp nj s0.1
      rw [es] at hmd
      have f1 := hf.made
      have f2 := hf.inn
      rw [es] at f1 f2
      refine ⟨_, _, rfl, sqT_same sG k1, rfl, _, _, rfl, _, _, rfl, _, _, rfl, rfl, ?_⟩
      refine ⟨fun σ' G' => ∃ a : Addr, σ' = [some (.ref m), some (.str nj), some (.ref pd), some (.ref c), some (.int (at_ : Nat)), some (.ref ra), some (.ref ga), some (.ref nl), some (.ref pp), some (.ref mp), some (.str s0.2.2), none, none] ∧ G' nl = some (.lst ((FN ++ [(a, r0)]).map fun q => V.ref q.1)) ∧ TxtsAt K G' (FN ++ [(a, r0)]) ∧ (∀ a xs, SqT K G a xs → SqT K G' a xs) ∧ Same G1 G', ?_, ?_⟩
      · have sA := s1.trans sG
        refine ⟨_, rfl, ⟨.inl ⟨rfl, _, .inl (.inl eN)⟩, ?_⟩⟩
        refine ⟨_, rfl, m, dm, _, rfl, sA _ _ hx, nok _ (by decide +kernel) (by decide +kernel) (by decide +kernel) _ _ _, _, rfl, _, rfl, m, kx, md, leaf, M, ns, gs, gs', nj, pp, s0.1, rfl, hM.same sA, hOk, hok, hnj, sqT_same sG k2, gpool, pl3, fun t2 a b G4 s4 g1 gg2 gg3 => ?_⟩
        rw [er] at gg2
        refine ⟨t2, _, 0, .ref a, rfl, rfl, g1, rfl, ?_⟩
        have eN4 := s4 _ _ eN
        have bu : ButD nl G4 (upd G4 nl (.lst ((FN.map fun q => V.ref q.1) ++ [V.ref a]))) := butD_of (fun b o n e => by rw [upd_ne n]; exact e) eN4 (fun _ => nofun) (fun _ _ => nofun)
        have lF : FN.length = j := by
          have := congrArg List.length eF
          rw [List.length_map, List.length_take] at this
          omega
        refine ⟨nl, _, _, rfl, rfl, eN4, by rw [List.length_map]; omega, a, rfl, by rw [upd_same, List.map_append]; rfl, fun x hx => ?_, fun a xs h => bu.sq _ _ (sqT_same s4 h), fun b' o e => by rw [upd_ne (ne_of_none e nnl)]; exact s4 _ _ (sG _ _ e)⟩
        rcases List.mem_append.mp hx with h | h
        · exact bu.sq _ _ (sqT_same s4 (hT x h))
        · rw [List.mem_singleton.mp h]
          exact bu.sq _ _ gg2
      rintro σ' G4 ⟨a, rfl, eN4, hT4, nw, sG4⟩
      refine ⟨_, rfl, _, rfl, _, _, rfl, s0.2.2, mp, s0.2.1, FN ++ [(a, r0)], _, _, _, rfl, eN4, hT4, ?_, nw _ _ (sqT_same sG k3), nm3, hmd, f1, f2, hPn, sG4, fun a xs h => nw _ _ (keepT _ _ h)⟩
      rw [List.map_append, eF, List.take_add_one, hr0]
      rfl
    rintro σ' G3 ⟨c, FN, t8, t9, t10, rfl, eN, hT, eF, hc, g1, g2, g3, g4, s3⟩
    have s13 := s1.trans s3
    -- the others
    refine ⟨fun σ' G => ∃ (r2 g2 : Addr) (L2 : List (Addr × List Str)) (xs2 : List Addr) (n2 : Nat), σ' = [some (.ref m), some (.str n'), some (.ref pd), some (.ref c), some (.int (at_ : Nat)), some (.ref ra), some (.ref ga), some (.ref nl), t8, t9, t10, some (.ref r2), some (.ref g2)] ∧ RowAt K G r2 L2 ∧ L2.map (·.2) = rsB.take n2 ∧ IsEnd rsB n2 ∧ SqT K G g2 (xs2.map V.ref) ∧ StpsAt K G xs2 ssB ∧ Same G3 G, ?_, ?_⟩
    · have hR3 := hR.same s13
      refine ⟨_, rfl, m, dm, _, rfl, s13 _ _ hx, nok _ (by decide +kernel) (by decide +kernel) (by decide +kernel) _ _ _, _, rfl, _, rfl, _, rfl, _, rfl, pd, _, rfl, hR3.e, fun p2 G4 s4 hp2 => ?_⟩
      rw [cut_from (by rw [List.length_map]; exact hat), ← List.map_drop] at hp2
      refine ⟨_, rfl, rfl, rfl, ?_⟩
      refine ⟨m, kx, md, leaf, M, ns, gs, gs', n', p2, c, c', LL.drop at_, rfl, hM.same (s13.trans s4), hOk, hok, two, g1, ⟨hp2, fun x hx => sqT_same s4 (hR3.t x (List.mem_of_mem_drop hx))⟩, by rw [List.length_drop]; omega, fun x hx => hg x (List.mem_of_mem_drop hx), sqT_same s4 hc, g2, g3, g4, fun t r2 gg2 L2 xs2 rs2 ss2 n2 H' s5 h1 h2 h3 h4 h5 h6 h7 h8 => ?_⟩
      obtain ⟨e3, e4⟩ := hrB.det h7
      subst e3 e4
      exact ⟨_, _, rfl, h1, rfl, _, _, rfl, _, _, rfl, rfl, r2, gg2, L2, xs2, n2, rfl, h2, h3, h4, h5, h6, s4.trans s5⟩
    rintro σ' G4 ⟨r2, g2', L2, xs2, n2, rfl, hR2, eL2, hE2, hG2, hS2, s4⟩
    have lrs' : rsA.length + rsB.length ≤ 400 := by rw [ers, List.length_append] at lrs; exact lrs
    have lF : FN.length = at_ := by
      have := congrArg List.length eF
      rw [List.length_map] at this
      omega
    have lL2 : L2.length ≤ rsB.length := by
      have := congrArg List.length eL2
      rw [List.length_map, List.length_take] at this
      omega
    refine ⟨_, rfl, nl, _, rfl, .inl ⟨.inl (.inl (s4 _ _ eN)), fun tq ntq => ?_⟩⟩
    have s5 := same_new (o := .tup (FN.map fun q => V.ref q.1)) (Same.refl G4) ntq
    have etq : (upd G4 tq (.tup (FN.map fun q => V.ref q.1))) tq = some (.tup (FN.map fun q => V.ref q.1)) := upd_same
    generalize upd G4 tq (.tup (FN.map fun q => V.ref q.1)) = G5 at *
    have s45 := s4.trans s5
    refine ⟨_, rfl, tq, r2, _, _, rfl, rfl, .inl (.inl etq), sqT_same s5 hR2.e, by rw [List.length_map, List.length_map]; omega, fun p5 G6 s6 hp5 => ?_⟩
    rw [← List.map_append] at hp5
    have s46 := s45.trans s6
    have hT6 : TxtsAt K G6 (FN ++ L2) := fun x hx => by
      rcases List.mem_append.mp hx with h | h
      · exact sqT_same s46 (hT x h)
      · exact sqT_same (s5.trans s6) (hR2.t x h)
    have okN : ∀ x ∈ FN ++ L2, ∀ z ∈ x.2, PyData.strOk z = true := fun x hx z hz => by
      have h : x.2 ∈ rs := by
        rw [ers]
        rcases List.mem_append.mp hx with h | h
        · refine List.mem_append_left _ ?_
          rw [← eF]
          exact List.mem_map.mpr ⟨x, h, rfl⟩
        · refine List.mem_append_right _ (List.mem_of_mem_take (i := n2) ?_)
          rw [← eL2]
          exact List.mem_map.mpr ⟨x, h, rfl⟩
      exact names_low (hnm.row _ h z hz)
    refine ⟨p5, FN ++ L2, rfl, .inr hp5, hT6, by rw [List.length_append]; omega, okN, fun rr n3 G7 s7 hE3 hR7 => ?_⟩
    have erow : ((FN ++ L2).take n3).map (·.2) = rs.take n0 := by
      rw [List.map_take]
      refine end_same (fun i => ?_) hE3 hE
      rw [List.map_append, eF, eL2, ers]
      exact dg_part hE2 i
    have s37 := s46.trans s7
    refine ⟨_, rfl, _, rfl, _, rfl, ga, _, rfl, sqT_same (s3.trans s37) hga, fun p8 G8 s8 hp8 => ?_⟩
    rw [cut_to0, ← List.map_take] at hp8
    have hA8 : StpsAt K G8 (xs1.take at_) ssA := by
      have h := hS1.go fun _ _ h => sqT_same ((s3.trans s37).trans s8) h
      have h2 := paired_take at_ h
      have e5 : ss1.take at_ = ssA := by rw [e1, List.take_append_of_le_length (by omega), List.take_of_length_le (by omega)]
      rw [e5] at h2
      exact h2
    refine ⟨_, rfl, p8, g2', _, _, rfl, rfl, hp8, sqT_same ((s5.trans (s6.trans s7)).trans s8) hG2, ?_, fun p9 G9 s9 hp9 => ?_⟩
    · have h1 : xs2.length = ssB.length := Paired.length hS2
      have h2 : (xs1.take at_).length ≤ at_ := by rw [List.length_take]; omega
      have h3 : ssB.length = rsB.length := hrB.lens
      rw [List.length_map, List.length_map]
      omega
    rw [← List.map_append] at hp9
    refine ⟨by show 2 ≤ sizeLine; omega, fun t nt => ?_⟩
    have s10 := same_new (o := .tup [V.ref rr, .ref p9]) (Same.refl G9) nt
    have et : (upd G9 t (.tup [V.ref rr, .ref p9])) t = some (.tup [V.ref rr, .ref p9]) := upd_same
    generalize upd G9 t (.tup [V.ref rr, .ref p9]) = G10 at *
    have s79 := s8.trans s9
    refine q t G10 (s13.trans (s37.trans (s79.trans s10))) ⟨rr, p9, (FN ++ L2).take n3, xs1.take at_ ++ xs2, .inl (.inl et), hR7.same (s79.trans s10), erow, sqT_same s10 hp9, ?_⟩
    rw [ess]
    exact paired_app (hA8.go fun _ _ h => sqT_same (s9.trans s10) h) (hS2.go fun _ _ h => sqT_same ((s5.trans (s6.trans s7)).trans (s79.trans s10)) h)
end
end Kl
set_option maxRecDepth 100000
set_option maxHeartbeats 4000000
namespace Kl
open PySem PySem.Spec PyProof.Rows L2 Gx Mx
abbrev keysPl : List Key := [Sum.inr "leaf", Sum.inr "makings", Sum.inr "first", Sum.inr "ends", Sum.inr "reads", Sum.inr "starts", Sum.inr "pages"]
theorem keysPl_nd : keysPl.Nodup := by decide +kernel
section
variable {P : Program} {w : World} {K : PySem.W.Frag} {mg : Str → Option Value} {base : Heap}
def spPlain (P : Program) (w : World) (K : PySem.W.Frag) : Sp := fun vs H Q _ => ∃ (l : Addr) (ls : List PLine), vs = [.ref l] ∧ SqL K H l ((ls.map showL).map V.str) ∧ (∀ x ∈ ls, LnOk x = true) ∧ ls.length ≤ 60 ∧ NdS (stOf ls) ∧
  ∀ p H', H p = none → Same H H' → PlainAt P w K H' p (stOf ls) → Q (.ref p) H'
theorem ok_plain {f : Addr} {fd : FuncData} (F : Fun K "_law_plain" "_law_plain" s_law_plain f fd) (T : Top K mg) : FnOk P w K mg base CX0 2 f fd ["_law_lines"] (spPlain P w K) := by
  have cd : Cal P w K mg base 1 "_law_digit" ["_law_text"] (spDG K) := T.d_law_digit.cal fun f fd F => ok_dg F T
  refine F.ok sc_law_plain (fun vs H Q E h => ?_) (fun cdv A outer s H vs Q E hr h => ?_)
  · obtain ⟨l, ls, rfl, _⟩ := h
    rfl
  · obtain ⟨l, ls, rfl, hl, hok, few, nd, q⟩ := h
    have hu := hu_of hr
    refine ⟨_, pss_cut (ps_set (i := 1) sc_law_plain.nd rfl (.inl rfl) (pe_disp (pps_cons pe_str pe_str (pps_cons pe_str pe_dnewK (pps_cons pe_str pe_str (pps_cons pe_str (pe_lst pa_nil) (pps_cons pe_str (pe_nnew (P := P) (w := w) (K := K) (by exact ⟨rfl, rfl, rfl⟩)) (pps_cons pe_str pe_dnewK (pps_cons pe_str (pe_nnew (P := P) (w := w) (K := K) (by exact ⟨rfl, rfl, rfl⟩)) pps_nil))))))) rfl rfl (by decide) (by decide)))
      (pss_cut (ps_for PassesOwn.never rfl (pi_list (pv 0)) (pg_name (i := 2) sc_law_plain.nd rfl (.inl rfl))
        (pss_cut (ps_set (i := 3) sc_law_plain.nd rfl (.inl rfl) (pe_split (pv 2) pe_str))
        (pss_one (ps_if (pt_cmpR (op_inSeqK (K := K) (by exact rfl)) (pe_ix ix_list (pv 3) pe_int (fun _ _ => rfl)) (pe_tup (pa_cons pe_str (pa_cons pe_str pa_nil))) (by rfl))
          (pss_one (ps_dput hu (pv 1) (pe_ix ix_list (pv 3) pe_int (fun _ _ => rfl)) (pe_ix ix_list (pv 3) pe_int (fun _ _ => rfl)) (by rfl)))
          (pss_one (ps_if (pt_cmpR op_eq (pe_ix ix_list (pv 3) pe_int (fun _ _ => rfl)) pe_str (nomark _))
            (pss_one (ps_dput hu (pv 1) pe_str (pe_slice sl_list (pv 3) (po_some pe_int) po_none) (by rfl)))
          (pss_one (ps_if (pt_cmpR op_eq (pe_ix ix_list (pv 3) pe_int (fun _ _ => rfl)) pe_str (nomark _))
            (pss_one (ps_dput hu (pe_dget hu (pv 1) pe_str (fun _ _ => rfl)) (pe_ix ix_list (pv 3) pe_int (fun _ _ => rfl)) (pe_cal cd hr (by rfl) (pa_cons (pe_ix ix_list (pv 3) pe_int (fun _ _ => rfl)) pa_nil)) (by rfl)))
          (pss_one (ps_if (pt_cmpR op_eq (pe_ix ix_list (pv 3) pe_int (fun _ _ => rfl)) pe_str (nomark _))
            (pss_one (ps_nput (P := P) (w := w) (K := K) (by exact ⟨rfl, rfl, rfl⟩) (by exact hr.units) (pe_dget hu (pv 1) pe_str (fun _ _ => rfl)) (pe_tup (pa_cons (pe_ix ix_list (pv 3) pe_int (fun _ _ => rfl)) (pa_cons (pe_cal cd hr (by rfl) (pa_cons (pe_ix ix_list (pv 3) pe_int (fun _ _ => rfl)) pa_nil)) pa_nil))) (pe_ix ix_list (pv 3) pe_int (fun _ _ => rfl)) (by rfl)))
          (pss_one (ps_if (pt_cmpR op_eq (pe_ix ix_list (pv 3) pe_int (fun _ _ => rfl)) pe_str (nomark _))
            (pss_one (ps_dput hu (pe_dget hu (pv 1) pe_str (fun _ _ => rfl)) (pe_ix ix_list (pv 3) pe_int (fun _ _ => rfl)) (pe_ix ix_list (pv 3) pe_int (fun _ _ => rfl)) (by rfl)))
            (pss_one (ps_nput (P := P) (w := w) (K := K) (by exact ⟨rfl, rfl, rfl⟩) (by exact hr.units) (pe_dget hu (pv 1) pe_str (fun _ _ => rfl)) (pe_tup (pa_cons (pe_ix ix_list (pv 3) pe_int (fun _ _ => rfl)) (pa_cons (pe_cal cd hr (by rfl) (pa_cons (pe_ix ix_list (pv 3) pe_int (fun _ _ => rfl)) pa_nil)) pa_nil)))
              (pe_tup (pa_cons (pe_cal cd hr (by rfl) (pa_cons (pe_ix ix_list (pv 3) pe_int (fun _ _ => rfl)) pa_nil)) (pa_cons (pe_ix ix_list (pv 3) pe_int (fun _ _ => rfl)) pa_nil))) (by rfl)))))))))))))))
      (pss_one (ps_ret (pv 1)))), ?_⟩
    have big : 100000 ≤ sizeLine := by decide
    refine ⟨fun σ' G => ∃ p m e r s g : Addr, σ' = [some (.ref l), some (.ref p), none, none] ∧ H p = none ∧ H m = none ∧ H r = none ∧ H s = none ∧ H g = none ∧ PlainIn P w K G p m e r s g S0 ∧ Same H G, ?_, ?_⟩
    · refine fun p np m nm => ⟨by show 0 ≤ sizeLine; omega, fun e ne r nr s ns g ng => ?_⟩
      have s1 := same_new (o := .dK []) (Same.refl H) np
      have s2 := same_new (o := .dK []) (Same.refl _) nm
      have s3 := same_new (o := .lst []) (Same.refl _) ne
      have s4 := same_new (o := DN P w r []) (Same.refl _) nr
      have s5 := same_new (o := .dK []) (Same.refl _) ns
      have s6 := same_new (o := DN P w g []) (Same.refl _) ng
      have e1 : (upd H p (.dK [])) p = some (.dK []) := upd_same
      generalize upd H p (.dK []) = H1 at *
      have e2 : (upd H1 m (.dK [])) m = some (.dK []) := upd_same
      generalize upd H1 m (.dK []) = H2 at *
      have e3 : (upd H2 e (.lst [])) e = some (.lst []) := upd_same
      generalize upd H2 e (.lst []) = H3 at *
      have e4 : (upd H3 r (DN P w r [])) r = some (DN P w r []) := upd_same
      generalize upd H3 r (DN P w r []) = H4 at *
      have e5 : (upd H4 s (.dK [])) s = some (.dK []) := upd_same
      generalize upd H4 s (.dK []) = H5 at *
      have e6 : (upd H5 g (DN P w g [])) g = some (DN P w g []) := upd_same
      generalize upd H5 g (DN P w g []) = H6 at *
      have s26 := s2.trans (s3.trans (s4.trans (s5.trans s6)))
      have s36 := s3.trans (s4.trans (s5.trans s6))
      have s46 := s4.trans (s5.trans s6)
      have p1 := s26 _ _ e1
      have mp : m ≠ p := fun z => by rw [z, e1] at nm; cases nm
      have sp : s ≠ p := fun z => by rw [z, (s2.trans (s3.trans s4)) _ _ e1] at ns; cases ns
      have ms : m ≠ s := fun z => by rw [← z, (s3.trans s4) _ _ e2] at ns; cases ns
      have rg : r ≠ g := fun z => by rw [← z, s5 _ _ e4] at ng; cases ng
      have ep : e ≠ p := fun z => by rw [z, s2 _ _ e1] at ne; cases ne
      have rp : r ≠ p := fun z => by rw [z, (s2.trans s3) _ _ e1] at nr; cases nr
      have gp : g ≠ p := fun z => by rw [z, (s2.trans (s3.trans (s4.trans s5))) _ _ e1] at ng; cases ng
      have back : ∀ {G G' : Hp} {b : Addr}, Same G G' → G' b = none → G b = none := fun {G G' b} s n => by
        cases c : G b with
        | none => rfl
        | some o => rw [s _ _ c] at n; cases n
      refine ⟨p1, kvP "" m "" e r s g, rfl, by show 7 ≤ 15; omega, p, m, e, r, s, g, rfl, np, back s1 nm, back (s1.trans (s2.trans s3)) nr, back (s1.trans (s2.trans (s3.trans s4))) ns, back (s1.trans (s2.trans (s3.trans (s4.trans s5)))) ng, ?_, fun b o eb => ?_⟩
      · rw [merge_nil (show (List.map (fun x => x.1) (kvP "" m "" e r s g)).Nodup from keysPl_nd)]
        exact ⟨upd_same, ⟨[], by rw [upd_ne mp]; exact s36 _ _ e2, .nil⟩, by rw [upd_ne ep]; exact s46 _ _ e3, ⟨[], by rw [upd_ne rp]; exact (s5.trans s6) _ _ e4, .nil⟩, by rw [upd_ne sp]; exact s6 _ _ e5, ⟨[], by rw [upd_ne gp]; exact e6, .nil⟩, mp, sp, ms, rg⟩
      · rw [upd_ne (ne_of_none eb np)]
        exact s26 _ _ (s1 _ _ eb)
    rintro σ' G1 ⟨p, m, e0, r, s, g, rfl, np, nm, nr, ns, ng, hp, s1⟩
    refine ⟨fun σ' G => ∃ t2 t3 : Option V, σ' = [some (.ref l), some (.ref p), t2, t3] ∧ (∃ e, PlainIn P w K G p m e r s g (stOf ls)) ∧ Same H G, ?_, ?_⟩
    · refine ⟨_, rfl, l, rfl, ⟨_, sqL_go s1 hl⟩, ?_⟩
      refine for_it (walk_list (K := K) (a := l) (xs := (ls.map showL).map V.str)) (fun j σ' G => ∃ t2 t3 : Option V, σ' = [some (.ref l), some (.ref p), t2, t3] ∧ (∃ e, PlainIn P w K G p m e r s g (stOf (ls.take j))) ∧ Same H G)
        ⟨none, none, rfl, ⟨e0, hp⟩, s1⟩ (fun j σ' G _ h => by obtain ⟨_, _, _, _, s⟩ := h; exact sqL_go s hl) (fun j v σ' Gx G hj h hy => ?_) (fun σ' G h => ?_)
      rotate_left
      · obtain ⟨t2, t3, rfl, hP, s⟩ := h
        rw [List.length_map, List.length_map, List.take_length] at hP
        exact ⟨t2, t3, rfl, hP, s⟩
      obtain ⟨t2, t3, rfl, ⟨e, hI⟩, sm⟩ := h
      obtain ⟨rfl, hv⟩ := hy
      obtain ⟨z, hz, rfl⟩ := at_texts hv
      rw [List.getElem?_map] at hz
      obtain ⟨x, hx, rfl⟩ := Option.map_eq_some_iff.mp hz
      have okx := hok x (List.mem_of_getElem? hx)
      have lx := show_len okx
      have tk1 : ls.take (j + 1) = ls.take j ++ [x] := by rw [List.take_add_one, hx]; rfl
      have nd1 := nd_take nd (j + 1)
      rw [tk1, stOf_snoc] at nd1
      rw [tk1, stOf_snoc]
      have few0 : (stOf (ls.take j)).maks.length ≤ j ∧ (stOf (ls.take j)).rd.length ≤ j ∧ (stOf (ls.take j)).st.length ≤ j ∧ (stOf (ls.take j)).pg.length ≤ j := by
        have := stOf_len (ls.take j)
        have l := List.length_take_le j ls
        omega
      have lj : j < 60 := Nat.lt_of_lt_of_le (List.getElem?_eq_some_iff.mp hx).1 few
      have hw := word_len okx
      generalize stOf (ls.take j) = S at *
      refine ⟨fun σ' G' => ∃ u : Addr, σ' = [some (.ref l), some (.ref p), some (.str (showL x)), some (.ref u)] ∧ Same G G' ∧ G' u = some (.lst ((wordsL x).map V.str)), ?_, ?_⟩
      · refine ⟨_, rfl, ⟨_, rfl⟩, _, _, rfl, rfl, rfl, by omega, fun u nu => ⟨u, rfl, same_new (Same.refl G) nu, ?_⟩⟩
        rw [show_split okx]
        exact upd_same
      rintro σ' G3 ⟨u, rfl, s3, eu⟩
      have hI3 := hI.same s3
      have sm3 := sm.trans s3
      clear hI sm s3
      have a0 : atI ((wordsL x).map V.str) 0 = some (.str (headW x)) := atI_nat (by rw [List.getElem?_map, head_at]; rfl)
      refine ⟨_, rfl, u, _, 0, _, rfl, rfl, .inl (.inl eu), a0, by show 2 ≤ sizeLine; omega, fun t nt => ⟨t, _, rfl, .inr (.inl (.inl upd_same)), rfl, rfl, _, rfl, ?_⟩⟩
      have s4 := same_new (o := .tup [V.str "leaf", .str "first"]) (Same.refl G3) nt
      generalize upd G3 t (.tup [V.str "leaf", .str "first"]) = G4 at *
      have eu := s4 _ _ eu
      have hI := hI3.same s4
      have sm := sm3.trans s4
      clear hI3 sm3 s4 nt
      have noW : ∀ {z y : Str}, z ≠ y → ¬ (decide (V.str z = V.str y)) = true := fun n c => n (V.str.inj (of_decide_eq_true c))
      cases x with
      | leaf a =>
        refine iteT (show inV (V.str "leaf") [V.str "leaf", V.str "first"] = true by decide +kernel) ?_
        refine ⟨_, rfl, u, _, 1, .str a, rfl, rfl, .inl (.inl eu), rfl, _, rfl, _, rfl, u, _, 0, _, rfl, rfl, .inl (.inl eu), a0, p, _, rfl, DPut.k (k := Sum.inr "leaf") hI.hp (by show 7 < sizeLine; omega), ?_⟩
        rw [kvP_leaf]
        have bd : ∀ b o, b ≠ p → G4 b = some o → (upd G4 p (.dK (kvP a m S.first e r s g))) b = some o := fun b o n e => by rw [upd_ne n]; exact e
        exact ⟨_, _, rfl, ⟨e, hI.put_p (S' := stepP S (.leaf a)) hI.he bd upd_same rfl rfl rfl rfl⟩, fun b o q => bd b o (ne_of_none q np) (sm b o q)⟩
      | first a =>
        refine iteT (show inV (V.str "first") [V.str "leaf", V.str "first"] = true by decide +kernel) ?_
        refine ⟨_, rfl, u, _, 1, .str a, rfl, rfl, .inl (.inl eu), rfl, _, rfl, _, rfl, u, _, 0, _, rfl, rfl, .inl (.inl eu), a0, p, _, rfl, DPut.k (k := Sum.inr "first") hI.hp (by show 7 < sizeLine; omega), ?_⟩
        rw [kvP_first]
        have bd : ∀ b o, b ≠ p → G4 b = some o → (upd G4 p (.dK (kvP S.leaf m a e r s g))) b = some o := fun b o n e => by rw [upd_ne n]; exact e
        exact ⟨_, _, rfl, ⟨e, hI.put_p (S' := stepP S (.first a)) hI.he bd upd_same rfl rfl rfl rfl⟩, fun b o q => bd b o (ne_of_none q np) (sm b o q)⟩
      | ends a =>
        refine iteF (show ¬ inV (V.str "ends") [V.str "leaf", V.str "first"] = true by decide +kernel) ?_
        refine ⟨_, rfl, u, _, 0, _, rfl, rfl, .inl (.inl eu), a0, rfl, _, rfl, iteT (decide_eq_true rfl) ?_⟩
        have ec : cutV ((wordsL (.ends a)).map V.str) (some 1) none = a.map V.str := by
          unfold cutV
          rw [show (1 : Int) = ((1 : Nat) : Int) from rfl, HT.sIx_nat, HT.sIx_none, List.length_map]
          show (((("ends" : Str) :: a).map V.str).drop (min 1 (a.length + 1))).take _ = _
          rw [Nat.min_eq_left (show 1 ≤ a.length + 1 by omega)]
          show (a.map V.str).take (a.length + 1 - 1) = _
          rw [List.take_of_length_le (by rw [List.length_map]; omega)]
        refine ⟨_, rfl, 1, rfl, u, _, rfl, .inl (.inl eu), fun y ny => ?_⟩
        rw [ec]
        have s5 := same_new (o := .lst (a.map V.str)) (Same.refl G4) ny
        have ey : (upd G4 y (.lst (a.map V.str))) y = some (.lst (a.map V.str)) := upd_same
        generalize upd G4 y (.lst (a.map V.str)) = G5 at *
        have hI5 := hI.same s5
        refine ⟨_, rfl, p, _, rfl, DPut.k (k := Sum.inr "ends") hI5.hp (by show 7 < sizeLine; omega), ?_⟩
        rw [kvP_ends]
        have bd : ∀ b o, b ≠ p → G5 b = some o → (upd G5 p (.dK (kvP S.leaf m S.first y r s g))) b = some o := fun b o n e => by rw [upd_ne n]; exact e
        exact ⟨_, _, rfl, ⟨y, hI5.put_p (S' := stepP S (.ends a)) ey bd upd_same rfl rfl rfl rfl⟩, fun b o q => bd b o (ne_of_none q np) (s5 _ _ (sm b o q))⟩
      | kind a d =>
        refine iteF (show ¬ inV (V.str "kind") [V.str "leaf", V.str "first"] = true by decide +kernel) ?_
        refine ⟨_, rfl, u, _, 0, _, rfl, rfl, .inl (.inl eu), a0, rfl, _, rfl, iteF (noW (z := "kind") (y := "ends") (by decide +kernel)) ?_⟩
        refine ⟨_, rfl, u, _, 0, _, rfl, rfl, .inl (.inl eu), a0, rfl, _, rfl, iteT (decide_eq_true rfl) ?_⟩
        have okx : (nameB a && (allN d && decide (d ≠ []))) = true := okx
        rw [Bool.and_eq_true, Bool.and_eq_true] at okx
        obtain ⟨o1, o2, o3⟩ := okx
        have ld := hw (textD d) (by simp [wordsL])
        refine ⟨_, rfl, u, _, 2, .str (textD d), rfl, rfl, .inl (.inl eu), rfl, _, rfl, by omega, fun t G5 s5 ht hz => ?_⟩
        rw [cut_text (allN_names o2)] at hz
        have hz := hz (fun e => by
          have c := cut_text (allN_names o2)
          rw [e] at c
          exact absurd c.symm (of_decide_eq_true o3))
        have hI5 := hI.same s5
        obtain ⟨kvs, em, hM⟩ := hI5.hm
        have na : a ∉ keysOf S.maks := by
          have := nd1.maks
          have : ((S.maks ++ [(a, d)]).map (·.1)).Nodup := this
          rw [List.map_append] at this
          exact last_no this
        have lk : kvs.length = S.maks.length := Paired.length hM
        refine ⟨_, rfl, p, _, rfl, hI5.get kvP_m, _, rfl, u, _, 1, .str a, rfl, rfl, .inl (.inl (s5 _ _ eu)), rfl, m, _, rfl, DPut.k (k := Sum.inr a) em (by omega), ?_⟩
        rw [putK_new _ (hM.no na)]
        have bd : ∀ b o, b ≠ m → G5 b = some o → (upd G5 m (.dK (kvs ++ [(Sum.inr a, .ref t)]))) b = some o := fun b o n e => by rw [upd_ne n]; exact e
        have bu : ButD m G5 (upd G5 m (.dK (kvs ++ [(Sum.inr a, .ref t)]))) := butD_of bd em (fun _ => nofun) (fun _ _ => nofun)
        have hI6 := hI5.put_m (M := S.maks ++ [(a, d)]) bd ⟨_, upd_same, MakAt.snoc (bu.tz _ _ hz) (hM.same bu.tz)⟩
        exact ⟨_, _, rfl, ⟨e, hI6⟩, fun b o q => bd b o (ne_of_none q nm) (s5 _ _ (sm b o q))⟩
      | read n d v =>
        refine iteF (show ¬ inV (V.str "read") [V.str "leaf", V.str "first"] = true by decide +kernel) ?_
        refine ⟨_, rfl, u, _, 0, _, rfl, rfl, .inl (.inl eu), a0, rfl, _, rfl, iteF (noW (z := "read") (y := "ends") (by decide +kernel)) ?_⟩
        refine ⟨_, rfl, u, _, 0, _, rfl, rfl, .inl (.inl eu), a0, rfl, _, rfl, iteF (noW (z := "read") (y := "kind") (by decide +kernel)) ?_⟩
        refine ⟨_, rfl, u, _, 0, _, rfl, rfl, .inl (.inl eu), a0, rfl, _, rfl, iteT (decide_eq_true rfl) ?_⟩
        have okx : (nameB n && (allN d && nameB v)) = true := okx
        rw [Bool.and_eq_true, Bool.and_eq_true] at okx
        obtain ⟨o1, o2, o3⟩ := okx
        have ld := hw (textD d) (by simp [wordsL])
        obtain ⟨L, er, hL⟩ := hI.hr
        refine ⟨_, rfl, u, _, 3, .str v, rfl, rfl, .inl (.inl eu), rfl, _, rfl, p, _, rfl, hI.get kvP_r, _, rfl, u, _, 1, .str n, rfl, rfl, .inl (.inl eu), rfl, _, rfl, u, _, 2, .str (textD d), rfl, rfl, .inl (.inl eu), rfl, _, rfl, by omega, fun t G5 s5 ht _ => ⟨by show 2 ≤ sizeLine; omega, fun b nb => ?_⟩⟩
        rw [cut_text (allN_names o2)] at ht
        have s6 := same_new (o := .tup [V.str n, .ref t]) (Same.refl G5) nb
        have eb : (upd G5 b (.tup [V.str n, .ref t])) b = some (.tup [V.str n, .ref t]) := upd_same
        generalize upd G5 b (.tup [V.str n, .ref t]) = G6 at *
        have ht := sqT_same s6 ht
        have s46 := s5.trans s6
        have hI6 := hI.same s46
        have na : placeP ⟨n, d, [], v⟩ ∉ S.rd.map placeP := by
          have := nd1.rd
          have : ((S.rd ++ [(⟨n, d, [], v⟩ : Pg)]).map placeP).Nodup := this
          rw [List.map_append] at this
          exact last_no this
        have hL6 : EntAt RTx K G6 L S.rd := hL.mono (fun _ _ z => sqT_same s46 z) fun _ _ z => z
        have ka : KeyA K G6 b (keyK (placeP ⟨n, d, [], v⟩)) := keyK_mk (.inl (.inl eb)) ht
        have lL := hL.len
        obtain ⟨L', eL, hD⟩ := PlDict.add (P := P) (w := w) (v := .str v) (s46 _ _ er) hL6 ka rfl (fun _ _ _ _ z => z) na
        refine ⟨r, b, L, _, rfl, rfl, s46 _ _ er, hL6.all, ka, by omega, ?_⟩
        rw [eL]
        have bd : ∀ b o, b ≠ r → G6 b = some o → (upd G6 r (DN P w r L')) b = some o := fun b o n e => by rw [upd_ne n]; exact e
        exact ⟨_, _, rfl, ⟨e, hI6.put_r bd hD⟩, fun b o q => bd b o (ne_of_none q nr) (s46 _ _ (sm b o q))⟩
      | start a n =>
        refine iteF (show ¬ inV (V.str "start") [V.str "leaf", V.str "first"] = true by decide +kernel) ?_
        refine ⟨_, rfl, u, _, 0, _, rfl, rfl, .inl (.inl eu), a0, rfl, _, rfl, iteF (noW (z := "start") (y := "ends") (by decide +kernel)) ?_⟩
        refine ⟨_, rfl, u, _, 0, _, rfl, rfl, .inl (.inl eu), a0, rfl, _, rfl, iteF (noW (z := "start") (y := "kind") (by decide +kernel)) ?_⟩
        refine ⟨_, rfl, u, _, 0, _, rfl, rfl, .inl (.inl eu), a0, rfl, _, rfl, iteF (noW (z := "start") (y := "read") (by decide +kernel)) ?_⟩
        refine ⟨_, rfl, u, _, 0, _, rfl, rfl, .inl (.inl eu), a0, rfl, _, rfl, iteT (decide_eq_true rfl) ?_⟩
        have na : a ∉ S.st.map (·.1) := by
          have := nd1.st
          have : ((S.st ++ [(a, n)]).map (·.1)).Nodup := this
          rw [List.map_append] at this
          exact last_no this
        refine ⟨_, rfl, u, _, 2, .str n, rfl, rfl, .inl (.inl eu), rfl, _, rfl, p, _, rfl, hI.get kvP_s, _, rfl, u, _, 1, .str a, rfl, rfl, .inl (.inl eu), rfl, s, _, rfl, DPut.k (k := Sum.inr a) hI.hs (by rw [List.length_map]; omega), ?_⟩
        rw [putK_new _ (stK_no na)]
        have es : stK S.st ++ [((Sum.inr a : Key), V.str n)] = stK (S.st ++ [(a, n)]) := by rw [stK, stK, List.map_append]; rfl
        rw [es]
        have bd : ∀ b o, b ≠ s → G4 b = some o → (upd G4 s (.dK (stK (S.st ++ [(a, n)])))) b = some o := fun b o n e => by rw [upd_ne n]; exact e
        exact ⟨_, _, rfl, ⟨e, hI.put_s bd upd_same⟩, fun b o q => bd b o (ne_of_none q ns) (sm b o q)⟩
      | page q =>
        refine iteF (show ¬ inV (V.str "page") [V.str "leaf", V.str "first"] = true by decide +kernel) ?_
        refine ⟨_, rfl, u, _, 0, _, rfl, rfl, .inl (.inl eu), a0, rfl, _, rfl, iteF (noW (z := "page") (y := "ends") (by decide +kernel)) ?_⟩
        refine ⟨_, rfl, u, _, 0, _, rfl, rfl, .inl (.inl eu), a0, rfl, _, rfl, iteF (noW (z := "page") (y := "kind") (by decide +kernel)) ?_⟩
        refine ⟨_, rfl, u, _, 0, _, rfl, rfl, .inl (.inl eu), a0, rfl, _, rfl, iteF (noW (z := "page") (y := "read") (by decide +kernel)) ?_⟩
        refine ⟨_, rfl, u, _, 0, _, rfl, rfl, .inl (.inl eu), a0, rfl, _, rfl, iteF (noW (z := "page") (y := "start") (by decide +kernel)) ?_⟩
        have okx : (nameB q.note && (allN q.pool && (allN q.made && nameB q.after))) = true := okx
        rw [Bool.and_eq_true, Bool.and_eq_true, Bool.and_eq_true] at okx
        obtain ⟨o1, o2, o3, o4⟩ := okx
        have ld2 := hw (textD q.pool) (by simp [wordsL, wordsP])
        have ld4 := hw (textD q.made) (by simp [wordsL, wordsP])
        obtain ⟨L, er, hL⟩ := hI.hg
        refine ⟨_, rfl, u, _, 4, .str (textD q.made), rfl, rfl, .inl (.inl eu), rfl, _, rfl, by omega, fun t2 G5 s5 ht2 _ => ⟨_, rfl, u, _, 6, .str q.after, rfl, rfl, .inl (.inl (s5 _ _ eu)), rfl, by show 2 ≤ sizeLine; omega, fun y ny => ?_⟩⟩
        rw [cut_text (allN_names o3)] at ht2
        have s6 := same_new (o := .tup [V.ref t2, .str q.after]) (Same.refl G5) ny
        have ey : (upd G5 y (.tup [V.ref t2, .str q.after])) y = some (.tup [V.ref t2, .str q.after]) := upd_same
        generalize upd G5 y (.tup [V.ref t2, .str q.after]) = G6 at *
        have s46 := s5.trans s6
        have hI6 := hI.same s46
        refine ⟨_, rfl, p, _, rfl, hI6.get kvP_g, _, rfl, u, _, 1, .str q.note, rfl, rfl, .inl (.inl (s46 _ _ eu)), rfl, _, rfl, u, _, 2, .str (textD q.pool), rfl, rfl, .inl (.inl (s46 _ _ eu)), rfl, _, rfl, by omega, fun t G7 s7 ht _ => ⟨by show 2 ≤ sizeLine; omega, fun b nb => ?_⟩⟩
        rw [cut_text (allN_names o2)] at ht
        have s8 := same_new (o := .tup [V.str q.note, .ref t]) (Same.refl G7) nb
        have eb : (upd G7 b (.tup [V.str q.note, .ref t])) b = some (.tup [V.str q.note, .ref t]) := upd_same
        generalize upd G7 b (.tup [V.str q.note, .ref t]) = G8 at *
        have ht := sqT_same s8 ht
        have s68 := s7.trans s8
        have s48 := s46.trans s68
        have hI8 := hI.same s48
        have na : placeP q ∉ S.pg.map placeP := by
          have := nd1.pg
          have : ((S.pg ++ [q]).map placeP).Nodup := this
          rw [List.map_append] at this
          exact last_no this
        have hL8 : EntAt (RVal K) K G8 L S.pg := hL.mono (fun _ _ z => sqT_same s48 z) fun _ _ z => rval_go (fun _ _ z => sqT_same s48 z) z
        have ka : KeyA K G8 b (keyK (placeP q)) := keyK_mk (.inl (.inl eb)) ht
        have lL := hL.len
        obtain ⟨L', eL, hD⟩ := PlDict.add (P := P) (w := w) (v := .ref y) (s48 _ _ er) hL8 ka ⟨y, t2, rfl, .inl (.inl (s68 _ _ ey)), sqT_same s68 (sqT_same s6 ht2)⟩ (fun _ sq _ _ z => rval_go sq z) na
        refine ⟨g, b, L, _, rfl, rfl, s48 _ _ er, hL8.all, ka, by omega, ?_⟩
        rw [eL]
        have bd : ∀ b o, b ≠ g → G8 b = some o → (upd G8 g (DN P w g L')) b = some o := fun b o n e => by rw [upd_ne n]; exact e
        exact ⟨_, _, rfl, ⟨e, hI8.put_g bd hD⟩, fun b o q => bd b o (ne_of_none q ng) (s48 _ _ (sm b o q))⟩
    rintro σ' G2 ⟨t2, t3, rfl, ⟨e, hP⟩, s2⟩
    exact ⟨_, rfl, q p G2 np s2 ⟨m, e, r, s, g, hP⟩⟩
end
end Kl
set_option maxRecDepth 100000
set_option maxHeartbeats 4000000
namespace Kl
open PySem PySem.Spec PyProof.Rows L2 Gx Mx
theorem lenA (a b : Str) : (a ++ b).length = a.length + b.length := Array.size_append
def Rds (te : TE) (σ : L2.St) (H : Hp) (xs : List Str) : Prop := ∀ H1, Same H H1 → ∀ Q : VK, (∀ l H', Same H1 H' → H' l = some (.lst (xs.map V.str)) → Q (.ref l) H') → te σ H1 Q
theorem Rds.to {te : TE} {σ : L2.St} {H : Hp} {xs ys : List Str} (h : Rds te σ H xs) (e : xs = ys) : Rds te σ H ys := by rw [← e]; exact h
theorem Rds.use {te : TE} {σ : L2.St} {H : Hp} {xs : List Str} (h : Rds te σ H xs) {Q : VK} (q : ∀ l H', Same H H' → H' l = some (.lst (xs.map V.str)) → Q (.ref l) H') : te σ H Q := h H (Same.refl H) Q q
theorem rds_var {i : Nat} {σ : L2.St} {H : Hp} {l : Addr} {xs : List Str} (e : σ[i]? = some (some (.ref l))) (h : H l = some (.lst (xs.map V.str))) : Rds (tVar i) σ H xs := fun H1 s Q q => ⟨_, e, q l H1 (Same.refl H1) (s _ _ h)⟩
def taC : List Str → TA
  | [] => tNil
  | z :: zs => tCons (tC (.str z)) (taC zs)
theorem taC_run {σ : L2.St} {H : Hp} : ∀ (zs : List Str) {Q : List V → Hp → Prop}, Q (zs.map V.str) H → taC zs σ H Q
  | [], _, h => h
  | z :: zs, _, h => taC_run (σ := σ) (H := H) zs h
theorem rds_lst {σ : L2.St} {H : Hp} (zs : List Str) (hl : zs.length ≤ 1000) : Rds (tLst (taC zs)) σ H zs := fun H1 s Q q => by
  have big : 1000 ≤ sizeLine := by decide
  exact taC_run zs ⟨by rw [List.length_map]; omega, fun p np => q p _ (same_new (Same.refl H1) np) upd_same⟩
theorem rds_cat {ta tb : TE} {σ : L2.St} {H : Hp} {xs ys : List Str} (ha : Rds ta σ H xs) (hb : Rds tb σ H ys) (hl : xs.length + ys.length ≤ 1000) : Rds (tOp rCat ta tb) σ H (xs ++ ys) := fun H1 s Q q => by
  have big : 1000 ≤ sizeLine := by decide
  refine ha H1 s _ fun l H2 s2 e => hb H2 (s.trans s2) _ fun l2 H3 s3 e2 => ⟨l, l2, xs.map V.str, ys.map V.str, rfl, rfl, s3 _ _ e, e2, by rw [List.length_map, List.length_map]; omega, fun p np => q p _ ((s2.trans s3).trans (same_new (Same.refl H3) np)) ?_⟩
  rw [upd_same, List.map_append]
/-- a def that makes one from another -/
abbrev spBk (zs : List Str) : Sp := fun vs H Q _ => vs = [] ∧ ∀ l H', Same H H' → H' l = some (.lst (zs.map V.str)) → Q (.ref l) H'
theorem flat_len {α β γ : Type} (ds : List α) (g : γ → α → β) : ∀ pre : List γ, (pre.flatMap fun st => ds.map (g st)).length = pre.length * ds.length
  | [] => by simp
  | a :: r => by
    rw [List.flatMap_cons, List.length_append, flat_len ds g r, List.length_cons, Nat.add_mul, List.length_map]
    omega
def readT (st z : Str) : Str := ((("read " : Str) ++ st ++ " ") ++ z) ++ (if z = "0" then (" z" : Str) else " o")
def freeR (ds : List Str) : List Str := (["first s", "ends o"] : List Str) ++ (["s", "z", "o"] : List Str).flatMap fun st => ds.map (readT st)
abbrev spFR : Sp := fun vs H Q _ => ∃ (p : Addr) (ds : List Str), vs = [.ref p] ∧ H p = some (.lst (ds.map V.str)) ∧ ds.length ≤ 20 ∧ (∀ z ∈ ds, z.length ≤ 100) ∧ ∀ l H', Same H H' → H' l = some (.lst ((freeR ds).map V.str)) → Q (.ref l) H'
def startsL (n : Str) : List Str := [("start put " : Str) ++ n, ("start meld " : Str) ++ n, ("start take " : Str) ++ n]
abbrev spSt : Sp := fun vs H Q _ => ∃ n : Str, vs = [.str n] ∧ n.length ≤ 100 ∧ ∀ l H', Same H H' → H' l = some (.lst ((startsL n).map V.str)) → Q (.ref l) H'
section
variable {P : Program} {w : World} {K : PySem.W.Frag} {mg : Str → Option Value} {base : Heap}
theorem ok_st {f : Addr} {fd : FuncData} (F : Fun K "_law_starts" "_law_starts" s_law_starts f fd) (T : Top K mg) : FnOk P w K mg base CX0 1 f fd ["_law_note"] spSt := by
  refine F.ok sc_law_starts (fun vs H Q E h => ?_) (fun cdv A outer s H vs Q E hr h => ?_)
  · obtain ⟨n, rfl, _⟩ := h
    rfl
  · obtain ⟨n, rfl, hn, q⟩ := h
    refine ⟨_, pss_one (ps_ret (pe_lst (pa_cons (pe_op op_add_str pe_str (pv 0)) (pa_cons (pe_op op_add_str pe_str (pv 0)) (pa_cons (pe_op op_add_str pe_str (pv 0)) pa_nil))))), ?_⟩
    have big : 100000 ≤ sizeLine := by decide
    have l1 : ("start put " : Str).length = 10 := rfl
    have l2 : ("start meld " : Str).length = 11 := rfl
    have l3 : ("start take " : Str).length = 11 := rfl
    exact ⟨_, rfl, _, n, rfl, rfl, by omega, _, rfl, _, n, rfl, rfl, by omega, _, rfl, _, n, rfl, rfl, by omega, by show 3 ≤ sizeLine; omega, fun p np => q p _ (same_new (Same.refl H) np) upd_same⟩
theorem ok_fr {f : Addr} {fd : FuncData} (F : Fun K "_law_free_reads" "_law_free_reads" s_law_free_reads f fd) (T : Top K mg) : FnOk P w K mg base CX0 1 f fd ["_law_digits"] spFR := by
  refine F.ok sc_law_free_reads (fun vs H Q E h => ?_) (fun cdv A outer s H vs Q E hr h => ?_)
  · obtain ⟨p, ds, rfl, _⟩ := h
    rfl
  · obtain ⟨d, ds, rfl, hd, few, hz, q⟩ := h
    refine ⟨_, pss_cut (ps_set (i := 1) sc_law_free_reads.nd rfl (.inl rfl) (pe_lst (pa_cons pe_str (pa_cons pe_str pa_nil))))
      (pss_cut (ps_for PassesOwn.never rfl (pi_tup (pe_tup (pa_cons pe_str (pa_cons pe_str (pa_cons pe_str pa_nil))))) (pg_name (i := 2) sc_law_free_reads.nd rfl (.inr rfl))
        (pss_one (ps_expr (pe_bm PySem.F.plainAttrs_list PySem.F.slot_list_extend PySem.F.type_list_extend mt_extend (pv 1) (pa_cons (pe_lc (own := [("_law_text", 3)]) (g := gName 3) (tt := tYes) rfl sc_law_free_reads.nd (pi_list (pv 0))
          (blkOk_by (N := ["_law_digits", "_law_found", "_law_state", "_law_text"]) (sc := defScope s_law_free_reads) (by decide +kernel)) (fun _ _ _ _ _ => pg_name (i := 3) sc_law_free_reads.nd rfl (.inl rfl)) (fun _ _ _ _ _ => pts_nil)
          (fun _ _ _ _ _ => pe_op op_add_str (pe_op op_add_str (pe_op op_add_str (pe_op op_add_str pe_str (pv 2)) pe_str) (pv 3)) (pe_ifExp (pt_cmpR op_eq (pv 3) pe_str (nomark _)) pe_str pe_str))) pa_nil)))))
      (pss_one (ps_ret (pv 1)))), ?_⟩
    have big : 100000 ≤ sizeLine := by decide
    refine ⟨fun σ' G => ∃ l : Addr, σ' = [some (.ref d), some (.ref l), none, none] ∧ H l = none ∧ G l = some (.lst ((["first s", "ends o"] : List Str).map V.str)) ∧ Same H G, ?_, ?_⟩
    · exact ⟨by show 2 ≤ sizeLine; omega, fun l nl => ⟨l, rfl, nl, upd_same, same_new (Same.refl H) nl⟩⟩
    rintro σ' G1 ⟨l, rfl, nl, el, s1⟩
    refine ⟨fun σ' G => ∃ t2 t3 : Option V, σ' = [some (.ref d), some (.ref l), t2, t3] ∧ G l = some (.lst ((freeR ds).map V.str)) ∧ Same H G, ?_, ?_⟩
    · refine ⟨by show 3 ≤ sizeLine; omega, fun tp ntp => ⟨tp, rfl, ⟨_, .inl (.inl upd_same)⟩, ?_⟩⟩
      have s2 := same_new (o := .tup ((["s", "z", "o"] : List Str).map V.str)) (Same.refl G1) ntp
      have etp : (upd G1 tp (.tup ((["s", "z", "o"] : List Str).map V.str))) tp = some (.tup ((["s", "z", "o"] : List Str).map V.str)) := upd_same
      refine for_it (walk_tup (K := K) (a := tp) (xs := (["s", "z", "o"] : List Str).map V.str)) (fun j σ' G => ∃ t2 t3 : Option V, σ' = [some (.ref d), some (.ref l), t2, t3] ∧ G l = some (.lst (((["first s", "ends o"] : List Str) ++ ((["s", "z", "o"] : List Str).take j).flatMap fun st => ds.map (readT st)).map V.str)) ∧ Same H G ∧ G tp = some (.tup ((["s", "z", "o"] : List Str).map V.str)))
        ⟨none, none, rfl, s2 _ _ el, s1.trans s2, etp⟩ (fun j σ' G _ h => by obtain ⟨_, _, _, _, _, e⟩ := h; exact .inl (.inl e)) (fun j v σ' Gx G hj h hy => ?_) (fun σ' G h => ?_)
      rotate_left
      · obtain ⟨t2, t3, rfl, e, s, _⟩ := h
        exact ⟨t2, t3, rfl, e, s⟩
      obtain ⟨t2, t3, rfl, e, sm, et⟩ := h
      obtain ⟨rfl, hv⟩ := hy
      obtain ⟨st, hst, rfl⟩ := at_texts hv
      have lst : st.length = 1 := by
        have : ∀ y ∈ (["s", "z", "o"] : List Str), y.length = 1 := by decide +kernel
        exact this st (List.mem_of_getElem? hst)
      have tk1 : (["s", "z", "o"] : List Str).take (j + 1) = (["s", "z", "o"] : List Str).take j ++ [st] := by rw [List.take_add_one, hst]; rfl
      have lpre : ((["s", "z", "o"] : List Str).take j).length ≤ 3 := List.length_take_le' j _
      generalize ((["s", "z", "o"] : List Str).take j) = pre at *
      rw [tk1]
      clear tk1 etp s2 s1
      have hdG := sm _ _ hd
      refine ⟨_, rfl, ⟨.inl ⟨rfl, _, .inl (.inl e)⟩, ?_⟩⟩
      refine ⟨_, rfl, d, rfl, ⟨_, .inl (.inl hdG)⟩, fun D hD => ?_⟩
      refine lc_it (g := gName 3) (vs := [3]) (walk_list (K := K) (a := d) (xs := ds.map V.str)) (fun j G' => G' D = some (.lst (((ds.take j).map (readT st)).map V.str)) ∧ Same G G')
        ⟨upd_same, same_new (Same.refl G) hD⟩ (fun j G' _ h => .inl (.inl (h.2 _ _ hdG))) (fun j u Gx G' hj h hy => ?_) (fun G' h => ?_)
      · obtain ⟨eD, sm'⟩ := h
        obtain ⟨rfl, hu⟩ := hy
        obtain ⟨z, hz0, rfl⟩ := at_texts hu
        have lz := hz z (List.mem_of_getElem? hz0)
        have tk2 : ds.take (j + 1) = ds.take j ++ [z] := by rw [List.take_add_one, hz0]; rfl
        have l1 : ("read " : Str).length = 5 := rfl
        have l2 : (" " : Str).length = 1 := rfl
        have l3 : (" z" : Str).length = 2 := rfl
        have l4 : (" o" : Str).length = 2 := rfl
        have la : (("read " : Str) ++ st).length = 6 := by rw [lenA]; omega
        have lb : (("read " : Str) ++ st ++ " ").length = 7 := by rw [lenA]; omega
        have lc : ((("read " : Str) ++ st ++ " ") ++ z).length = 7 + z.length := by rw [lenA]; omega
        refine ⟨rfl, _, rfl, _, st, rfl, rfl, by omega, _, _, rfl, rfl, by omega, _, rfl, _, z, rfl, rfl, by omega, _, rfl, rfl, _, rfl, ite2 (fun c => ?_) (fun c => ?_)⟩
        · have ez : z = "0" := V.str.inj (of_decide_eq_true c)
          have er : readT st z = ((("read " : Str) ++ st ++ " ") ++ z) ++ (" z" : Str) := by unfold readT; rw [if_pos ez]
          refine ⟨_, _, rfl, rfl, by omega, _, eD, by rw [List.length_map, List.length_map, List.length_take]; omega, ?_, fun b o q => by rw [upd_ne (ne_of_none q hD)]; exact sm' _ _ q⟩
          rw [upd_same, tk2, List.map_append, List.map_append, ← er]
          rfl
        · have ez : z ≠ "0" := fun h => c (decide_eq_true (congrArg V.str h))
          have er : readT st z = ((("read " : Str) ++ st ++ " ") ++ z) ++ (" o" : Str) := by unfold readT; rw [if_neg ez]
          refine ⟨_, _, rfl, rfl, by omega, _, eD, by rw [List.length_map, List.length_map, List.length_take]; omega, ?_, fun b o q => by rw [upd_ne (ne_of_none q hD)]; exact sm' _ _ q⟩
          rw [upd_same, tk2, List.map_append, List.map_append, ← er]
          rfl
      · obtain ⟨eD, sm'⟩ := h
        rw [List.length_map, List.take_length] at eD
        have lf : (pre.flatMap fun st => ds.map (readT st)).length = pre.length * ds.length := by
          exact flat_len ds readT pre
        have lm : pre.length * ds.length ≤ 3 * 20 := Nat.mul_le_mul lpre few
        have nb : ∀ b o, b ≠ l → G' b = some o → (upd G' l (.lst (((["first s", "ends o"] : List Str) ++ pre.flatMap fun st => ds.map (readT st)).map V.str ++ (ds.map (readT st)).map V.str))) b = some o := fun b o n e => by rw [upd_ne n]; exact e
        refine ⟨l, D, _, _, rfl, rfl, sm' _ _ e, eD, by rw [List.length_map, List.length_append, lf, List.length_map, List.length_map]; show 2 + _ + _ ≤ _; omega, _, _, rfl, ?_, fun b o q => nb b o (ne_of_none q nl) (sm' _ _ (sm _ _ q)), nb _ _ (fun z => by rw [z, e] at et; cases et) (sm' _ _ et)⟩
        rw [upd_same, List.flatMap_append, ← List.append_assoc, List.map_append (l₂ := [st].flatMap _)]
        rw [List.flatMap_cons, List.flatMap_nil, List.append_nil]
    rintro σ' G2 ⟨t2, t3, rfl, e, s2⟩
    exact ⟨_, rfl, q l G2 s2 e⟩
end
end Kl
set_option maxRecDepth 100000
set_option maxHeartbeats 4000000
namespace Kl
open PySem PySem.Spec PyProof.Rows L2 Gx Mx
theorem rds_fr {ta : TE} {σ : L2.St} {H : Hp} {ds : List Str} (ha : Rds ta σ H ds) (few : ds.length ≤ 20) (hz : ∀ z ∈ ds, z.length ≤ 100) : Rds (tCl spFR (tCons ta tNil)) σ H (freeR ds) := fun H1 s Q q =>
  ha H1 s _ fun l H2 s2 e => ⟨l, ds, rfl, e, few, hz, fun p H3 s3 e3 => q p H3 (s2.trans s3) e3⟩
theorem rds_st {n : Str} {σ : L2.St} {H : Hp} (hn : n.length ≤ 100) : Rds (tCl spSt (tCons (tC (.str n)) tNil)) σ H (startsL n) := fun H1 s Q q => ⟨n, rfl, hn, fun p H3 s3 e3 => q p H3 s3 e3⟩
section
variable {P : Program} {w : World} {K : PySem.W.Frag} {mg : Str → Option Value} {base : Heap}
theorem ok_bin {f : Addr} {fd : FuncData} (F : Fun K "_law_binomial" "_law_binomial" s_law_binomial f fd) (T : Top K mg) : FnOk P w K mg base CX0 2 f fd [] (spBk (bkBin.map showL)) := by
  have cf : Cal P w K mg base 1 "_law_free_reads" ["_law_digits"] spFR := T.d_law_free_reads.cal fun f fd F => ok_fr F T
  have cs : Cal P w K mg base 1 "_law_starts" ["_law_note"] spSt := T.d_law_starts.cal fun f fd F => ok_st F T
  refine F.ok sc_law_binomial (fun vs H Q E h => ?_) (fun cdv A outer s H vs Q E hr h => ?_)
  · obtain ⟨rfl, _⟩ := h
    rfl
  · obtain ⟨rfl, q⟩ := h
    refine ⟨_, (pss_cut (ps_set (i := 0) sc_law_binomial.nd rfl (.inl rfl) (pe_op op_cat (pe_op op_cat (pe_lst (pa_cons pe_str (pa_cons pe_str pa_nil))) (pe_cal cf hr (by rfl) (pa_cons (pe_lst (pa_cons pe_str (pa_cons pe_str pa_nil))) pa_nil))) (pe_cal cs hr (by rfl) (pa_cons pe_str pa_nil))))
      (pss_one (ps_ret (pe_op op_cat (pv 0) (pe_lst (pa_cons pe_str (pa_cons pe_str pa_nil))))))), ?_⟩
    refine ⟨fun σ' G => ∃ l : Addr, σ' = [some (.ref l)] ∧ Same H G ∧ G l = some (.lst ((((["leaf a", "kind a a+a"] : List Str) ++ (freeR (["0", "a"] : List Str))) ++ (startsL "m")).map V.str)), ?_, ?_⟩
    · exact Rds.use (rds_cat (rds_cat (rds_lst ["leaf a", "kind a a+a"] (by decide)) (rds_fr (rds_lst ["0", "a"] (by decide)) (by decide) (by decide +kernel)) (by decide +kernel)) (rds_st (n := "m") (by decide +kernel)) (by decide +kernel)) fun l H' s e => ⟨l, rfl, s, e⟩
    rintro σ' G0 ⟨l0, rfl, s0, e0⟩
    exact Rds.use ((rds_cat (rds_var rfl e0) (rds_lst ["page m a+a to a then m", "page m a+a+a to a then m"] (by decide)) (by decide +kernel)).to (ys := bkBin.map showL) (by decide +kernel)) fun l H' s e => q l H' (s0.trans s) e
theorem ok_two {f : Addr} {fd : FuncData} (F : Fun K "_law_twofold" "_law_twofold" s_law_twofold f fd) (T : Top K mg) : FnOk P w K mg base CX0 2 f fd [] (spBk (bkTwo.map showL)) := by
  have cf : Cal P w K mg base 1 "_law_free_reads" ["_law_digits"] spFR := T.d_law_free_reads.cal fun f fd F => ok_fr F T
  have cs : Cal P w K mg base 1 "_law_starts" ["_law_note"] spSt := T.d_law_starts.cal fun f fd F => ok_st F T
  refine F.ok sc_law_twofold (fun vs H Q E h => ?_) (fun cdv A outer s H vs Q E hr h => ?_)
  · obtain ⟨rfl, _⟩ := h
    rfl
  · obtain ⟨rfl, q⟩ := h
    refine ⟨_, (pss_cut (ps_set (i := 0) sc_law_twofold.nd rfl (.inl rfl) (pe_op op_cat (pe_op op_cat (pe_lst (pa_cons pe_str (pa_cons pe_str pa_nil))) (pe_cal cf hr (by rfl) (pa_cons (pe_lst (pa_cons pe_str (pa_cons pe_str (pa_cons pe_str pa_nil)))) pa_nil))) (pe_cal cs hr (by rfl) (pa_cons pe_str pa_nil))))
      (pss_cut (ps_set (i := 0) sc_law_twofold.nd rfl (.inl rfl) (pe_op op_cat (pv 0) (pe_lst (pa_cons pe_str (pa_cons pe_str pa_nil)))))
      (pss_one (ps_ret (pe_op op_cat (pv 0) (pe_lst (pa_cons pe_str (pa_cons pe_str pa_nil)))))))), ?_⟩
    refine ⟨fun σ' G => ∃ l : Addr, σ' = [some (.ref l)] ∧ Same H G ∧ G l = some (.lst ((((["leaf a", "kind a a+a"] : List Str) ++ (freeR (["0", "a", "a+a"] : List Str))) ++ (startsL "m")).map V.str)), ?_, ?_⟩
    · exact Rds.use (rds_cat (rds_cat (rds_lst ["leaf a", "kind a a+a"] (by decide)) (rds_fr (rds_lst ["0", "a", "a+a"] (by decide)) (by decide) (by decide +kernel)) (by decide +kernel)) (rds_st (n := "m") (by decide +kernel)) (by decide +kernel)) fun l H' s e => ⟨l, rfl, s, e⟩
    rintro σ' G0 ⟨l0, rfl, s0, e0⟩
    refine ⟨fun σ' G => ∃ l : Addr, σ' = [some (.ref l)] ∧ Same H G ∧ G l = some (.lst (((((["leaf a", "kind a a+a"] : List Str) ++ (freeR (["0", "a", "a+a"] : List Str))) ++ (startsL "m")) ++ (["page m a+a+a to a then m", "page m a+a+a+a to a+a then m"] : List Str)).map V.str)), ?_, ?_⟩
    · exact Rds.use (rds_cat (rds_var rfl e0) (rds_lst ["page m a+a+a to a then m", "page m a+a+a+a to a+a then m"] (by decide)) (by decide +kernel)) fun l H' s e => ⟨l, rfl, s0.trans s, e⟩
    rintro σ' G1 ⟨l1, rfl, s1, e1⟩
    exact Rds.use ((rds_cat (rds_var rfl e1) (rds_lst ["page m a+a+a+a+a to a+a then m", "page m a+a+a+a+a+a to a+a then m"] (by decide)) (by decide +kernel)).to (ys := bkTwo.map showL) (by decide +kernel)) fun l H' s e => q l H' (s1.trans s) e
theorem ok_gui {f : Addr} {fd : FuncData} (F : Fun K "_law_guided" "_law_guided" s_law_guided f fd) (T : Top K mg) : FnOk P w K mg base CX0 2 f fd [] (spBk (bkGui.map showL)) := by
  have cf : Cal P w K mg base 1 "_law_free_reads" ["_law_digits"] spFR := T.d_law_free_reads.cal fun f fd F => ok_fr F T
  have cs : Cal P w K mg base 1 "_law_starts" ["_law_note"] spSt := T.d_law_starts.cal fun f fd F => ok_st F T
  refine F.ok sc_law_guided (fun vs H Q E h => ?_) (fun cdv A outer s H vs Q E hr h => ?_)
  · obtain ⟨rfl, _⟩ := h
    rfl
  · obtain ⟨rfl, q⟩ := h
    refine ⟨_, (pss_cut (ps_set (i := 0) sc_law_guided.nd rfl (.inl rfl) (pe_lst (pa_cons pe_str (pa_cons pe_str (pa_cons pe_str (pa_cons pe_str (pa_cons pe_str (pa_cons pe_str (pa_cons pe_str (pa_cons pe_str pa_nil))))))))))
      (pss_cut (ps_set (i := 0) sc_law_guided.nd rfl (.inl rfl) (pe_op op_cat (pv 0) (pe_lst (pa_cons pe_str (pa_cons pe_str (pa_cons pe_str (pa_cons pe_str (pa_cons pe_str (pa_cons pe_str pa_nil)))))))))
      (pss_cut (ps_set (i := 0) sc_law_guided.nd rfl (.inl rfl) (pe_op op_cat (pv 0) (pe_lst (pa_cons pe_str (pa_cons pe_str (pa_cons pe_str (pa_cons pe_str (pa_cons pe_str pa_nil))))))))
      (pss_cut (ps_set (i := 0) sc_law_guided.nd rfl (.inl rfl) (pe_op op_cat (pv 0) (pe_lst (pa_cons pe_str (pa_cons pe_str (pa_cons pe_str pa_nil))))))
      (pss_one (ps_ret (pe_op op_cat (pv 0) (pe_lst (pa_cons pe_str pa_nil))))))))), ?_⟩
    refine ⟨fun σ' G => ∃ l : Addr, σ' = [some (.ref l)] ∧ Same H G ∧ G l = some (.lst ((["leaf a", "kind a a+a", "first s", "ends n z", "read s 0 y", "read s a n", "read y 0 y", "read y a z"] : List Str).map V.str)), ?_, ?_⟩
    · exact Rds.use (rds_lst ["leaf a", "kind a a+a", "first s", "ends n z", "read s 0 y", "read s a n", "read y 0 y", "read y a z"] (by decide)) fun l H' s e => ⟨l, rfl, s, e⟩
    rintro σ' G0 ⟨l0, rfl, s0, e0⟩
    refine ⟨fun σ' G => ∃ l : Addr, σ' = [some (.ref l)] ∧ Same H G ∧ G l = some (.lst (((["leaf a", "kind a a+a", "first s", "ends n z", "read s 0 y", "read s a n", "read y 0 y", "read y a z"] : List Str) ++ (["read y a+a n", "read z 0 y", "read z a z", "read z a+a n", "read n 0 y", "read n a n"] : List Str)).map V.str)), ?_, ?_⟩
    · exact Rds.use (rds_cat (rds_var rfl e0) (rds_lst ["read y a+a n", "read z 0 y", "read z a z", "read z a+a n", "read n 0 y", "read n a n"] (by decide)) (by decide +kernel)) fun l H' s e => ⟨l, rfl, s0.trans s, e⟩
    rintro σ' G1 ⟨l1, rfl, s1, e1⟩
    refine ⟨fun σ' G => ∃ l : Addr, σ' = [some (.ref l)] ∧ Same H G ∧ G l = some (.lst ((((["leaf a", "kind a a+a", "first s", "ends n z", "read s 0 y", "read s a n", "read y 0 y", "read y a z"] : List Str) ++ (["read y a+a n", "read z 0 y", "read z a z", "read z a+a n", "read n 0 y", "read n a n"] : List Str)) ++ (["start put p", "start meld e", "start take e", "page p a to 0 then k", "page p a+a to a then d"] : List Str)).map V.str)), ?_, ?_⟩
    · exact Rds.use (rds_cat (rds_var rfl e1) (rds_lst ["start put p", "start meld e", "start take e", "page p a to 0 then k", "page p a+a to a then d"] (by decide)) (by decide +kernel)) fun l H' s e => ⟨l, rfl, s1.trans s, e⟩
    rintro σ' G2 ⟨l2, rfl, s2, e2⟩
    refine ⟨fun σ' G => ∃ l : Addr, σ' = [some (.ref l)] ∧ Same H G ∧ G l = some (.lst (((((["leaf a", "kind a a+a", "first s", "ends n z", "read s 0 y", "read s a n", "read y 0 y", "read y a z"] : List Str) ++ (["read y a+a n", "read z 0 y", "read z a z", "read z a+a n", "read n 0 y", "read n a n"] : List Str)) ++ (["start put p", "start meld e", "start take e", "page p a to 0 then k", "page p a+a to a then d"] : List Str)) ++ (["page k 0 to 0 then e", "page k a+a to a then d", "page d a to 0 then e"] : List Str)).map V.str)), ?_, ?_⟩
    · exact Rds.use (rds_cat (rds_var rfl e2) (rds_lst ["page k 0 to 0 then e", "page k a+a to a then d", "page d a to 0 then e"] (by decide)) (by decide +kernel)) fun l H' s e => ⟨l, rfl, s2.trans s, e⟩
    rintro σ' G3 ⟨l3, rfl, s3, e3⟩
    exact Rds.use ((rds_cat (rds_var rfl e3) (rds_lst ["page d a+a to 0 then e"] (by decide)) (by decide +kernel)).to (ys := bkGui.map showL) (by decide +kernel)) fun l H' s e => q l H' (s3.trans s) e
theorem ok_tur {f : Addr} {fd : FuncData} (F : Fun K "_law_turnabout" "_law_turnabout" s_law_turnabout f fd) (T : Top K mg) : FnOk P w K mg base CX0 2 f fd [] (spBk (bkTur.map showL)) := by
  have cf : Cal P w K mg base 1 "_law_free_reads" ["_law_digits"] spFR := T.d_law_free_reads.cal fun f fd F => ok_fr F T
  have cs : Cal P w K mg base 1 "_law_starts" ["_law_note"] spSt := T.d_law_starts.cal fun f fd F => ok_st F T
  refine F.ok sc_law_turnabout (fun vs H Q E h => ?_) (fun cdv A outer s H vs Q E hr h => ?_)
  · obtain ⟨rfl, _⟩ := h
    rfl
  · obtain ⟨rfl, q⟩ := h
    refine ⟨_, (pss_cut (ps_set (i := 0) sc_law_turnabout.nd rfl (.inl rfl) (pe_op op_cat (pe_op op_cat (pe_lst (pa_cons pe_str (pa_cons pe_str (pa_cons pe_str pa_nil)))) (pe_cal cf hr (by rfl) (pa_cons (pe_lst (pa_cons pe_str (pa_cons pe_str (pa_cons pe_str (pa_cons pe_str pa_nil))))) pa_nil))) (pe_cal cs hr (by rfl) (pa_cons pe_str pa_nil))))
      (pss_cut (ps_set (i := 0) sc_law_turnabout.nd rfl (.inl rfl) (pe_op op_cat (pv 0) (pe_lst (pa_cons pe_str (pa_cons pe_str (pa_cons pe_str pa_nil))))))
      (pss_cut (ps_set (i := 0) sc_law_turnabout.nd rfl (.inl rfl) (pe_op op_cat (pv 0) (pe_lst (pa_cons pe_str (pa_cons pe_str (pa_cons pe_str pa_nil))))))
      (pss_one (ps_ret (pe_op op_cat (pv 0) (pe_lst (pa_cons pe_str pa_nil)))))))), ?_⟩
    refine ⟨fun σ' G => ∃ l : Addr, σ' = [some (.ref l)] ∧ Same H G ∧ G l = some (.lst ((((["leaf a", "kind a b+b+b", "kind b a+a"] : List Str) ++ (freeR (["0", "a", "b", "b+b"] : List Str))) ++ (startsL "m")).map V.str)), ?_, ?_⟩
    · exact Rds.use (rds_cat (rds_cat (rds_lst ["leaf a", "kind a b+b+b", "kind b a+a"] (by decide)) (rds_fr (rds_lst ["0", "a", "b", "b+b"] (by decide)) (by decide) (by decide +kernel)) (by decide +kernel)) (rds_st (n := "m") (by decide +kernel)) (by decide +kernel)) fun l H' s e => ⟨l, rfl, s, e⟩
    rintro σ' G0 ⟨l0, rfl, s0, e0⟩
    refine ⟨fun σ' G => ∃ l : Addr, σ' = [some (.ref l)] ∧ Same H G ∧ G l = some (.lst (((((["leaf a", "kind a b+b+b", "kind b a+a"] : List Str) ++ (freeR (["0", "a", "b", "b+b"] : List Str))) ++ (startsL "m")) ++ (["page m a+a to b then m", "page m a+a+a to b then m", "page m b+b+b to a then m"] : List Str)).map V.str)), ?_, ?_⟩
    · exact Rds.use (rds_cat (rds_var rfl e0) (rds_lst ["page m a+a to b then m", "page m a+a+a to b then m", "page m b+b+b to a then m"] (by decide)) (by decide +kernel)) fun l H' s e => ⟨l, rfl, s0.trans s, e⟩
    rintro σ' G1 ⟨l1, rfl, s1, e1⟩
    refine ⟨fun σ' G => ∃ l : Addr, σ' = [some (.ref l)] ∧ Same H G ∧ G l = some (.lst ((((((["leaf a", "kind a b+b+b", "kind b a+a"] : List Str) ++ (freeR (["0", "a", "b", "b+b"] : List Str))) ++ (startsL "m")) ++ (["page m a+a to b then m", "page m a+a+a to b then m", "page m b+b+b to a then m"] : List Str)) ++ (["page m b+b+b+b to a then m", "page m b+b+b+b+b to a then m", "page m a+a+a+a to b+b then m"] : List Str)).map V.str)), ?_, ?_⟩
    · exact Rds.use (rds_cat (rds_var rfl e1) (rds_lst ["page m b+b+b+b to a then m", "page m b+b+b+b+b to a then m", "page m a+a+a+a to b+b then m"] (by decide)) (by decide +kernel)) fun l H' s e => ⟨l, rfl, s1.trans s, e⟩
    rintro σ' G2 ⟨l2, rfl, s2, e2⟩
    exact Rds.use ((rds_cat (rds_var rfl e2) (rds_lst ["page m b+b+b+b+b+b to a+a then m"] (by decide)) (by decide +kernel)).to (ys := bkTur.map showL) (by decide +kernel)) fun l H' s e => q l H' (s2.trans s) e
theorem ok_thr {f : Addr} {fd : FuncData} (F : Fun K "_law_threesome" "_law_threesome" s_law_threesome f fd) (T : Top K mg) : FnOk P w K mg base CX0 2 f fd [] (spBk (bkThr.map showL)) := by
  have cf : Cal P w K mg base 1 "_law_free_reads" ["_law_digits"] spFR := T.d_law_free_reads.cal fun f fd F => ok_fr F T
  have cs : Cal P w K mg base 1 "_law_starts" ["_law_note"] spSt := T.d_law_starts.cal fun f fd F => ok_st F T
  refine F.ok sc_law_threesome (fun vs H Q E h => ?_) (fun cdv A outer s H vs Q E hr h => ?_)
  · obtain ⟨rfl, _⟩ := h
    rfl
  · obtain ⟨rfl, q⟩ := h
    refine ⟨_, (pss_cut (ps_set (i := 0) sc_law_threesome.nd rfl (.inl rfl) (pe_lst (pa_cons pe_str (pa_cons pe_str (pa_cons pe_str (pa_cons pe_str pa_nil))))))
      (pss_cut (ps_set (i := 0) sc_law_threesome.nd rfl (.inl rfl) (pe_op op_cat (pe_op op_cat (pv 0) (pe_cal cf hr (by rfl) (pa_cons (pe_lst (pa_cons pe_str (pa_cons pe_str (pa_cons pe_str (pa_cons pe_str pa_nil))))) pa_nil))) (pe_cal cs hr (by rfl) (pa_cons pe_str pa_nil))))
      (pss_cut (ps_set (i := 0) sc_law_threesome.nd rfl (.inl rfl) (pe_op op_cat (pv 0) (pe_lst (pa_cons pe_str (pa_cons pe_str (pa_cons pe_str pa_nil))))))
      (pss_one (ps_ret (pe_op op_cat (pv 0) (pe_lst (pa_cons pe_str (pa_cons pe_str (pa_cons pe_str pa_nil)))))))))), ?_⟩
    refine ⟨fun σ' G => ∃ l : Addr, σ' = [some (.ref l)] ∧ Same H G ∧ G l = some (.lst ((["leaf a", "kind a b+c", "kind b a+a", "kind c a+a+a"] : List Str).map V.str)), ?_, ?_⟩
    · exact Rds.use (rds_lst ["leaf a", "kind a b+c", "kind b a+a", "kind c a+a+a"] (by decide)) fun l H' s e => ⟨l, rfl, s, e⟩
    rintro σ' G0 ⟨l0, rfl, s0, e0⟩
    refine ⟨fun σ' G => ∃ l : Addr, σ' = [some (.ref l)] ∧ Same H G ∧ G l = some (.lst ((((["leaf a", "kind a b+c", "kind b a+a", "kind c a+a+a"] : List Str) ++ (freeR (["0", "a", "b", "c"] : List Str))) ++ (startsL "m")).map V.str)), ?_, ?_⟩
    · exact Rds.use (rds_cat (rds_cat (rds_var rfl e0) (rds_fr (rds_lst ["0", "a", "b", "c"] (by decide)) (by decide) (by decide +kernel)) (by decide +kernel)) (rds_st (n := "m") (by decide +kernel)) (by decide +kernel)) fun l H' s e => ⟨l, rfl, s0.trans s, e⟩
    rintro σ' G1 ⟨l1, rfl, s1, e1⟩
    refine ⟨fun σ' G => ∃ l : Addr, σ' = [some (.ref l)] ∧ Same H G ∧ G l = some (.lst (((((["leaf a", "kind a b+c", "kind b a+a", "kind c a+a+a"] : List Str) ++ (freeR (["0", "a", "b", "c"] : List Str))) ++ (startsL "m")) ++ (["page m a+a to b then m", "page m a+a+a to c then m", "page m b+c to a then m"] : List Str)).map V.str)), ?_, ?_⟩
    · exact Rds.use (rds_cat (rds_var rfl e1) (rds_lst ["page m a+a to b then m", "page m a+a+a to c then m", "page m b+c to a then m"] (by decide)) (by decide +kernel)) fun l H' s e => ⟨l, rfl, s1.trans s, e⟩
    rintro σ' G2 ⟨l2, rfl, s2, e2⟩
    exact Rds.use ((rds_cat (rds_var rfl e2) (rds_lst ["page m b+b+c to a then m", "page m b+c+c to a then m", "page m a+a+a+a to b+b then m"] (by decide)) (by decide +kernel)).to (ys := bkThr.map showL) (by decide +kernel)) fun l H' s e => q l H' (s2.trans s) e
end
end Kl
set_option maxRecDepth 100000
set_option maxHeartbeats 4000000
namespace Kl
open PySem PySem.Spec PyProof.Rows L2 Gx Mx
def pgT (z : Str) : Str := (("page m " : Str) ++ z) ++ " to a then m"
section
variable {P : Program} {w : World} {K : PySem.W.Frag} {mg : Str → Option Value} {base : Heap}
abbrev spOB : Sp := fun vs H Q _ => ∃ k : Nat, vs = [.int (k : Nat)] ∧ k < 3 ∧ ∀ l H', Same H H' → H' l = some (.lst (((obk k).map showL).map V.str)) → Q (.ref l) H'
theorem ok_ob {f : Addr} {fd : FuncData} (F : Fun K "_law_other_book" "_law_other_book" s_law_other_book f fd) (T : Top K mg) : FnOk P w K mg base CX0 2 f fd ["_law_way"] spOB := by
  have cf : Cal P w K mg base 1 "_law_free_reads" ["_law_digits"] spFR := T.d_law_free_reads.cal fun f fd F => ok_fr F T
  have cs : Cal P w K mg base 1 "_law_starts" ["_law_note"] spSt := T.d_law_starts.cal fun f fd F => ok_st F T
  refine F.ok sc_law_other_book (fun vs H Q E h => ?_) (fun cdv A outer s H vs Q E hr h => ?_)
  · obtain ⟨k, rfl, _⟩ := h
    rfl
  · obtain ⟨k, rfl, hk, q⟩ := h
    refine ⟨_, pss_cons (ps_if (pt_cmpR op_eq (pv 0) pe_int (nomark _)) (pss_cut (ps_set (i := 1) sc_law_other_book.nd rfl (.inl rfl) (pe_op op_cat (pe_lst (pa_cons pe_str (pa_cons pe_str (pa_cons pe_str pa_nil)))) (pe_cal cf hr (by rfl) (pa_cons (pe_lst (pa_cons pe_str (pa_cons pe_str (pa_cons pe_str (pa_cons pe_str (pa_cons pe_str pa_nil)))))) pa_nil))))
      (pss_cut (ps_set (i := 1) sc_law_other_book.nd rfl (.inl rfl) (pe_op op_cat (pe_op op_cat (pv 1) (pe_cal cs hr (by rfl) (pa_cons pe_str pa_nil))) (pe_lst (pa_cons pe_str (pa_cons pe_str pa_nil)))))
      (pss_one (ps_ret (pe_op op_cat (pv 1) (pe_lst (pa_cons pe_str pa_nil))))))) pss_nil)
      (pss_cons (ps_if (pt_cmpR op_eq (pv 0) pe_int (nomark _)) (pss_cut (ps_set (i := 1) sc_law_other_book.nd rfl (.inl rfl) (pe_op op_cat (pe_op op_cat (pe_lst (pa_cons pe_str (pa_cons pe_str pa_nil))) (pe_cal cf hr (by rfl) (pa_cons (pe_lst (pa_cons pe_str (pa_cons pe_str (pa_cons pe_str (pa_cons pe_str pa_nil))))) pa_nil))) (pe_cal cs hr (by rfl) (pa_cons pe_str pa_nil))))
      (pss_cut (ps_set (i := 1) sc_law_other_book.nd rfl (.inl rfl) (pe_op op_cat (pv 1) (pe_lst (pa_cons pe_str (pa_cons pe_str pa_nil)))))
      (pss_one (ps_ret (pe_op op_cat (pv 1) (pe_lst (pa_cons pe_str (pa_cons pe_str pa_nil)))))))) pss_nil)
      (pss_cut (ps_set (i := 1) sc_law_other_book.nd rfl (.inl rfl) (pe_op op_cat (pe_op op_cat (pe_lst (pa_cons pe_str (pa_cons pe_str pa_nil))) (pe_cal cf hr (by rfl) (pa_cons (pe_lst (pa_cons pe_str (pa_cons pe_str pa_nil))) pa_nil))) (pe_cal cs hr (by rfl) (pa_cons pe_str pa_nil))))
      (pss_cut (ps_set (i := 1) sc_law_other_book.nd rfl (.inl rfl) (pe_op op_cat (pv 1) (pe_lst (pa_cons pe_str (pa_cons pe_str (pa_cons pe_str pa_nil))))))
      (pss_one (ps_ret (pe_op op_cat (pv 1) (pe_lst (pa_cons pe_str (pa_cons pe_str pa_nil))))))))), ?_⟩
    match k, hk with
    | 0, _ =>
      refine ⟨_, rfl, rfl, _, rfl, iteT (by decide) ?_⟩
      refine ⟨fun σ' G => ∃ l : Addr, σ' = [some (.int 0), some (.ref l)] ∧ Same H G ∧ G l = some (.lst (((["leaf a", "kind b a+a", "kind c b+b+b"] : List Str) ++ (freeR (["0", "a", "b", "b+b", "c"] : List Str))).map V.str)), ?_, ?_⟩
      · exact Rds.use (rds_cat (rds_lst ["leaf a", "kind b a+a", "kind c b+b+b"] (by decide)) (rds_fr (rds_lst ["0", "a", "b", "b+b", "c"] (by decide)) (by decide) (by decide +kernel)) (by decide +kernel)) fun l H' s e => ⟨l, rfl, s, e⟩
      rintro σ' G0 ⟨l0, rfl, s0, e0⟩
      refine ⟨fun σ' G => ∃ l : Addr, σ' = [some (.int 0), some (.ref l)] ∧ Same H G ∧ G l = some (.lst (((((["leaf a", "kind b a+a", "kind c b+b+b"] : List Str) ++ (freeR (["0", "a", "b", "b+b", "c"] : List Str))) ++ (startsL "m")) ++ (["page m a+a to b then m", "page m a+a+a to b then m"] : List Str)).map V.str)), ?_, ?_⟩
      · exact Rds.use (rds_cat (rds_cat (rds_var rfl e0) (rds_st (n := "m") (by decide +kernel)) (by decide +kernel)) (rds_lst ["page m a+a to b then m", "page m a+a+a to b then m"] (by decide)) (by decide +kernel)) fun l H' s e => ⟨l, rfl, s0.trans s, e⟩
      rintro σ' G1 ⟨l1, rfl, s1, e1⟩
      exact Rds.use ((rds_cat (rds_var rfl e1) (rds_lst ["page m b+b+b to c then m"] (by decide)) (by decide +kernel)).to (ys := bkO0.map showL) (by decide +kernel)) fun l H' s e => q l H' (s1.trans s) e
    | 1, _ =>
      refine ⟨_, rfl, rfl, _, rfl, iteF (by decide) ?_⟩
      refine ⟨_, rfl, rfl, _, rfl, iteT (by decide) ?_⟩
      refine ⟨fun σ' G => ∃ l : Addr, σ' = [some (.int 1), some (.ref l)] ∧ Same H G ∧ G l = some (.lst ((((["leaf a", "kind a a+a"] : List Str) ++ (freeR (["0", "a", "a+a", "a+a+a"] : List Str))) ++ (startsL "m")).map V.str)), ?_, ?_⟩
      · exact Rds.use (rds_cat (rds_cat (rds_lst ["leaf a", "kind a a+a"] (by decide)) (rds_fr (rds_lst ["0", "a", "a+a", "a+a+a"] (by decide)) (by decide) (by decide +kernel)) (by decide +kernel)) (rds_st (n := "m") (by decide +kernel)) (by decide +kernel)) fun l H' s e => ⟨l, rfl, s, e⟩
      rintro σ' G0 ⟨l0, rfl, s0, e0⟩
      refine ⟨fun σ' G => ∃ l : Addr, σ' = [some (.int 1), some (.ref l)] ∧ Same H G ∧ G l = some (.lst (((((["leaf a", "kind a a+a"] : List Str) ++ (freeR (["0", "a", "a+a", "a+a+a"] : List Str))) ++ (startsL "m")) ++ (["page m a+a+a+a to a then m", "page m a+a+a+a+a to a+a then m"] : List Str)).map V.str)), ?_, ?_⟩
      · exact Rds.use (rds_cat (rds_var rfl e0) (rds_lst ["page m a+a+a+a to a then m", "page m a+a+a+a+a to a+a then m"] (by decide)) (by decide +kernel)) fun l H' s e => ⟨l, rfl, s0.trans s, e⟩
      rintro σ' G1 ⟨l1, rfl, s1, e1⟩
      exact Rds.use ((rds_cat (rds_var rfl e1) (rds_lst ["page m a+a+a+a+a+a to a+a then m", "page m a+a+a+a+a+a+a to a+a then m"] (by decide)) (by decide +kernel)).to (ys := bkO1.map showL) (by decide +kernel)) fun l H' s e => q l H' (s1.trans s) e
    | 2, _ =>
      refine ⟨_, rfl, rfl, _, rfl, iteF (by decide) ?_⟩
      refine ⟨_, rfl, rfl, _, rfl, iteF (by decide) ?_⟩
      refine ⟨fun σ' G => ∃ l : Addr, σ' = [some (.int 2), some (.ref l)] ∧ Same H G ∧ G l = some (.lst ((((["leaf a", "kind a a+a"] : List Str) ++ (freeR (["0", "a"] : List Str))) ++ (startsL "m")).map V.str)), ?_, ?_⟩
      · exact Rds.use (rds_cat (rds_cat (rds_lst ["leaf a", "kind a a+a"] (by decide)) (rds_fr (rds_lst ["0", "a"] (by decide)) (by decide) (by decide +kernel)) (by decide +kernel)) (rds_st (n := "m") (by decide +kernel)) (by decide +kernel)) fun l H' s e => ⟨l, rfl, s, e⟩
      rintro σ' G0 ⟨l0, rfl, s0, e0⟩
      refine ⟨fun σ' G => ∃ l : Addr, σ' = [some (.int 2), some (.ref l)] ∧ Same H G ∧ G l = some (.lst (((((["leaf a", "kind a a+a"] : List Str) ++ (freeR (["0", "a"] : List Str))) ++ (startsL "m")) ++ (["page m a+a to a then c", "page c a to 0 then m", "page c a+a to a then c"] : List Str)).map V.str)), ?_, ?_⟩
      · exact Rds.use (rds_cat (rds_var rfl e0) (rds_lst ["page m a+a to a then c", "page c a to 0 then m", "page c a+a to a then c"] (by decide)) (by decide +kernel)) fun l H' s e => ⟨l, rfl, s0.trans s, e⟩
      rintro σ' G1 ⟨l1, rfl, s1, e1⟩
      exact Rds.use ((rds_cat (rds_var rfl e1) (rds_lst ["page c a+a+a to a then c", "page m a+a+a to a then c"] (by decide)) (by decide +kernel)).to (ys := bkO2.map showL) (by decide +kernel)) fun l H' s e => q l H' (s1.trans s) e
theorem ok_ter {f : Addr} {fd : FuncData} (F : Fun K "_law_ternary" "_law_ternary" s_law_ternary f fd) (T : Top K mg) : FnOk P w K mg base CX0 2 f fd [] (spBk (bkTer.map showL)) := by
  have cf : Cal P w K mg base 1 "_law_free_reads" ["_law_digits"] spFR := T.d_law_free_reads.cal fun f fd F => ok_fr F T
  have cs : Cal P w K mg base 1 "_law_starts" ["_law_note"] spSt := T.d_law_starts.cal fun f fd F => ok_st F T
  refine F.ok sc_law_ternary (fun vs H Q E h => ?_) (fun cdv A outer s H vs Q E hr h => ?_)
  · obtain ⟨rfl, _⟩ := h
    rfl
  · obtain ⟨rfl, q⟩ := h
    refine ⟨_, pss_cut (ps_set (i := 0) sc_law_ternary.nd rfl (.inl rfl) (pe_op op_cat (pe_op op_cat (pe_lst (pa_cons pe_str (pa_cons pe_str pa_nil))) (pe_cal cf hr (by rfl) (pa_cons (pe_lst (pa_cons pe_str (pa_cons pe_str (pa_cons pe_str pa_nil)))) pa_nil))) (pe_cal cs hr (by rfl) (pa_cons pe_str pa_nil))))
      (pss_cut (ps_set (i := 1) sc_law_ternary.nd rfl (.inl rfl) (pe_lst (pa_cons pe_str (pa_cons pe_str (pa_cons pe_str pa_nil)))))
      (pss_one (ps_ret (pe_op op_cat (pv 0) (pe_lc (own := [("_law_pool", 2)]) (g := gName 2) (tt := tYes) rfl sc_law_ternary.nd (pi_list (pv 1)) (blkOk_by (N := ["_law_lines", "_law_pools", "_law_pool"]) (sc := defScope s_law_ternary) (by decide +kernel)) (fun _ _ _ _ _ => pg_name (i := 2) sc_law_ternary.nd rfl (.inl rfl)) (fun _ _ _ _ _ => pts_nil)
          (fun _ _ _ _ _ => pe_op op_add_str (pe_op op_add_str pe_str (pv 2)) pe_str)))))), ?_⟩
    have big : 100000 ≤ sizeLine := by decide
    refine ⟨fun σ' G => ∃ l : Addr, σ' = [some (.ref l), none, none] ∧ Same H G ∧ G l = some (.lst ((((["leaf a", "kind a a+a+a"] : List Str) ++ (freeR (["0", "a", "a+a"] : List Str))) ++ (startsL "m")).map V.str)), ?_, ?_⟩
    · exact Rds.use (rds_cat (rds_cat (rds_lst ["leaf a", "kind a a+a+a"] (by decide)) (rds_fr (rds_lst ["0", "a", "a+a"] (by decide)) (by decide) (by decide +kernel)) (by decide +kernel)) (rds_st (n := "m") (by decide +kernel)) (by decide +kernel)) fun l H' s e => ⟨l, rfl, s, e⟩
    rintro σ' G0 ⟨l0, rfl, s0, e0⟩
    refine ⟨fun σ' G => ∃ l : Addr, σ' = [some (.ref l0), some (.ref l), none] ∧ Same G0 G ∧ G l = some (.lst ((["a+a+a", "a+a+a+a", "a+a+a+a+a"] : List Str).map V.str)), ?_, ?_⟩
    · exact Rds.use (rds_lst ["a+a+a", "a+a+a+a", "a+a+a+a+a"] (by decide)) fun l H' s e => ⟨l, rfl, s, e⟩
    rintro σ' G1 ⟨l1, rfl, s1, e1⟩
    refine ⟨_, rfl, _, rfl, l1, rfl, ⟨_, .inl (.inl e1)⟩, fun D hD => ?_⟩
    refine lc_it (g := gName 2) (vs := [2]) (walk_list (K := K) (a := l1) (xs := (["a+a+a", "a+a+a+a", "a+a+a+a+a"] : List Str).map V.str)) (fun j G' => G' D = some (.lst ((((["a+a+a", "a+a+a+a", "a+a+a+a+a"] : List Str).take j).map pgT).map V.str)) ∧ Same G1 G')
      ⟨upd_same, same_new (Same.refl G1) hD⟩ (fun j G' _ h => .inl (.inl (h.2 _ _ e1))) (fun j u Gx G' hj h hy => ?_) (fun G' h => ?_)
    · obtain ⟨eD, sm'⟩ := h
      obtain ⟨rfl, hu⟩ := hy
      obtain ⟨z, hz0, rfl⟩ := at_texts hu
      have lz : ∀ z ∈ (["a+a+a", "a+a+a+a", "a+a+a+a+a"] : List Str), (("page m " : Str).length + z.length ≤ 100) ∧ ((("page m " : Str) ++ z).length + (" to a then m" : Str).length ≤ 100) := by decide +kernel
      obtain ⟨lz1, lz2⟩ := lz z (List.mem_of_getElem? hz0)
      have tk2 : (["a+a+a", "a+a+a+a", "a+a+a+a+a"] : List Str).take (j + 1) = (["a+a+a", "a+a+a+a", "a+a+a+a+a"] : List Str).take j ++ [z] := by rw [List.take_add_one, hz0]; rfl
      have l3 := List.length_take_le' j (["a+a+a", "a+a+a+a", "a+a+a+a+a"] : List Str)
      have l3 : ((["a+a+a", "a+a+a+a", "a+a+a+a+a"] : List Str).take j).length ≤ 3 := l3
      refine ⟨rfl, _, rfl, _, z, rfl, rfl, by omega, _, _, rfl, rfl, by omega, _, eD, by rw [List.length_map, List.length_map]; omega, ?_, fun b o q => by rw [upd_ne (ne_of_none q hD)]; exact sm' _ _ q⟩
      rw [upd_same, tk2, List.map_append, List.map_append]
      rfl
    · obtain ⟨eD, sm'⟩ := h
      refine ⟨l0, D, _, _, rfl, rfl, sm' _ _ (s1 _ _ e0), eD, by show 16 + 3 ≤ _; omega, fun p np => q p _ (((s0.trans s1).trans sm').trans (same_new (Same.refl G') np)) ?_⟩
      rw [upd_same, ← List.map_append]
      have e : ((((["leaf a", "kind a a+a+a"] : List Str) ++ (freeR (["0", "a", "a+a"] : List Str))) ++ (startsL "m")) ++ ((["a+a+a", "a+a+a+a", "a+a+a+a+a"] : List Str).take 3).map pgT) = bkTer.map showL := by decide +kernel
      exact congrArg (fun z : List Str => some (HO.lst (z.map V.str))) e
abbrev spWB : Sp := fun vs H Q _ => ∃ k : Nat, vs = [.int (k : Nat)] ∧ k < 6 ∧ ∀ l H', Same H H' → H' l = some (.lst (((wbk k).map showL).map V.str)) → Q (.ref l) H'
theorem ok_wb {f : Addr} {fd : FuncData} (F : Fun K "_law_written_book" "_law_written_book" s_law_written_book f fd) (T : Top K mg) : FnOk P w K mg base CX0 3 f fd ["_law_way"] spWB := by
  have c0 : Cal P w K mg base 2 "_law_binomial" [] (spBk (bkBin.map showL)) := T.d_law_binomial.cal fun f fd F => ok_bin F T
  have c1 : Cal P w K mg base 2 "_law_ternary" [] (spBk (bkTer.map showL)) := T.d_law_ternary.cal fun f fd F => ok_ter F T
  have c2 : Cal P w K mg base 2 "_law_twofold" [] (spBk (bkTwo.map showL)) := T.d_law_twofold.cal fun f fd F => ok_two F T
  have c3 : Cal P w K mg base 2 "_law_guided" [] (spBk (bkGui.map showL)) := T.d_law_guided.cal fun f fd F => ok_gui F T
  have c4 : Cal P w K mg base 2 "_law_turnabout" [] (spBk (bkTur.map showL)) := T.d_law_turnabout.cal fun f fd F => ok_tur F T
  have c5 : Cal P w K mg base 2 "_law_threesome" [] (spBk (bkThr.map showL)) := T.d_law_threesome.cal fun f fd F => ok_thr F T
  refine F.ok sc_law_written_book (fun vs H Q E h => ?_) (fun cdv A outer s H vs Q E hr h => ?_)
  · obtain ⟨k, rfl, _⟩ := h
    rfl
  · obtain ⟨k, rfl, hk, q⟩ := h
    refine ⟨_, pss_cons (ps_if (pt_cmpR op_eq (pv 0) pe_int (nomark _)) (pss_one (ps_ret (pe_cal0 c0 hr (by rfl)))) pss_nil)
      (pss_cons (ps_if (pt_cmpR op_eq (pv 0) pe_int (nomark _)) (pss_one (ps_ret (pe_cal0 c1 hr (by rfl)))) pss_nil)
      (pss_cons (ps_if (pt_cmpR op_eq (pv 0) pe_int (nomark _)) (pss_one (ps_ret (pe_cal0 c2 hr (by rfl)))) pss_nil)
      (pss_cons (ps_if (pt_cmpR op_eq (pv 0) pe_int (nomark _)) (pss_one (ps_ret (pe_cal0 c3 hr (by rfl)))) pss_nil)
      (pss_one (ps_ret (pe_ifExp (pt_cmpR op_eq (pv 0) pe_int (nomark _)) (pe_cal0 c4 hr (by rfl)) (pe_cal0 c5 hr (by rfl)))))))), ?_⟩
    match k, hk with
    | 0, _ =>
      refine ⟨_, rfl, rfl, _, rfl, iteT (by decide) ?_⟩
      exact ⟨rfl, q⟩
    | 1, _ =>
      refine ⟨_, rfl, rfl, _, rfl, iteF (by decide) ?_⟩
      refine ⟨_, rfl, rfl, _, rfl, iteT (by decide) ?_⟩
      exact ⟨rfl, q⟩
    | 2, _ =>
      refine ⟨_, rfl, rfl, _, rfl, iteF (by decide) ?_⟩
      refine ⟨_, rfl, rfl, _, rfl, iteF (by decide) ?_⟩
      refine ⟨_, rfl, rfl, _, rfl, iteT (by decide) ?_⟩
      exact ⟨rfl, q⟩
    | 3, _ =>
      refine ⟨_, rfl, rfl, _, rfl, iteF (by decide) ?_⟩
      refine ⟨_, rfl, rfl, _, rfl, iteF (by decide) ?_⟩
      refine ⟨_, rfl, rfl, _, rfl, iteF (by decide) ?_⟩
      refine ⟨_, rfl, rfl, _, rfl, iteT (by decide) ?_⟩
      exact ⟨rfl, q⟩
    | 4, _ =>
      refine ⟨_, rfl, rfl, _, rfl, iteF (by decide) ?_⟩
      refine ⟨_, rfl, rfl, _, rfl, iteF (by decide) ?_⟩
      refine ⟨_, rfl, rfl, _, rfl, iteF (by decide) ?_⟩
      refine ⟨_, rfl, rfl, _, rfl, iteF (by decide) ?_⟩
      refine ⟨_, rfl, rfl, _, rfl, iteT (by decide) ?_⟩
      exact ⟨rfl, q⟩
    | 5, _ =>
      refine ⟨_, rfl, rfl, _, rfl, iteF (by decide) ?_⟩
      refine ⟨_, rfl, rfl, _, rfl, iteF (by decide) ?_⟩
      refine ⟨_, rfl, rfl, _, rfl, iteF (by decide) ?_⟩
      refine ⟨_, rfl, rfl, _, rfl, iteF (by decide) ?_⟩
      refine ⟨_, rfl, rfl, _, rfl, iteF (by decide) ?_⟩
      exact ⟨rfl, q⟩
end
end Kl
set_option maxRecDepth 100000
set_option maxHeartbeats 4000000
namespace Kl
open PySem PySem.Spec PyProof.Rows L2 Gx Mx
theorem cut_to (z : Str) (r : Nat) : (cutS z none (some ((r : Nat) : Int))).cps.toList = z.cps.toList.take r := by
  unfold cutS
  rw [HT.sIx_nat, HT.sIx_none, List.drop_zero, Nat.sub_zero]
  show List.take (min r z.length) z.cps.toList = _
  have hl : z.length = z.cps.toList.length := (Array.length_toList ..).symm
  rw [hl]
  by_cases h : r ≤ z.cps.toList.length
  · rw [Nat.min_eq_left h]
  · rw [Nat.min_eq_right (by omega), List.take_length, List.take_of_length_le (by omega)]
theorem seqI {r : Int} {n : Nat} (h0 : 0 ≤ r) (h1 : r < n) : seqIndex? r n = some r.toNat := by
  have e : ¬ r < 0 := by omega
  simp [seqIndex?, e, h0, h1]
theorem erase_map {α β : Type} (f : α → β) : ∀ (l : List α) (k : Nat), (l.map f).eraseIdx k = (l.eraseIdx k).map f
  | [], _ => rfl
  | _ :: _, 0 => rfl
  | x :: l, k + 1 => congrArg (f x :: ·) (erase_map f l k)
def pre4 : PLine → Str
  | .leaf _ => "leaf"
  | .first _ => "firs"
  | .ends _ => "ends"
  | .kind _ _ => "kind"
  | .read _ _ _ => "read"
  | .start _ _ => "star"
  | .page _ => "page"
theorem joinL_head (S p : List Nat) (ps : List (List Nat)) : ∃ r, TL.joinL S (p :: ps) = p ++ r := by
  cases ps with
  | nil => exact ⟨[], (List.append_nil p).symm⟩
  | cons q ps => exact ⟨_, rfl⟩
theorem show_pre (x : PLine) : cutS (showL x) none (some 4) = pre4 x := by
  have h := cut_to (showL x) 4
  have e : ∃ r, (showL x).cps.toList = (headW x).cps.toList ++ r := by
    unfold showL
    rw [TL.join_eq]
    have e := TL.tl_join " " (wordsL x)
    have hw : ∃ ws, wordsL x = headW x :: ws := by cases x <;> exact ⟨_, rfl⟩
    obtain ⟨ws, ew⟩ := hw
    rw [ew, List.map_cons] at e
    obtain ⟨r, er⟩ := joinL_head (TL.tl " ") (TL.tl (headW x)) (ws.map TL.tl)
    rw [er, ← ew] at e
    exact ⟨r, e⟩
  obtain ⟨r, e⟩ := e
  have l4 : 4 ≤ (headW x).cps.toList.length := by
    cases x with
    | leaf a => exact (show 4 ≤ ("leaf" : Str).cps.toList.length by decide +kernel)
    | first a => exact (show 4 ≤ ("first" : Str).cps.toList.length by decide +kernel)
    | ends a => exact (show 4 ≤ ("ends" : Str).cps.toList.length by decide +kernel)
    | kind a b => exact (show 4 ≤ ("kind" : Str).cps.toList.length by decide +kernel)
    | read a b c => exact (show 4 ≤ ("read" : Str).cps.toList.length by decide +kernel)
    | start a b => exact (show 4 ≤ ("start" : Str).cps.toList.length by decide +kernel)
    | page a => exact (show 4 ≤ ("page" : Str).cps.toList.length by decide +kernel)
  rw [e, List.take_append_of_le_length l4] at h
  have h2 : (headW x).cps.toList.take 4 = (pre4 x).cps.toList := by
    cases x with
    | leaf a => exact (show ("leaf" : Str).cps.toList.take 4 = ("leaf" : Str).cps.toList by decide +kernel)
    | first a => exact (show ("first" : Str).cps.toList.take 4 = ("firs" : Str).cps.toList by decide +kernel)
    | ends a => exact (show ("ends" : Str).cps.toList.take 4 = ("ends" : Str).cps.toList by decide +kernel)
    | kind a b => exact (show ("kind" : Str).cps.toList.take 4 = ("kind" : Str).cps.toList by decide +kernel)
    | read a b c => exact (show ("read" : Str).cps.toList.take 4 = ("read" : Str).cps.toList by decide +kernel)
    | start a b => exact (show ("start" : Str).cps.toList.take 4 = ("star" : Str).cps.toList by decide +kernel)
    | page a => exact (show ("page" : Str).cps.toList.take 4 = ("page" : Str).cps.toList by decide +kernel)
  rw [h2] at h
  exact TL.ext_tl h
theorem pre_pr (x : PLine) : inV (V.str (pre4 x)) [V.str "page", V.str "read"] = isPR x := by
  cases x with
  | leaf a => exact (show inV (V.str "leaf") [V.str "page", V.str "read"] = false by decide +kernel)
  | first a => exact (show inV (V.str "firs") [V.str "page", V.str "read"] = false by decide +kernel)
  | ends a => exact (show inV (V.str "ends") [V.str "page", V.str "read"] = false by decide +kernel)
  | kind a b => exact (show inV (V.str "kind") [V.str "page", V.str "read"] = false by decide +kernel)
  | read a b c => exact (show inV (V.str "read") [V.str "page", V.str "read"] = true by decide +kernel)
  | start a b => exact (show inV (V.str "star") [V.str "page", V.str "read"] = false by decide +kernel)
  | page a => exact (show inV (V.str "page") [V.str "page", V.str "read"] = true by decide +kernel)
theorem ix_listK {X : Cx} {K : PySem.W.Frag} (hk : X.K = K) : IxR X (rIxL K) := by
  subst hk
  exact ix_list
theorem rds_to {K : PySem.W.Frag} {i n : Nat} {σ : L2.St} {H : Hp} {u : Addr} {xs : List Str} (e : σ[i]? = some (some (.ref u))) (h : H u = some (.lst (xs.map V.str))) : Rds (tSl (rSlL K) (tVar i) tNoPart (tPart (tC (.int (n : Nat))))) σ H (xs.take n) := fun H1 s Q q => by
  refine ⟨_, e, (n : Nat), rfl, u, _, rfl, .inl (.inl (s _ _ h)), fun p np => q p _ (same_new (Same.refl H1) np) ?_⟩
  rw [upd_same]
  congr 2
  unfold cutV
  rw [HT.sIx_nat, HT.sIx_none, List.drop_zero, Nat.sub_zero, List.length_map, List.map_take]
  by_cases c : n ≤ xs.length
  · rw [Nat.min_eq_left c]
  · rw [Nat.min_eq_right (by omega), List.take_of_length_le (by rw [List.length_map]; omega), List.take_of_length_le (by rw [List.length_map]; omega)]
theorem rds_from {K : PySem.W.Frag} {i n : Nat} {σ : L2.St} {H : Hp} {u : Addr} {xs : List Str} (e : σ[i]? = some (some (.ref u))) (h : H u = some (.lst (xs.map V.str))) (hn : n ≤ xs.length) : Rds (tSl (rSlL K) (tVar i) (tPart (tC (.int (n : Nat)))) tNoPart) σ H (xs.drop n) := fun H1 s Q q => by
  refine ⟨_, e, (n : Nat), rfl, u, _, rfl, .inl (.inl (s _ _ h)), fun p np => q p _ (same_new (Same.refl H1) np) ?_⟩
  rw [upd_same]
  congr 2
  unfold cutV
  rw [HT.sIx_nat, HT.sIx_none, List.length_map, Nat.min_eq_left hn, List.map_drop, List.take_of_length_le (by rw [List.length_drop, List.length_map]; omega)]
theorem erase_cnt {α : Type} (p : α → Bool) : ∀ (l : List α) (j : Nat), (l.filter p).length ≤ ((l.eraseIdx j).filter p).length + 1
  | [], _ => Nat.zero_le _
  | x :: l, 0 => by
    show ((x :: l).filter p).length ≤ (l.filter p).length + 1
    rw [List.filter_cons]
    split
    · exact Nat.le_refl _
    · omega
  | x :: l, j + 1 => by
    have ih := erase_cnt p l j
    show ((x :: l).filter p).length ≤ ((x :: l.eraseIdx j).filter p).length + 1
    rw [List.filter_cons, List.filter_cons]
    split
    · rw [List.length_cons, List.length_cons]; omega
    · exact ih
theorem pre_page {y : PLine} : (pre4 y = "page") ↔ ∃ g, y = .page g := by
  constructor
  · intro h
    cases y with
    | page g => exact ⟨g, rfl⟩
    | leaf a => exact absurd h (show ¬ (("leaf" : Str) = "page") by decide +kernel)
    | first a => exact absurd h (show ¬ (("firs" : Str) = "page") by decide +kernel)
    | ends a => exact absurd h (show ¬ (("ends" : Str) = "page") by decide +kernel)
    | kind a b => exact absurd h (show ¬ (("kind" : Str) = "page") by decide +kernel)
    | read a b c => exact absurd h (show ¬ (("read" : Str) = "page") by decide +kernel)
    | start a b => exact absurd h (show ¬ (("star" : Str) = "page") by decide +kernel)
  · rintro ⟨g, rfl⟩
    rfl
theorem ixN_n {n j : Nat} (hj : j < n) : ixN n (j : Int) = some j := by
  unfold ixN
  rw [if_pos (Int.natCast_nonneg j), if_pos (by omega), Int.toNat_natCast]
theorem pre_head {y : PLine} (h : isPR y = true) : headW y = pre4 y := by
  cases y with
  | page g => rfl
  | read a b c => rfl
  | leaf a => cases h
  | first a => cases h
  | ends a => cases h
  | kind a b => cases h
  | start a b => cases h
theorem made_words (g : Pg) : ((wordsP g).take 4 ++ (["0"] : List Str)) ++ (wordsP g).drop 5 = wordsP { g with made := [] } := rfl
theorem after_words (g : Pg) (z : Str) : (wordsP g).take 6 ++ [z] = wordsP { g with after := z } := rfl
section
variable {P : Program} {w : World} {K : PySem.W.Frag} {mg : Str → Option Value} {base : Heap}
abbrev NCH : List Str := ["_law_dice_here", "_law_lines", "_law_found", "_law_turn", "_law_line", "_law_words", "_law_at", "_law_way"]
def spCh (K : PySem.W.Frag) : Sp := fun vs H Q _ => ∃ (d l : Addr) (bk : List PLine), vs = [.ref d, .ref l] ∧ DiceAt H d ∧ SqL K H l ((bk.map showL).map V.str) ∧ l ≠ d ∧ (∀ x ∈ bk, LnOk x = true) ∧ bk.length ≤ 60 ∧ (∃ x ∈ bk, isPR x = true) ∧
  ∀ p ls H', H p = none → SameX d H H' → DiceAt H' d → VarL bk ls → H' p = some (.lst ((ls.map showL).map V.str)) → Q (.ref p) H'
theorem ok_ch {f : Addr} {fd : FuncData} (F : Fun K "_law_changed" "_law_changed" s_law_changed f fd) (T : Top K mg) : FnOk P w K mg base CX0 3 f fd ["_law_dice_here", "_law_lines"] (spCh K) := by
  have cr : Cal P w K mg base 2 "_law_roll" ["_law_dice_here", "_law_total"] spRoll := (T.d_law_roll.cal fun f fd F => ok_roll F T).mono (by decide)
  have cp : Cal P w K mg base 2 "_law_pick" ["_law_dice_here", "_law_items"] (spPick K) := T.d_law_pick.cal fun f fd F => ok_pick F T
  refine F.ok sc_law_changed (fun vs H Q E h => ?_) (fun cdv A outer s H vs Q E hr h => ?_)
  · obtain ⟨d, l, bk, rfl, _⟩ := h
    rfl
  · obtain ⟨d, l, bk, rfl, hd, hl, nld, hok, few, hpr, q⟩ := h
    refine ⟨_, pss_cut (ps_set (i := 2) sc_law_changed.nd rfl (.inl rfl) (pe_callTy call_list_of (by rfl) T.b_list (by decide +kernel) (pa_cons (pv 1) pa_nil)))
      (pss_cut (ps_for PassesOwn.never rfl (pi_range1 (by rfl) T.b_range (pa_cons (pe_cal cp hr (by rfl) (pa_cons (pv 0) (pa_cons (pe_lst (pa_cons pe_int (pa_cons pe_int (pa_cons pe_int (pa_cons pe_int pa_nil))))) pa_nil))) pa_nil)) (pg_name (i := 3) sc_law_changed.nd rfl (.inl rfl))
        (pss_cut (ps_set (i := 4) sc_law_changed.nd rfl (.inl rfl) (pe_cal cp hr (by rfl) (pa_cons (pv 0) (pa_cons (pe_lc (own := [("_law_line", 4)]) (g := gName 4) rfl sc_law_changed.nd (pi_list (pv 2)) (blkOk_by (N := NCH) (sc := defScope s_law_changed) (by decide +kernel)) (fun _ _ _ _ _ => pg_name (i := 4) sc_law_changed.nd rfl (.inl rfl))
            (fun _ _ _ _ _ => pts_one (pt_cmpR (op_inSeqK (K := K) (by exact rfl)) (pe_slice sl_str (pv 4) po_none (po_some pe_int)) (pe_tup (pa_cons pe_str (pa_cons pe_str pa_nil))) (by rfl))) (fun _ _ _ _ _ => pv 4)) pa_nil))))
        (pss_cut (ps_asg (pe_tup (pa_cons (pe_split (pv 4) pe_str) (pa_cons (pe_bm PySem.F.plainAttrs_list PySem.F.slot_list_index PySem.F.type_list_index mt_index (pv 2) (pa_cons (pv 4) pa_nil)) pa_nil))) (pg_tup rfl (pgs_cons (pg_name (i := 5) sc_law_changed.nd rfl (.inr rfl)) (pgs_cons (pg_name (i := 6) sc_law_changed.nd rfl (.inl rfl)) pgs_nil))))
        (pss_cut (ps_set (i := 7) sc_law_changed.nd rfl (.inl rfl) (pe_cal cr hr (by rfl) (pa_cons (pv 0) (pa_cons pe_int pa_nil))))
        (pss_one (ps_if (PW.pt (pw_and (pt_cmpR op_eq (pv 7) pe_int (nomark _)) (pw_and1 (pt_cmpR op_eq (pe_slice sl_str (pv 4) po_none (po_some pe_int)) pe_str (nomark _)))))
          (pss_one (ps_asg (pe_joinK (K := K) (by exact rfl) pe_str (pe_op op_cat (pe_op op_cat (pe_slice sl_list (pv 5) po_none (po_some pe_int)) (pe_lst (pa_cons pe_str pa_nil))) (pe_slice sl_list (pv 5) (po_some pe_int) po_none))) (pg_sub (pv 2) (pv 6) set_list)))
          (pss_one (ps_if (PW.pt (pw_and (pt_cmpR op_eq (pv 7) pe_int (nomark _)) (pw_and1 (pt_cmpR op_eq (pe_slice sl_str (pv 4) po_none (po_some pe_int)) pe_str (nomark _)))))
            (pss_one (ps_asg (pe_joinK (K := K) (by exact rfl) pe_str (pe_op op_cat (pe_slice sl_list (pv 5) po_none (po_some pe_int)) (pe_lst (pa_cons (pe_cal cp hr (by rfl) (pa_cons (pv 0) (pa_cons (pe_lst (pa_cons pe_str (pa_cons pe_str pa_nil))) pa_nil))) pa_nil)))) (pg_sub (pv 2) (pv 6) set_list)))
            (pss_one (ps_if (pt_cmpR op_gt (pe_callB call_len_seq (by rfl) T.b_len PySem.boot_len (pa_cons (pe_lc (own := [("_law_line", 4)]) (g := gName 4) rfl sc_law_changed.nd (pi_list (pv 2)) (blkOk_by (N := NCH) (sc := defScope s_law_changed) (by decide +kernel)) (fun _ _ _ _ _ => pg_name (i := 4) sc_law_changed.nd rfl (.inl rfl))
                (fun _ _ _ _ _ => pts_one (pt_cmpR op_eq (pe_slice sl_str (pv 4) po_none (po_some pe_int)) (pe_ix (ix_listK (K := K) (by exact rfl)) (pv 5) pe_int (fun _ _ => rfl)) (nomark _))) (fun _ _ _ _ _ => pv 4)) pa_nil)) pe_int (nomark _))
              (pss_one (ps_expr (pe_bm PySem.F.plainAttrs_list PySem.F.slot_list_pop PySem.F.type_list_pop mt_popAt (pv 2) (pa_cons (pv 6) pa_nil)))) pss_nil))))))))))
      (pss_one (ps_ret (pv 2)))), ?_⟩
    have big : 100000 ≤ sizeLine := by decide
    refine ⟨fun σ' G => ∃ p : Addr, σ' = [some (.ref d), some (.ref l), some (.ref p), none, none, none, none, none] ∧ H p = none ∧ G p = some (.lst ((bk.map showL).map V.str)) ∧ SameX d H G ∧ DiceAt G d, ?_, ?_⟩
    · refine ⟨_, rfl, l, _, rfl, .inl hl, fun p np => ⟨p, rfl, np, upd_same, (SameX.refl d H).at np, dice_upd hd (dice_ne hd np)⟩⟩
    rintro σ' G1 ⟨p, rfl, np, ep, sx1, hd1⟩
    have npd : p ≠ d := dice_ne hd np
    refine ⟨fun σ' G => ∃ (ls : List PLine) (t3 t4 t5 t6 t7 : Option V), σ' = [some (.ref d), some (.ref l), some (.ref p), t3, t4, t5, t6, t7] ∧ VarL bk ls ∧ (∃ x ∈ ls, isPR x = true) ∧ G p = some (.lst ((ls.map showL).map V.str)) ∧ SameX d H G ∧ DiceAt G d, ?_, ?_⟩
    rotate_left
    · rintro σ' G2 ⟨ls, t3, t4, t5, t6, t7, rfl, hV, _, e2, sx2, hd2⟩
      exact ⟨_, rfl, q p ls G2 np sx2 hd2 hV e2⟩
    refine ⟨_, rfl, by show 4 ≤ sizeLine; omega, fun y ny => ⟨d, .ref y, _, rfl, dice_upd hd1 (dice_ne hd1 ny), .inl ⟨y, rfl, dice_ne hd1 ny, .inl (.inl (.inl upd_same))⟩, nofun, by show 4 ≤ 100000; omega, fun v x b c hv => ?_⟩⟩
    obtain ⟨k, rfl, hk⟩ : ∃ k : Nat, v = .int (k : Nat) ∧ k ≤ 2 := by
      simp only [List.mem_cons, List.not_mem_nil, or_false] at hv
      rcases hv with rfl | rfl | rfl | rfl
      · exact ⟨0, rfl, by omega⟩
      · exact ⟨1, rfl, by omega⟩
      · exact ⟨1, rfl, by omega⟩
      · exact ⟨2, rfl, by omega⟩
    have nyd : y ≠ d := dice_ne hd1 ny
    have nyp : y ≠ p := fun z => by rw [z, ep] at ny; cases ny
    have sx3 : SameX d H (upd (upd G1 y (.lst [V.int 0, .int 1, .int 1, .int 2])) d (.lst [.int x, .int b, .int c])) := (sx1.new ny).atd
    have ep3 : (upd (upd G1 y (.lst [V.int 0, .int 1, .int 1, .int 2])) d (.lst [.int x, .int b, .int c])) p = some (.lst ((bk.map showL).map V.str)) := by rw [upd_ne npd, upd_ne (Ne.symm nyp)]; exact ep
    have hd3 : DiceAt (upd (upd G1 y (.lst [V.int 0, .int 1, .int 1, .int 2])) d (.lst [.int x, .int b, .int c])) d := dice_new x b c
    generalize upd (upd G1 y (.lst [V.int 0, .int 1, .int 1, .int 2])) d (.lst [.int x, .int b, .int c]) = G3 at *
    refine ⟨_, rfl, by omega, by omega, ?_⟩
    refine for_range (lo := 0) (fun i σ' G => ∃ (ls : List PLine) (t3 t4 t5 t6 t7 : Option V), σ' = [some (.ref d), some (.ref l), some (.ref p), t3, t4, t5, t6, t7] ∧ VarL bk ls ∧ (∃ x ∈ ls, isPR x = true) ∧ G p = some (.lst ((ls.map showL).map V.str)) ∧ SameX d H G ∧ DiceAt G d)
      ⟨bk, none, none, none, none, none, rfl, VarL.refl bk, hpr, ep3, sx3, hd3⟩ (fun i σ' G hi hP => ?_) (fun σ' G hP => hP)
    obtain ⟨ls, t3, t4, t5, t6, t7, rfl, hV, hex, eL, sx, hdG⟩ := hP
    clear sx3 ep3 hd3 hd1 sx1 ep ny nyp
    have lls : ls.length ≤ 60 := Nat.le_trans hV.len few
    have okl : ∀ x ∈ ls, LnOk x = true := fun x m => by
      obtain ⟨x0, m0, v⟩ := hV.mem m
      exact v.ok (hok x0 m0)
    -- a line of a page or a read
    refine ⟨fun σ' G' => ∃ t3' : Option V, ∃ x ∈ ls, isPR x = true ∧ σ' = [some (.ref d), some (.ref l), some (.ref p), t3', some (.str (showL x)), t5, t6, t7] ∧ SameX d G G' ∧ DiceAt G' d ∧ G' p = some (.lst ((ls.map showL).map V.str)), ?_, ?_⟩
    · refine ⟨_, rfl, _, rfl, p, rfl, ⟨_, .inl (.inl eL)⟩, fun D hD => ?_⟩
      refine lc_it (g := gName 4) (vs := [4]) (walk_list (K := K) (a := p) (xs := (ls.map showL).map V.str)) (fun j G' => G' D = some (.lst ((((ls.take j).filter isPR).map showL).map V.str)) ∧ Same G G')
        ⟨upd_same, same_new (Same.refl G) hD⟩ (fun j G' _ h => .inl (.inl (h.2 _ _ eL))) (fun j u Gx G' hj h hy => ?_) (fun G' h => ?_)
      · obtain ⟨eD, sm'⟩ := h
        obtain ⟨rfl, hu⟩ := hy
        obtain ⟨z, hz0, rfl⟩ := at_texts hu
        rw [List.getElem?_map] at hz0
        obtain ⟨x1, hx1, rfl⟩ := Option.map_eq_some_iff.mp hz0
        have lz := show_len (okl x1 (List.mem_of_getElem? hx1))
        have etk : (ls.take (j + 1)).filter isPR = (ls.take j).filter isPR ++ (if isPR x1 = true then [x1] else []) := by
          rw [List.take_add_one, hx1, List.filter_append]
          show _ ++ List.filter _ [x1] = _
          rw [List.filter_cons, List.filter_nil]
        refine ⟨rfl, _, rfl, 4, rfl, _, rfl, by omega, by show 2 ≤ sizeLine; omega, fun tp ntp => ⟨tp, _, rfl, .inr (.inl (.inl upd_same)), rfl, rfl, isPR x1, congrArg V.bl (by rw [show_pre]; exact pre_pr x1), ?_⟩⟩
        have st := same_new (o := .tup [V.str "page", V.str "read"]) (Same.refl G') ntp
        generalize upd G' tp (.tup [V.str "page", V.str "read"]) = G'' at *
        have eD := st _ _ eD
        have sm' := sm'.trans st
        refine ite2 (fun c => ?_) (fun c => ?_)
        · have lf := List.length_filter_le isPR (ls.take j)
          have lt := List.length_take_le' j ls
          refine ⟨_, rfl, _, eD, by rw [List.length_map, List.length_map]; omega, ?_, fun b o q => by rw [upd_ne (ne_of_none q hD)]; exact sm' _ _ q⟩
          rw [upd_same, etk, if_pos c, List.map_append, List.map_append]
          rfl
        · refine ⟨?_, sm'⟩
          rw [etk, if_neg c, List.append_nil]
          exact eD
      · obtain ⟨eD, sm'⟩ := h
        rw [List.length_map, List.length_map, List.take_length] at eD
        have lf := List.length_filter_le isPR ls
        have hdG' : DiceAt G' d := by
          obtain ⟨a, b, c, e⟩ := hdG
          exact ⟨a, b, c, sm' _ _ e⟩
        have nDd : D ≠ d := dice_ne hdG hD
        refine ⟨d, .ref D, _, rfl, hdG', .inl ⟨D, rfl, nDd, .inl (.inl (.inl eD))⟩, fun e => ?_, by rw [List.length_map, List.length_map]; omega, fun v x b c hv => ?_⟩
        · obtain ⟨x, m, hx⟩ := hex
          rw [List.map_eq_nil_iff, List.map_eq_nil_iff, List.filter_eq_nil_iff] at e
          exact e x m hx
        · obtain ⟨z, hz, rfl⟩ := List.mem_map.mp hv
          obtain ⟨x1, hx1, rfl⟩ := List.mem_map.mp hz
          obtain ⟨m1, m2⟩ := List.mem_filter.mp hx1
          exact ⟨_, x1, m1, m2, rfl, (SameX.of sm').atd, dice_new x b c, by rw [upd_ne npd]; exact sm' _ _ eL⟩
    rintro σ' G4 ⟨t3', x0, m0, pr0, rfl, sx4, hd4, e4⟩
    have sx04 := sx.trans sx4
    clear sx4 hdG eL sx
    -- its words, its place
    obtain ⟨j, y, hy, ey, hno⟩ : ∃ j y, ls[j]? = some y ∧ showL y = showL x0 ∧ ∀ m z', m < j → ls[m]? = some z' → showL z' ≠ showL x0 := by
      have hm : showL x0 ∈ ls.map showL := List.mem_map.mpr ⟨x0, m0, rfl⟩
      have li := List.idxOf_lt_length_of_mem hm
      have lm : (ls.map showL).length = ls.length := List.length_map _
      refine ⟨(ls.map showL).idxOf (showL x0), ls[(ls.map showL).idxOf (showL x0)], List.getElem?_eq_getElem (by omega), ?_, fun m z' hm' hz e => ?_⟩
      · have := List.getElem_idxOf li
        rw [List.getElem_map] at this
        exact this
      · have := idx_no hm'
        rw [List.getElem?_map, hz] at this
        exact this (congrArg some e)
    have pry : isPR y = true := by
      have h1 := show_pre y
      rw [ey, show_pre x0] at h1
      rw [← pre_pr y, ← h1, pre_pr x0]
      exact pr0
    rw [← ey]
    rw [← ey] at hno
    clear ey pr0 m0 x0
    have oky := okl y (List.mem_of_getElem? hy)
    have ly := show_len oky
    refine ⟨fun σ' G' => ∃ u : Addr, σ' = [some (.ref d), some (.ref l), some (.ref p), t3', some (.str (showL y)), some (.ref u), some (.int (j : Nat)), t7] ∧ G' u = some (.lst ((wordsL y).map V.str)) ∧ SameX d H G' ∧ DiceAt G' d ∧ G' p = some (.lst ((ls.map showL).map V.str)) ∧ u ≠ p ∧ u ≠ d, ?_, ?_⟩
    · refine ⟨_, rfl, ⟨_, rfl⟩, _, _, rfl, rfl, rfl, by omega, fun u nu => ?_⟩
      rw [show_split oky]
      have s5 := same_new (o := .lst ((wordsL y).map V.str)) (Same.refl G4) nu
      have eu : (upd G4 u (.lst ((wordsL y).map V.str))) u = some (.lst ((wordsL y).map V.str)) := upd_same
      have nud : u ≠ d := dice_ne hd4 nu
      have nup : u ≠ p := fun z => by rw [z, e4] at nu; cases nu
      have hd5 : DiceAt (upd G4 u (.lst ((wordsL y).map V.str))) d := dice_upd hd4 nud
      generalize upd G4 u (.lst ((wordsL y).map V.str)) = G5 at *
      have e5 := s5 _ _ e4
      refine ⟨_, rfl, ⟨.inl ⟨rfl, _, .inl (.inl e5)⟩, ?_⟩⟩
      have sx5 := sx04.trans (SameX.of s5)
      refine ⟨_, rfl, p, _, .str (showL y), j, .str (showL y), rfl, rfl, .inl (.inl e5), rfl, ?_, ?_, ?_, ?_, ?_⟩
      · rw [List.all_eq_true]
        intro v m
        obtain ⟨z, _, rfl⟩ := List.mem_map.mp m
        rfl
      · rw [List.getElem?_map, List.getElem?_map, hy]
        rfl
      · show (showL y == showL y) = true
        exact beq_self_eq_true _
      · intro m z' hm hz
        obtain ⟨z, hz2, rfl⟩ := at_texts hz
        rw [List.getElem?_map] at hz2
        obtain ⟨x', hx', rfl⟩ := Option.map_eq_some_iff.mp hz2
        show (showL x' == showL y) = false
        rw [beq_eq_false_iff_ne]
        exact hno m x' hm hx'
      · refine ⟨by show 2 ≤ sizeLine; omega, fun tp ntp => ?_⟩
        have s6 := same_new (o := .tup [V.ref u, .int (j : Nat)]) (Same.refl G5) ntp
        have etp : (upd G5 tp (.tup [V.ref u, .int (j : Nat)])) tp = some (.tup [V.ref u, .int (j : Nat)]) := upd_same
        have hd6 : DiceAt (upd G5 tp (.tup [V.ref u, .int (j : Nat)])) d := dice_upd hd5 (dice_ne hd5 ntp)
        generalize upd G5 tp (.tup [V.ref u, .int (j : Nat)]) = G6 at *
        exact ⟨tp, _, rfl, SqT.of etp, rfl, _, _, rfl, _, _, rfl, rfl, u, rfl, s6 _ _ eu, sx5.trans (SameX.of s6), hd6, s6 _ _ e5, nup, nud⟩
    rintro σ' G5 ⟨u, rfl, eu, sx5, hd5, e5, nup, nud⟩
    clear sx04 e4 hd4
    -- which way
    refine ⟨fun σ' G' => ∃ r : Nat, σ' = [some (.ref d), some (.ref l), some (.ref p), t3', some (.str (showL y)), some (.ref u), some (.int (j : Nat)), some (.int (r : Nat))] ∧ G' u = some (.lst ((wordsL y).map V.str)) ∧ SameX d H G' ∧ DiceAt G' d ∧ G' p = some (.lst ((ls.map showL).map V.str)), ?_, ?_⟩
    · refine ⟨_, rfl, d, 4, rfl, hd5, by omega, by decide, fun r x b c h0 h1 => ?_⟩
      obtain ⟨r, rfl⟩ := Int.eq_ofNat_of_zero_le h0
      exact ⟨r, rfl, by rw [upd_ne nud]; exact eu, sx5.atd, dice_new x b c, by rw [upd_ne npd]; exact e5⟩
    rintro σ' G6 ⟨r, rfl, eu6, sx6, hd6, e6⟩
    clear sx5 hd5 e5 eu
    have fin : ∀ (ls' : List PLine) (H' : Hp) (t : Option V), VarL bk ls' → (∃ x ∈ ls', isPR x = true) → H' p = some (.lst ((ls'.map showL).map V.str)) → SameX d H H' → DiceAt H' d → ∃ (ls : List PLine) (t3 t4 t5 t6 t7 : Option V), [some (.ref d), some (.ref l), some (.ref p), t3', some (.str (showL y)), some (.ref u), some (.int (j : Nat)), some (.int (r : Nat))] = [some (.ref d), some (.ref l), some (.ref p), t3, t4, t5, t6, t7] ∧ VarL bk ls ∧ (∃ x ∈ ls, isPR x = true) ∧ H' p = some (.lst ((ls.map showL).map V.str)) ∧ SameX d H H' ∧ DiceAt H' d :=
      fun ls' H' t a b c d' e => ⟨ls', _, _, _, _, _, rfl, a, b, c, d', e⟩
    have lj : j < ls.length := (List.getElem?_eq_some_iff.mp hy).1
    have exs : ∀ y', isPR y' = true → ∃ x ∈ ls.set j y', isPR x = true := fun y' h => ⟨y', List.mem_set lj y', h⟩
    have jn : ∀ y', LnOk y' = true → ((wordsL y').map (·.length)).sum + (wordsL y').length * (" " : Str).length ≤ 16777216 := fun y' h => by
      have h3 : ((wordsL y').map (·.length)).sum ≤ (wordsL y').length * 900 := sum_by fun z hz => word_len h z hz
      have h4 : (" " : Str).length = 1 := by decide +kernel
      have h5 := words_few h
      rw [h4]
      omega
    have hset : ∀ y' : PLine, ((ls.map showL).map V.str).set j (V.str (showL y')) = ((ls.set j y').map showL).map V.str := fun y' => by
      rw [List.map_set, List.map_set]
    refine ⟨_, rfl, rfl, _, rfl, ite2 (fun c => ⟨_, rfl, (4 : Nat), rfl, _, rfl, by omega, rfl, _, rfl, ite2 (fun c2 => ?A) (fun c2 => ⟨_, rfl, rfl, _, rfl, ite2 (fun c3 => ?dead) (fun c3 => ?pop1)⟩)⟩) (fun c => ⟨_, rfl, rfl, _, rfl, ite2 (fun c2 => ⟨_, rfl, (4 : Nat), rfl, _, rfl, by omega, rfl, _, rfl, ite2 (fun c3 => ?B) (fun c3 => ?pop2)⟩) (fun c2 => ?pop3)⟩)⟩
    case dead =>
      have h1 := V.int.inj (of_decide_eq_true c)
      have h2 := V.int.inj (of_decide_eq_true c3)
      omega
    case A =>
      have h1 : cutS (showL y) none (some 4) = "page" := V.str.inj (of_decide_eq_true c2)
      rw [show_pre] at h1
      obtain ⟨g, rfl⟩ := pre_page.mp h1
      have ok' : LnOk (.page { g with made := [] }) = true := vLine.ok (.inr ⟨g, _, rfl, rfl, rfl, rfl, .inr rfl, .inl rfl⟩) oky
      refine ⟨⟨_, rfl⟩, ?_⟩
      refine Rds.use (rds_cat (rds_cat (rds_to (n := 4) rfl eu6) (rds_lst ["0"] (by decide)) (by show 5 ≤ 1000; omega)) (rds_from (n := 5) rfl eu6 (by show 5 ≤ 7; omega)) (by show 7 ≤ 1000; omega)) fun l2 G7 s7 e7 => ?_
      rw [show wordsL (.page g) = wordsP g from rfl, made_words] at e7
      refine ⟨" ", l2, _, rfl, rfl, .inl (.inl (.inl e7)), jn _ ok', _, rfl, _, rfl, p, _, (j : Nat), j, rfl, rfl, s7 _ _ e6, ixN_n (by rw [List.length_map, List.length_map]; exact lj), ?_⟩
      have e8 : Txt.join " " (wordsP { g with made := [] }) = showL (.page { g with made := [] }) := rfl
      rw [e8, hset]
      exact fin _ _ none (hV.set hy fun x v => v.made) (exs _ rfl) upd_same (fun b o n q => by
        rw [upd_ne (ne_of_none q np)]
        exact s7 _ _ (sx6 b o n q)) (dice_upd (by
        obtain ⟨a, b, c, e⟩ := hd6
        exact ⟨a, b, c, s7 _ _ e⟩) npd)
    case B =>
      have h1 : cutS (showL y) none (some 4) = "page" := V.str.inj (of_decide_eq_true c3)
      rw [show_pre] at h1
      obtain ⟨g, rfl⟩ := pre_page.mp h1
      refine ⟨⟨_, rfl⟩, ?_⟩
      refine Rds.use (rds_to (n := 6) rfl eu6) fun l2 G7 s7 e7 => ?_
      have hd7 : DiceAt G7 d := by
        obtain ⟨a, b, c, e⟩ := hd6
        exact ⟨a, b, c, s7 _ _ e⟩
      have nl2 : l2 ≠ d := fun z => by
        obtain ⟨a, b, c, e⟩ := hd7
        rw [z, e] at e7
        have h2 := HO.lst.inj (Option.some.inj e7)
        cases (List.cons.inj h2).1
      refine ⟨_, rfl, by show 2 ≤ sizeLine; omega, fun yl nyl => ⟨d, .ref yl, _, rfl, dice_upd hd7 (dice_ne hd7 nyl), .inl ⟨yl, rfl, dice_ne hd7 nyl, .inl (.inl (.inl upd_same))⟩, nofun, by show 2 ≤ 100000; omega, fun v x b c' hv => ?_⟩⟩
      obtain ⟨z, rfl, hz⟩ : ∃ z : Str, v = .str z ∧ (z = "m" ∨ z = "idle") := by
        simp only [List.mem_cons, List.not_mem_nil, or_false] at hv
        rcases hv with rfl | rfl
        · exact ⟨_, rfl, .inl rfl⟩
        · exact ⟨_, rfl, .inr rfl⟩
      have s8 := same_new (o := .lst [V.str "m", .str "idle"]) (Same.refl G7) nyl
      have sx8 : SameX d G7 (upd (upd G7 yl (.lst [V.str "m", .str "idle"])) d (.lst [.int x, .int b, .int c'])) := (SameX.of s8).atd
      have hd8 : DiceAt (upd (upd G7 yl (.lst [V.str "m", .str "idle"])) d (.lst [.int x, .int b, .int c'])) d := dice_new x b c'
      generalize upd (upd G7 yl (.lst [V.str "m", .str "idle"])) d (.lst [.int x, .int b, .int c']) = G8 at *
      refine ⟨by show 1 ≤ sizeLine; omega, fun l3 nl3 => ⟨l2, l3, ((wordsL (.page g)).take 6).map V.str, [V.str z], rfl, rfl, ?_, upd_same, by show 6 + 1 ≤ sizeLine; omega, fun l4 nl4 => ?_⟩⟩
      · rw [upd_ne (ne_of_none (sx8 _ _ nl2 e7) nl3)]
        exact sx8 _ _ nl2 e7
      have s9 := same_new (o := .lst [V.str z]) (Same.refl G8) nl3
      have s10 := s9.trans (same_new (o := .lst (((wordsL (.page g)).take 6).map V.str ++ [V.str z])) (Same.refl _) nl4)
      have e10 : (upd (upd G8 l3 (.lst [V.str z])) l4 (.lst (((wordsL (.page g)).take 6).map V.str ++ [V.str z]))) l4 = some (.lst ((wordsP { g with after := z }).map V.str)) := by
        rw [upd_same, ← after_words, List.map_append]
        rfl
      generalize upd (upd G8 l3 (.lst [V.str z])) l4 (.lst (((wordsL (.page g)).take 6).map V.str ++ [V.str z])) = G10 at *
      have ok' : LnOk (.page { g with after := z }) = true := vLine.ok (.inr ⟨g, _, rfl, rfl, rfl, rfl, .inl rfl, .inr hz⟩) oky
      have sx10 : SameX d H G10 := fun b o n q => s10 _ _ (sx8 b o n (s7 _ _ (sx6 b o n q)))
      have e11 : G10 p = some (.lst ((ls.map showL).map V.str)) := s10 _ _ (sx8 _ _ npd (s7 _ _ e6))
      have hd10 : DiceAt G10 d := by
        obtain ⟨a, b, c, e⟩ := hd8
        exact ⟨a, b, c, s10 _ _ e⟩
      refine ⟨" ", l4, _, rfl, rfl, .inl (.inl (.inl e10)), jn _ ok', _, rfl, _, rfl, p, _, (j : Nat), j, rfl, rfl, e11, ixN_n (by rw [List.length_map, List.length_map]; exact lj), ?_⟩
      have e8 : Txt.join " " (wordsP { g with after := z }) = showL (.page { g with after := z }) := rfl
      rw [e8, hset]
      exact fin _ _ none (hV.set hy fun x v => v.after hz) (exs _ rfl) upd_same (fun b o n q => by
        rw [upd_ne (ne_of_none q np)]
        exact sx10 b o n q) (dice_upd hd10 npd)
    all_goals
      refine ⟨_, rfl, p, rfl, ⟨_, .inl (.inl e6)⟩, fun D hD => ?_⟩
      refine lc_it (g := gName 4) (vs := [4]) (walk_list (K := K) (a := p) (xs := (ls.map showL).map V.str)) (fun j G' => G' D = some (.lst ((((ls.take j).filter fun x => decide (pre4 x = pre4 y)).map showL).map V.str)) ∧ Same G6 G')
        ⟨upd_same, same_new (Same.refl G6) hD⟩ (fun j G' _ h => .inl (.inl (h.2 _ _ e6))) (fun j u Gx G' hj h hy => ?_) (fun G' h => ?_)
      · obtain ⟨eD, sm'⟩ := h
        obtain ⟨rfl, hu⟩ := hy
        obtain ⟨z, hz0, rfl⟩ := at_texts hu
        rw [List.getElem?_map] at hz0
        obtain ⟨x1, hx1, rfl⟩ := Option.map_eq_some_iff.mp hz0
        have lz := show_len (okl x1 (List.mem_of_getElem? hx1))
        have etk : (ls.take (j + 1)).filter (fun x => decide (pre4 x = pre4 y)) = (ls.take j).filter (fun x => decide (pre4 x = pre4 y)) ++ (if decide (pre4 x1 = pre4 y) = true then [x1] else []) := by
          rw [List.take_add_one, hx1, List.filter_append]
          show _ ++ List.filter _ [x1] = _
          rw [List.filter_cons, List.filter_nil]
        have a0 : atI ((wordsL y).map V.str) 0 = some (.str (pre4 y)) := atI_nat (by rw [List.getElem?_map, head_at, pre_head pry]; rfl)
        refine ⟨rfl, _, rfl, (4 : Nat), rfl, _, rfl, by omega, _, rfl, _, _, 0, _, rfl, rfl, .inl (.inl (sm' _ _ eu6)), a0, rfl, decide (pre4 x1 = pre4 y), ?_, ?_⟩
        · rw [show cutS (showL x1) none (some ((4 : Nat) : Int)) = pre4 x1 from show_pre x1]
          congr 1
          rw [decide_eq_decide]
          exact ⟨fun h => V.str.inj h, fun h => congrArg V.str h⟩
        · refine ite2 (fun c => ?_) (fun c => ?_)
          · have lf := List.length_filter_le (fun x => decide (pre4 x = pre4 y)) (ls.take j)
            have lt := List.length_take_le' j ls
            refine ⟨_, rfl, _, eD, by rw [List.length_map, List.length_map]; omega, ?_, fun b o q => by rw [upd_ne (ne_of_none q hD)]; exact sm' _ _ q⟩
            rw [upd_same, etk, if_pos c, List.map_append, List.map_append]
            rfl
          · refine ⟨?_, sm'⟩
            rw [etk, if_neg c, List.append_nil]
            exact eD
      · obtain ⟨eD, sm'⟩ := h
        rw [List.length_map, List.length_map, List.take_length] at eD
        have hd7 : DiceAt G' d := by
          obtain ⟨a, b, c, e⟩ := hd6
          exact ⟨a, b, c, sm' _ _ e⟩
        have sx7 : SameX d H G' := fun b o n q => sm' _ _ (sx6 b o n q)
        refine ⟨D, _, rfl, .inl (.inl (.inl eD)), _, _, rfl, rfl, _, rfl, ite2 (fun c => ?_) (fun c => ?_)⟩
        rotate_left
        · exact fin ls _ none hV hex (sm' _ _ e6) sx7 hd7
        refine ⟨_, rfl, ⟨.inl ⟨rfl, _, .inl (.inl (sm' _ _ e6))⟩, ?_⟩⟩
        refine ⟨_, rfl, p, _, (j : Nat), j, .str (showL y), rfl, rfl, sm' _ _ e6, by omega, by omega, ?_, ?_, ?_⟩
        · rw [List.length_map, List.length_map]
          exact seqI (by omega) (by omega)
        · rw [List.getElem?_map, List.getElem?_map, hy]
          rfl
        · rw [erase_map, erase_map]
          refine fin _ _ none (hV.del hy pry) ?_ upd_same (fun b o n q => by
            rw [upd_ne (ne_of_none q np)]
            exact sx7 b o n q) (dice_upd hd7 npd)
          have c : (2 : Int) < ((((ls.filter fun x => decide (pre4 x = pre4 y)).map showL).map V.str).length : Nat) := of_decide_eq_true c
          rw [List.length_map, List.length_map] at c
          have ec := erase_cnt (fun x => decide (pre4 x = pre4 y)) ls j
          have pos : 0 < ((ls.eraseIdx j).filter fun x => decide (pre4 x = pre4 y)).length := by omega
          obtain ⟨x, mx⟩ := List.exists_mem_of_length_pos pos
          obtain ⟨m1, m2⟩ := List.mem_filter.mp mx
          refine ⟨x, m1, ?_⟩
          rw [← pre_pr x, of_decide_eq_true m2, pre_pr y]
          exact pry
end
end Kl
set_option maxRecDepth 100000
set_option maxHeartbeats 4000000
namespace Kl
open PySem PySem.Spec PyProof.Rows L2 Gx Mx
section
variable {P : Program} {w : World} {K : PySem.W.Frag} {mg : Str → Option Value} {base : Heap}
theorem texts_nd {H : Hp} {l d : Addr} {z : Str} {zs : List V} (hd : DiceAt H d) (h : H l = some (.lst (V.str z :: zs))) : l ≠ d := fun e => by
  obtain ⟨a, b, c, q⟩ := hd
  rw [e, q] at h
  have h2 := HO.lst.inj (Option.some.inj h)
  cases (List.cons.inj h2).1
theorem books_nd {H : Hp} {l d : Addr} {ls : List PLine} (hd : DiceAt H d) (hl : ls ≠ []) (h : H l = some (.lst ((ls.map showL).map V.str))) : l ≠ d := by
  cases ls with
  | nil => exact absurd rfl hl
  | cons x ls => exact texts_nd hd h
def spDl : Sp := fun vs H Q _ => ∃ d : Addr, vs = [.ref d] ∧ DiceAt H d ∧ ∀ k p ls H', SameX d H H' → DiceAt H' d → VarL (wbk k) ls → p ≠ d → H' p = some (.lst ((ls.map showL).map V.str)) → Q (.ref p) H'
theorem ok_dl {f : Addr} {fd : FuncData} (F : Fun K "_law_drawn_lines" "_law_drawn_lines" s_law_drawn_lines f fd) (T : Top K mg) : FnOk P w K mg base CX0 4 f fd ["_law_dice_here"] spDl := by
  have cr : Cal P w K mg base 3 "_law_roll" ["_law_dice_here", "_law_total"] spRoll := (T.d_law_roll.cal fun f fd F => ok_roll F T).mono (by decide)
  have cw : Cal P w K mg base 3 "_law_written_book" ["_law_way"] spWB := T.d_law_written_book.cal fun f fd F => ok_wb F T
  have cc : Cal P w K mg base 3 "_law_changed" ["_law_dice_here", "_law_lines"] (spCh K) := T.d_law_changed.cal fun f fd F => ok_ch F T
  refine F.ok sc_law_drawn_lines (fun vs H Q E h => ?_) (fun cdv A outer s H vs Q E hr h => ?_)
  · obtain ⟨d, rfl, _⟩ := h
    rfl
  · obtain ⟨d, rfl, hd, q⟩ := h
    refine ⟨_, pss_one (ps_ret (pe_cal cc hr (by rfl) (pa_cons (pv 0) (pa_cons (pe_cal cw hr (by rfl) (pa_cons (pe_cal cr hr (by rfl) (pa_cons (pv 0) (pa_cons pe_int pa_nil))) pa_nil)) pa_nil)))), ?_⟩
    refine ⟨_, rfl, _, rfl, d, 6, rfl, hd, by omega, by decide, fun r x b c h0 h1 => ?_⟩
    obtain ⟨k, rfl⟩ := Int.eq_ofNat_of_zero_le h0
    have hk : k < 6 := by omega
    refine ⟨k, rfl, hk, fun l H1 s1 e1 => ?_⟩
    have B := wbk_ok k
    have sx1 : SameX d H H1 := fun b' o n q => s1 _ _ (by rw [upd_ne n]; exact q)
    have hd1 : DiceAt H1 d := by
      obtain ⟨a', b', c', e⟩ := dice_new (H := H) (d := d) x b c
      exact ⟨a', b', c', s1 _ _ e⟩
    have nb : wbk k ≠ [] := fun e => by
      obtain ⟨x, m, _⟩ := B.pr
      rw [e] at m
      cases m
    exact ⟨d, l, wbk k, rfl, hd1, .inl (.inl e1), books_nd hd1 nb e1, B.ok, B.few, B.pr, fun p ls H' np sx2 hd2 hV e2 => q k p ls H' (sx1.trans sx2) hd2 hV (dice_ne hd1 np) e2⟩
def spMk (P : Program) (w : World) (K : PySem.W.Frag) (C : Addr) : Sp := fun vs H Q _ => ∃ (p : Addr) (S : Bk), vs = [.ref p] ∧ PlainAt P w K H p S ∧ Vld S.leaf S.maks ∧
  ∀ (x md : Addr) (M' : Mak) (ns : List Str) H', KindsAt C H' x md S.leaf M' ns → OrdOf S.maks M' → IsNames S.leaf (keysOf S.maks) ns → H x = none → Same H H' → Q (.ref x) H'
theorem ok_mk {C f : Addr} {fd : FuncData} (F : Fun K "_law_made_kinds" "_law_made_kinds" s_law_made_kinds f fd) (T : Top K mg) (TC : Cl_Kinds K mg C) : FnOk P w K mg base CX0 8 f fd ["_law_plain_here"] (spMk P w K C) := by
  have kI : CalI P w K mg base C 6 ["self", "leaf", "makings"] (spInit C) := by
    obtain ⟨f, fd, m, F, b⟩ := TC.made
    exact ⟨f, fd, m, ok_init F T TC, b⟩
  refine F.ok sc_law_made_kinds (fun vs H Q E h => ?_) (fun cdv A outer s H vs Q E hr h => ?_)
  · obtain ⟨p, S, rfl, _⟩ := h
    rfl
  · obtain ⟨p, S, rfl, ⟨m, e, r, s', g, hI⟩, hV, q⟩ := h
    have hu := hu_of hr
    refine ⟨_, pss_one (ps_ret (pe_makeC kI hr (by rfl) TC.gC (pa_cons (pe_dget hu (pv 0) pe_str (fun _ _ => rfl)) (pa_cons (pe_dget hu (pv 0) pe_str (fun _ _ => rfl)) pa_nil)))), ?_⟩
    refine ⟨_, rfl, p, _, rfl, hI.get kvP_l, _, rfl, p, _, rfl, hI.get kvP_m, fun x dx nx ndx nxx => ?_⟩
    refine init_by hI.hm hV nx ndx fun G2 md M' ns hK hO hN s2 => ⟨rfl, q x md M' ns G2 hK hO hN nx s2⟩
end
end Kl
set_option maxRecDepth 100000
set_option maxHeartbeats 4000000
namespace Kl
open PySem PySem.Spec PyProof.Rows L2 Gx Mx
theorem take_empty {r : List Str} {ms : List (List Str)} (h : leftM r ms ≠ none) : ∀ {j : Nat} {m : List Str}, ms[j]? = some m → ∃ r' r2, leftM r (ms.take j) = some r' ∧ m ≠ [] ∧ takeAll r' m = some r2 ∧ leftM r (ms.take (j + 1)) = some r2 := by
  intro j m hm
  have e : ms = ms.take j ++ ms.drop j := (List.take_append_drop j ms).symm
  have h1 : leftM r (ms.take j) ≠ none := fun q => by
    rw [e, left_app, q] at h
    exact h rfl
  obtain ⟨r', hr'⟩ : ∃ r', leftM r (ms.take j) = some r' := by
    cases c : leftM r (ms.take j) with
    | none => exact absurd c h1
    | some r' => exact ⟨r', rfl⟩
  have nm : m ≠ [] := fun q => h (left_bad hr' hm (.inl q))
  obtain ⟨r2, hr2⟩ : ∃ r2, takeAll r' m = some r2 := by
    cases c : takeAll r' m with
    | none => exact absurd (left_bad hr' hm (.inr c)) h
    | some r2 => exact ⟨r2, rfl⟩
  exact ⟨r', r2, hr', nm, hr2, left_go hr' hm nm hr2⟩
theorem left_len : ∀ (ms : List (List Str)) {r r' : List Str}, leftM r ms = some r' → r'.length ≤ r.length
  | [], r, r', h => by cases h; exact Nat.le_refl _
  | m :: ms, r, r', h => by
    unfold leftM at h
    split at h
    · cases h
    · cases c : takeAll r m with
      | none => rw [c] at h; cases h
      | some r2 =>
        rw [c] at h
        have h1 := left_len ms (show leftM r2 ms = some r' from h)
        have h2 := (take_len m c).1
        omega
section
variable {P : Program} {w : World} {K : PySem.W.Frag} {mg : Str → Option Value} {base : Heap}
def spLs (P : Program) (w : World) (K : PySem.W.Frag) : Sp := fun vs H Q _ => ∃ (p : Addr) (S : Bk) (note : Str) (pp : Addr) (pool : List Str), vs = [.ref p, .str note, .ref pp] ∧ PlainAt P w K H p S ∧ BkV S ∧ SqT K H pp (pool.map V.str) ∧ pool.length ≤ 100 ∧
  ∀ t a b H', Same H H' → SqT K H' t [.ref a, .ref b, .str (stepM S.maks S.pg note pool).2.2] → SqT K H' a ((stepM S.maks S.pg note pool).1.map V.str) → SqT K H' b ((stepM S.maks S.pg note pool).2.1.map V.str) → Q (.ref t) H'
theorem ok_ls {f : Addr} {fd : FuncData} (F : Fun K "_law_step" "_law_step" s_law_step f fd) (T : Top K mg) : FnOk P w K mg base CX0 2 f fd ["_law_plain_here", "_law_note", "_law_pool"] (spLs P w K) := by
  have cw : Cal P w K mg base 1 "_law_without" ["_law_pool", "_law_parts"] (spWo K) := T.d_law_without.cal fun f fd F => ok_wt F T
  refine F.ok sc_law_step (fun vs H Q E h => ?_) (fun cdv A outer s H vs Q E hr h => ?_)
  · obtain ⟨p, S, note, pp, pool, rfl, _⟩ := h
    rfl
  · obtain ⟨p, S, note, pp, pool, rfl, ⟨m, e, r, s', g, hI⟩, hB, hpp, l100, q⟩ := h
    have hu := hu_of hr
    refine ⟨_, pss_cut (ps_if (pt_cmp (pc_nnotin (P := P) (w := w) (K := K) (by exact ⟨rfl, rfl, rfl⟩) (by exact hr.units) (pe_tup (pa_cons (pv 1) (pa_cons (pv 2) pa_nil))) (pe_dget hu (pv 0) pe_str (fun _ _ => rfl)))) (pss_one (ps_ret (pe_tup (pa_cons (pv 2) (pa_cons (pe_tup pa_nil) (pa_cons (pv 1) pa_nil)))))) pss_nil)
      (pss_cut (ps_asg (pe_nget (P := P) (w := w) (K := K) (by exact ⟨rfl, rfl, rfl⟩) (by exact hr.units) (pe_dget hu (pv 0) pe_str (fun _ _ => rfl)) (pe_tup (pa_cons (pv 1) (pa_cons (pv 2) pa_nil))) (fun _ _ => rfl)) (pg_tup rfl (pgs_cons (pg_name (i := 3) sc_law_step.nd rfl (.inl rfl)) (pgs_cons (pg_name (i := 4) sc_law_step.nd rfl (.inl rfl)) pgs_nil))))
      (pss_cut (ps_set (i := 5) sc_law_step.nd rfl (.inl rfl) (pv 2))
      (pss_cut (ps_for PassesOwn.never rfl (pi_tup (pv 3)) (pg_name (i := 6) sc_law_step.nd rfl (.inl rfl))
        (pss_one (ps_set (i := 5) sc_law_step.nd rfl (.inl rfl) (pe_cal cw hr (by rfl) (pa_cons (pv 5) (pa_cons (pe_dget hu (pe_dget hu (pv 0) pe_str (fun _ _ => rfl)) (pv 6) (fun _ _ => rfl)) pa_nil))))))
      (pss_one (ps_ret (pe_tup (pa_cons (pv 5) (pa_cons (pv 3) (pa_cons (pv 4) pa_nil))))))))), ?_⟩
    have big : 100000 ≤ sizeLine := by decide
    obtain ⟨L, eg, hL⟩ := hI.hg
    refine ⟨fun σ' G => ∃ g0 ∈ S.pg, placeP g0 = (note, pool) ∧ (∃ v, getN L (keyK (note, pool)) = some v ∧ RVal K H v g0) ∧ σ' = [some (.ref p), some (.str note), some (.ref pp), none, none, none, none] ∧ Same H G, ?_, ?_⟩
    · refine ⟨_, rfl, _, rfl, by show 2 ≤ sizeLine; omega, fun b1 n1 => ?_⟩
      have s1 := same_new (o := .tup [V.str note, .ref pp]) (Same.refl H) n1
      have eb : (upd H b1 (.tup [V.str note, .ref pp])) b1 = some (.tup [V.str note, .ref pp]) := upd_same
      generalize upd H b1 (.tup [V.str note, .ref pp]) = G1 at *
      have ka : KeyA K G1 b1 (keyK (note, pool)) := keyK_mk (.inl (.inl eb)) (sqT_same s1 hpp)
      refine ⟨_, rfl, p, _, rfl, (hI.same s1).get kvP_g, g, b1, L, keyK (note, pool), rfl, rfl, ⟨.inl (s1 _ _ eg), fun e m => keyA_same s1 (hL.all e m)⟩, ka, ?_⟩
      rcases hL.of_key hB.nd.pg (note, pool) with ⟨no, en⟩ | ⟨g0, mg0, eq0, v, ev, rv⟩
      · rw [en]
        refine ⟨_, rfl, ?_⟩
        refine iteT rfl ?_
        have est : stepM S.maks S.pg note pool = (pool, [], note) := by
          unfold stepM
          rw [pageOf_none no]
        refine ⟨_, rfl, Nat.zero_le _, fun b2 n2 => ⟨_, rfl, by show 3 ≤ sizeLine; omega, fun b3 n3 => ?_⟩⟩
        have s2 := same_new (o := .tup []) s1 n2
        have s3 := same_new (o := .tup [V.ref pp, .ref b2, .str note]) s2 n3
        rw [est] at q
        exact q b3 pp b2 _ s3 (.inl (.inl upd_same)) (sqT_same s3 hpp) (.inl (.inl (by rw [upd_ne (ne_of_none upd_same n3)]; exact upd_same)))
      · rw [ev]
        refine ⟨_, rfl, ?_⟩
        refine iteF (by simp) ?_
        exact ⟨g0, mg0, eq0, ⟨v, rfl, rv⟩, rfl, s1⟩
    rintro σ' G1 ⟨g0, mg0, eq0, ⟨v, ev, t0, m0, rfl, ht, hm⟩, rfl, s1⟩
    obtain ⟨okg, inn, fit⟩ := hB.fit g0 mg0
    have en : g0.note = note := congrArg Prod.fst eq0
    have eq : g0.pool = pool := congrArg Prod.snd eq0
    have est : stepM S.maks S.pg note pool = (restM S.maks g0, g0.made, g0.after) := by
      unfold stepM
      rw [← en, ← eq, pageOf_some hB.nd.pg mg0]
    rw [est] at q
    refine ⟨fun σ' G => σ' = [some (.ref p), some (.str note), some (.ref pp), some (.ref m0), some (.str g0.after), none, none] ∧ Same H G, ?_, ?_⟩
    · refine ⟨_, rfl, p, _, rfl, (hI.same s1).get kvP_g, _, rfl, _, rfl, by show 2 ≤ sizeLine; omega, fun b1 n1 => ?_⟩
      have s2 := same_new (o := .tup [V.str note, .ref pp]) (Same.refl G1) n1
      have eb : (upd G1 b1 (.tup [V.str note, .ref pp])) b1 = some (.tup [V.str note, .ref pp]) := upd_same
      generalize upd G1 b1 (.tup [V.str note, .ref pp]) = G2 at *
      have s12 := s1.trans s2
      have ka : KeyA K G2 b1 (keyK (note, pool)) := keyK_mk (.inl (.inl eb)) (sqT_same s12 hpp)
      exact ⟨g, b1, L, keyK (note, pool), _, rfl, rfl, ⟨.inl (s12 _ _ eg), fun e m => keyA_same s12 (hL.all e m)⟩, ka, ev, _, _, rfl, sqT_same s12 ht, rfl, _, _, rfl, _, _, rfl, rfl, rfl, s12⟩
    rintro σ' G2 ⟨rfl, s2⟩
    refine ⟨fun σ' G => σ' = [some (.ref p), some (.str note), some (.ref pp), some (.ref m0), some (.str g0.after), some (.ref pp), none] ∧ Same H G, ⟨_, rfl, rfl, s2⟩, ?_⟩
    rintro σ' G3 ⟨rfl, s3⟩
    refine ⟨fun σ' G => ∃ (a : Addr) (t6 : Option V), σ' = [some (.ref p), some (.str note), some (.ref pp), some (.ref m0), some (.str g0.after), some (.ref a), t6] ∧ SqT K G a ((restM S.maks g0).map V.str) ∧ Same H G, ?_, ?_⟩
    · refine ⟨_, rfl, m0, rfl, ⟨_, sqT_same s3 hm⟩, ?_⟩
      refine for_it (walk_tup (K := K) (a := m0) (xs := g0.made.map V.str)) (fun j σ' G => ∃ (a : Addr) (r : List Str) (t6 : Option V), σ' = [some (.ref p), some (.str note), some (.ref pp), some (.ref m0), some (.str g0.after), some (.ref a), t6] ∧ leftM g0.pool ((partsM S.maks g0).take j) = some r ∧ SqT K G a (r.map V.str) ∧ Same H G)
        ⟨pp, pool, none, rfl, by rw [List.take_zero, ← eq]; rfl, sqT_same s3 hpp, s3⟩ (fun j σ' G _ h => by obtain ⟨_, _, _, _, _, _, s⟩ := h; exact sqT_same s hm) (fun j v σ' Gx G hj h hy => ?_) (fun σ' G h => ?_)
      · obtain ⟨a, r1, t6, rfl, hr1, ha, s⟩ := h
        obtain ⟨rfl, hv⟩ := hy
        obtain ⟨z, hz, rfl⟩ := at_texts hv
        have hz2 : (partsM S.maks g0)[j]? = some ((lookM S.maks z).getD []) := by
          unfold partsM
          rw [List.getElem?_map, hz]
          rfl
        obtain ⟨r', r2, e1, nm, e2, e3⟩ := take_empty fit hz2
        rw [hr1] at e1
        cases e1
        have kz : z ∈ keysOf S.maks := by
          refine Classical.byContradiction fun n => nm ?_
          rw [lookM_none.mpr n]
          rfl
        have hIG := hI.same s
        obtain ⟨kvs, em, hM⟩ := hIG.hm
        obtain ⟨ps, ta, hps, hval, htz⟩ := hM.key kz
        rw [hps] at e2 hz2
        have e2 : takeAll r1 ps = some r2 := e2
        have lps : ps.length ≤ 3 := (hB.vld.parts _ (lookM_some hps)).2.2.1
        have lr1 : r1.length ≤ 100 := by
          have h1 : r1.length ≤ g0.pool.length := left_len _ hr1
          rw [eq] at h1
          omega
        have dg : DGet G m (.str z) (some (.ref ta)) := by
          have := DGet.k (k := Sum.inr z) em
          rw [hval] at this
          exact this
        refine ⟨_, rfl, _, rfl, p, _, rfl, hIG.get kvP_m, _, rfl, m, _, rfl, dg, a, ta, r1, ps, rfl, ha, htz.sq, lr1, by omega, fun t r3 H' e4 s' ht' => ?_, fun H' e4 => ?_⟩
        · rw [e2] at e4
          cases e4
          exact ⟨t, _, _, rfl, e3, .inl (.inl ht'), s.trans s'⟩
        · rw [e2] at e4
          cases e4
      · obtain ⟨a, r1, t6, rfl, hr1, ha, s⟩ := h
        rw [List.length_map] at hr1
        rw [List.take_of_length_le (by unfold partsM; rw [List.length_map]; exact Nat.le_refl _)] at hr1
        refine ⟨a, t6, rfl, ?_, s⟩
        unfold restM
        rw [hr1]
        exact ha
    rintro σ' G4 ⟨a, t6, rfl, ha, s4⟩
    refine ⟨_, rfl, _, rfl, _, rfl, by show 3 ≤ sizeLine; omega, fun b nb => ?_⟩
    have s5 := same_new (o := .tup [V.ref a, .ref m0, .str g0.after]) (Same.refl G4) nb
    exact q b a m0 _ (s4.trans s5) (.inl (.inl upd_same)) (sqT_same s5 ha) (sqT_same (s4.trans s5) hm)
end
end Kl
set_option maxRecDepth 100000
set_option maxHeartbeats 4000000
namespace Kl
open PySem PySem.Spec PyProof.Rows L2 Gx Mx LamX
theorem bk_two {leaf : Str} {M : Mak} (v : Vld leaf M) : ∀ z ps, lookM M z = some ps → 2 ≤ ps.length ∧ ps.length ≤ 3 := fun z ps e => by
  obtain ⟨_, a, b, _⟩ := v.parts _ (lookM_some e)
  exact ⟨a, b⟩
theorem bk_fit {S : Bk} (h : BkV S) : ∀ g ∈ S.pg, FitP (S.leaf :: keysOf S.maks) S.maks g := fun g m => by
  obtain ⟨a, b, c⟩ := h.fit g m
  exact ⟨a, fun z mz => List.mem_cons.mpr (b z mz), c⟩
section
variable {P : Program} {w : World} {K : PySem.W.Frag} {mg : Str → Option Value} {base : Heap}
def spLR (P : Program) (w : World) (K : PySem.W.Frag) : Sp := fun vs H Q _ => ∃ p note pd c0, ∃ (S : Bk) (cs0 : List Str) (LL : List (Addr × List Str)), vs = [V.ref p, .str note, .ref pd, .ref c0] ∧ PlainAt P w K H p S ∧ BkV S ∧ nameB note = true ∧
  RowAt K H pd LL ∧ LL.length ≤ 402 ∧ (∀ q ∈ LL, goodB q.2 = true ∧ q.2.length ≤ 18) ∧ SqT K H c0 (cs0.map V.str) ∧ goodM 20 cs0 = true ∧ cs0.length ≤ 2 ∧
  ∀ (t ra ga : Addr) (L2 : List (Addr × List Str)) (xs : List Addr) (rs : List (List Str)) (ss : List (List Str × List Str × Str)) (n : Nat) H', Same H H' → SqT K H' t [.ref ra, .ref ga] → RowAt K H' ra L2 → L2.map (·.2) = rs.take n → IsEnd rs n → SqT K H' ga (xs.map V.ref) → StpsAt K H' xs ss → RunR (stepM S.maks S.pg) (LL.map (·.2)) cs0 note rs ss → ss.length ≤ LL.length + 2 → Q (.ref t) H'
theorem ok_lr {f : Addr} {fd : FuncData} (F : Fun K "_law_run" "_law_run" s_law_run f fd) (T : Top K mg) : FnOk P w K mg base CX0 4 f fd ["_law_plain_here", "_law_note", "_law_digits", "_law_brought"] (spLR P w K) := by
  have cs : Cal P w K mg base 3 "_law_step" ["_law_plain_here", "_law_note", "_law_pool"] (spLs P w K) := (T.d_law_step.cal fun f fd F => ok_ls F T).mono (by decide)
  have cc : Cal P w K mg base 3 "_law_cut" ["_law_digits"] (spCut K) := (T.d_law_cut.cal fun f fd F => ok_cut F T).mono (by decide)
  refine F.ok sc_law_run (fun vs H Q E h => ?_) (fun cdv A outer s H vs Q E hr h => ?_)
  · obtain ⟨p, note, pd, c0, S, cs0, LL, rfl, _⟩ := h
    rfl
  · obtain ⟨p, note, pd, c0, S, cs0, LL, rfl, hP, hB, hn, hR, l402, hg, h0, hc0, lc0, q⟩ := h
    refine ⟨_, pss_cut (ps_par3 (i := 4) (j := 5) (l := 6) rfl sc_law_run.nd rfl rfl rfl (by decide) (by decide) (by decide) rfl rfl rfl (pa_cons (pe_lst pa_nil) (pa_cons (pe_lst pa_nil) (pa_cons pe_int pa_nil))) (by kernel_rfl))
      (pss_cut (ps_while PassesOwn.never (PW.pt (pw_or (pt_cmpR op_lt (pv 6) (pe_callB call_len_seq (by rfl) T.b_len PySem.boot_len (pa_cons (pv 2) pa_nil)) (nomark _)) (pw_or1 (pt_cmpR (op_neD hr.units) (pv 3) (pe_tup pa_nil) (by rfl)))))
        (pss_cut (ps_set (i := 7) sc_law_run.nd rfl (.inl rfl) (pe_callTy call_tuple_of (by rfl) T.b_tuple (by decide +kernel) (pa_cons (pe_callB cr_sortedTS (by rfl) T.b_sorted (by decide +kernel) (pa_cons (pe_op op_catS (pe_ifExp (pt_cmpR op_lt (pv 6) (pe_callB call_len_seq (by rfl) T.b_len PySem.boot_len (pa_cons (pv 2) pa_nil)) (nomark _)) (pe_ix ix_tup (pv 2) (pv 6) (fun _ _ => rfl)) (pe_tup pa_nil)) (pv 3)) pa_nil)) pa_nil)))
        (pss_cut (ps_asg (pe_cal cs hr (by rfl) (pa_cons (pv 0) (pa_cons (pv 1) (pa_cons (pv 7) pa_nil)))) (pg_tup rfl (pgs_cons (pg_name (i := 8) sc_law_run.nd rfl (.inl rfl)) (pgs_cons (pg_name (i := 3) sc_law_run.nd rfl (.inl rfl)) (pgs_cons (pg_name (i := 1) sc_law_run.nd rfl (.inl rfl)) pgs_nil)))))
        (pss_cut (ps_expr (pe_bm PySem.F.plainAttrs_list PySem.F.slot_list_append PySem.F.type_list_append mt_append (pv 4) (pa_cons (pv 8) pa_nil)))
        (pss_cut (ps_expr (pe_bm PySem.F.plainAttrs_list PySem.F.slot_list_append PySem.F.type_list_append mt_append (pv 5) (pa_cons (pe_tup (pa_cons (pv 7) (pa_cons (pv 3) (pa_cons (pv 1) pa_nil)))) pa_nil)))
        (pss_one (ps_set (i := 6) sc_law_run.nd rfl (.inl rfl) (pe_op op_add (pv 6) pe_int))))))))
      (pss_one (ps_ret (pe_tup (pa_cons (pe_cal cc hr (by rfl) (pa_cons (pv 4) pa_nil)) (pa_cons (pe_callTy call_tuple_of (by rfl) T.b_tuple (by decide +kernel) (pa_cons (pv 5) pa_nil)) pa_nil)))))), ?_⟩
    have big : 100000 ≤ sizeLine := by decide
    have fit := bk_fit hB
    have two := bk_two hB.vld
    have g20 : ∀ q ∈ LL, goodM 20 q.2 = true := fun q m => (hg q m).1
    have okp : ∀ g ∈ S.pg, PgOk g := fun g mg => (hB.fit g mg).1
    refine ⟨fun σ' G => ∃ nl gl : Addr, σ' = [some (.ref p), some (.str note), some (.ref pd), some (.ref c0), some (.ref nl), some (.ref gl), some (.int 0), none, none] ∧ G nl = some (.lst []) ∧ G gl = some (.lst []) ∧ H nl = none ∧ H gl = none ∧ nl ≠ gl ∧ Same H G, ?_, ?_⟩
    · refine ⟨Nat.zero_le _, fun nl nn => ⟨Nat.zero_le _, fun gl ng => ⟨_, _, _, rfl, ?_⟩⟩⟩
      have s1 := same_new (o := .lst []) (Same.refl H) nn
      have e1 : (upd H nl (.lst [])) nl = some (.lst []) := upd_same
      exact ⟨nl, gl, rfl, by rw [upd_ne (ne_of_none e1 ng)]; exact e1, upd_same, nn, s1.free ng, ne_of_none e1 ng, same_new s1 ng⟩
    rintro σ' G4 ⟨nl, gl, rfl, enl, egl, nnl, ngl, nng, s4⟩
    refine ⟨fun σ' G => ∃ (n' : Str) (c : Addr) (LN : List (Addr × List Str)) (xs : List Addr) (ss : List (List Str × List Str × Str)) (t6 t7 t8 : Option V), σ' = [some (.ref p), some (.str n'), some (.ref pd), some (.ref c), some (.ref nl), some (.ref gl), t6, t7, t8] ∧ G nl = some (.lst (LN.map fun q => V.ref q.1)) ∧ TxtsAt K G LN ∧ G gl = some (.lst (xs.map V.ref)) ∧ StpsAt K G xs ss ∧ Same H G ∧
        RunR (stepM S.maks S.pg) (LL.map (·.2)) cs0 note (LN.map (·.2)) ss ∧ (∀ q ∈ LN, goodB q.2 = true) ∧ LN.length = ss.length ∧ ss.length ≤ LL.length + 2, ?_, ?_⟩
    · let W : Nat → L2.St → Hp → Prop := fun k σ' G => ∃ (n' : Str) (c : Addr) (cs : List Str) (LN : List (Addr × List Str)) (xs : List Addr) (ss : List (List Str × List Str × Str)) (t7 t8 : Option V), σ' = [some (.ref p), some (.str n'), some (.ref pd), some (.ref c), some (.ref nl), some (.ref gl), some (.int (ss.length : Nat)), t7, t8] ∧ G nl = some (.lst (LN.map fun q => V.ref q.1)) ∧ TxtsAt K G LN ∧ G gl = some (.lst (xs.map V.ref)) ∧ StpsAt K G xs ss ∧ Same H G ∧ SqT K G c (cs.map V.str) ∧
          (∀ rs2 ss2, RunR (stepM S.maks S.pg) ((LL.map (·.2)).drop ss.length) cs n' rs2 ss2 → RunR (stepM S.maks S.pg) (LL.map (·.2)) cs0 note (LN.map (·.2) ++ rs2) (ss ++ ss2)) ∧ (∀ q ∈ LN, goodB q.2 = true) ∧ LN.length = ss.length ∧ nameB n' = true ∧ cs.length ≤ 2 ∧ (∀ z ∈ cs, nameB z = true) ∧ k = 3 * (LL.length - ss.length) + cs.length ∧ (ss.length ≤ LL.length ∨ ss.length + cs.length ≤ LL.length + 2)
      refine ⟨W, ⟨3 * LL.length + cs0.length, note, c0, cs0, [], [], [], none, none, rfl, enl, nofun, egl, .nil, s4, sqT_same s4 h0, fun rs2 ss2 h => h, nofun, rfl, hn, lc0, good_names hc0, rfl, .inl (Nat.zero_le _)⟩, fun k σ' G hW => ?_⟩
      obtain ⟨n', c, cs, LN, xs, ss, t7, t8, rfl, eN, hT, eG, hS, sG, hc, cont, gN, lN, hn', l2, hcn, rfl, bound⟩ := hW
      have hRG := hR.same sG
      have lxs : xs.length = ss.length := Paired.length hS
      have okc : ∀ z ∈ cs, PyData.strOk z = true := fun z m => names_low (hcn z m)
      have ldig : ((LL[ss.length]?.map (·.2)).getD []).length ≤ 18 ∧ ∀ z ∈ (LL[ss.length]?.map (·.2)).getD [], nameB z = true := by
        cases e : LL[ss.length]? with
        | none => exact ⟨Nat.zero_le _, nofun⟩
        | some q0 =>
          have mq := List.mem_of_getElem? e
          exact ⟨(hg q0 mq).2, good_names (g20 q0 mq)⟩
      have ehd : ((LL.map (·.2)).drop ss.length).headD [] = (LL[ss.length]?.map (·.2)).getD [] := by
        rw [List.headD_eq_head?_getD, List.head?_drop, List.getElem?_map]
      generalize hdig : (LL[ss.length]?.map (·.2)).getD [] = dig at ldig ehd
      refine ⟨_, rfl, _, rfl, pd, _, rfl, .inr hRG.e, _, _, rfl, rfl, _, rfl, ite2 (fun c1 => ?_) (fun c1 => ?_)⟩
      rotate_left
      have le : LL.length ≤ ss.length := by
        have h : ¬ ((ss.length : Nat) : Int) < ((LL.length : Nat) : Int) := fun h => c1 (decide_eq_true (by rw [List.length_map]; exact h))
        omega
      refine ⟨_, rfl, Nat.zero_le _, fun e0 ne0 => ?_⟩
      have s2 := same_new (o := .tup []) (Same.refl G) ne0
      have ee : (upd G e0 (.tup [])) e0 = some (.tup []) := upd_same
      generalize upd G e0 (.tup []) = G2' at *
      refine ⟨.tuple (tD cs), .tuple (tD []), .tup (sqT_same s2 hc) (dp_texts _), .tup (.inl (.inl ee)) (dp_texts []), shaped_textsT okc, shaped_textsT (fun z hz => nomatch hz), ?_⟩
      rw [PyData.eqv, eqv_texts]
      refine ⟨_, rfl, ?_⟩
      by_cases c2 : cs = []
      · rw [decide_eq_true c2]
        refine iteF (by decide) ?_
        subst c2
        have fin := cont [] [] (by rw [List.drop_eq_nil_of_le (by rw [List.length_map]; exact le)]; exact .nil)
        rw [List.append_nil, List.append_nil] at fin
        exact ⟨n', c, LN, xs, ss, _, t7, t8, rfl, s2 _ _ eN, fun q m => sqT_same s2 (hT q m), s2 _ _ eG, hS.go fun _ _ h => sqT_same s2 h, sG.trans s2, fin, gN, lN, by omega⟩
      rw [decide_eq_false c2]
      refine iteT (by decide) ?_
      have hgo : ss.length < LL.length ∨ cs ≠ [] := .inr c2
      clear ee ne0 c1 le c2
      rotate_left
      have hgo : ss.length < LL.length ∨ cs ≠ [] := .inl (by
        have c2 := of_decide_eq_true c1
        rw [List.length_map] at c2
        omega)
      obtain ⟨G2', eG2, s2⟩ : ∃ G2', G2' = G ∧ Same G G2' := ⟨G, rfl, Same.refl G⟩
      rw [← eG2]
      clear c1 eG2
      all_goals replace sG := sG.trans s2
      all_goals replace eN := s2 _ _ eN
      all_goals replace eG := s2 _ _ eG
      all_goals replace hT : TxtsAt K G2' LN := fun q m => sqT_same s2 (hT q m)
      all_goals replace hS : StpsAt K G2' xs ss := hS.go fun _ _ h => sqT_same s2 h
      all_goals replace hc := sqT_same s2 hc
      all_goals replace hRG := hRG.same s2
      all_goals clear s2
      all_goals (
        refine ⟨fun σ' G' => ∃ k', k' < 3 * (LL.length - ss.length) + cs.length ∧ W k' σ' G', fun _ _ h => h, ?_⟩
        refine ⟨fun σ' G' => ∃ (pp : Addr) (zs : List Str), σ' = [some (.ref p), some (.str n'), some (.ref pd), some (.ref c), some (.ref nl), some (.ref gl), some (.int (ss.length : Nat)), some (.ref pp), t8] ∧ SqT K G' pp (zs.map V.str) ∧ zs.Perm (dig ++ cs) ∧ sortedS zs = true ∧ Same G2' G', ?_, ?_⟩
        · refine ⟨_, rfl, _, rfl, pd, _, rfl, .inr hRG.e, _, _, rfl, rfl, _, rfl, ite2 (fun c1 => ?_) (fun c1 => ?_)⟩
          · have lt : ss.length < LL.length := by
              have c2 := of_decide_eq_true c1
              rw [List.length_map] at c2
              omega
            have hq : LL[ss.length]? = some LL[ss.length] := List.getElem?_eq_getElem lt
            have ed : LL[ss.length].2 = dig := by rw [← hdig, hq]; rfl
            have h1 := hRG.t _ (List.mem_of_getElem? hq)
            rw [ed] at h1
            refine ⟨_, rfl, _, rfl, pd, _, _, .ref LL[ss.length].1, rfl, rfl, hRG.e, atI_nat (by rw [List.getElem?_map, hq]; rfl), ?_⟩
            have s3 := Same.refl G2'
            generalize LL[ss.length].1 = a1 at h1
            refine ⟨_, rfl, a1, c, _, _, rfl, rfl, h1, sqT_same s3 hc, by rw [List.length_map, List.length_map]; omega, fun p1 G4 s4 hp1 => ?_⟩
            rw [← List.map_append] at hp1
            refine ⟨p1, dig ++ cs, rfl, hp1, by rw [List.length_append]; omega, fun zs p2 hperm hsrt n2 => ?_⟩
            have s5 := same_new (o := .lst (zs.map V.str)) (s3.trans s4) n2
            refine ⟨p2, _, rfl, .inl ⟨.inl (.inl upd_same), fun p3 n3 => ?_⟩⟩
            exact ⟨p3, zs, rfl, .inl (.inl upd_same), hperm, hsrt, same_new s5 n3⟩
          · have ge : LL.length ≤ ss.length := by
              have h : ¬ ((ss.length : Nat) : Int) < ((LL.length : Nat) : Int) := fun h => c1 (decide_eq_true (by rw [List.length_map]; exact h))
              omega
            have ed : ([] : List Str) = dig := by rw [← hdig, List.getElem?_eq_none ge]; rfl
            refine ⟨Nat.zero_le _, fun a1 na1 => ?_⟩
            have s3 := same_new (o := .tup []) (Same.refl G2') na1
            have h1 : SqT K (upd G2' a1 (.tup [])) a1 (dig.map V.str) := .inl (.inl (by rw [← ed]; exact upd_same))
            generalize upd G2' a1 (.tup []) = G3 at *
            refine ⟨_, rfl, a1, c, _, _, rfl, rfl, h1, sqT_same s3 hc, by rw [List.length_map, List.length_map]; omega, fun p1 G4 s4 hp1 => ?_⟩
            rw [← List.map_append] at hp1
            refine ⟨p1, dig ++ cs, rfl, hp1, by rw [List.length_append]; omega, fun zs p2 hperm hsrt n2 => ?_⟩
            have s5 := same_new (o := .lst (zs.map V.str)) (s3.trans s4) n2
            refine ⟨p2, _, rfl, .inl ⟨.inl (.inl upd_same), fun p3 n3 => ?_⟩⟩
            exact ⟨p3, zs, rfl, .inl (.inl upd_same), hperm, hsrt, same_new s5 n3⟩
        rintro σ' G1 ⟨pp, zs, rfl, hpp, hperm, hsrt, u1⟩
        have lz : zs.length ≤ 20 := by
          have := hperm.length_eq
          rw [List.length_append] at this
          omega
        have hf := stepM_f fit (fun z ps e => (two z ps e).1) n' zs
        have zn : ∀ z ∈ zs, nameB z = true := fun z mz => by
          rcases List.mem_append.mp (hperm.mem_iff.mp mz) with h | h
          · exact ldig.2 z h
          · exact hcn z h
        obtain ⟨nm1, nm2, nm3⟩ := stepM_names (M := S.maks) okp hn' zn
        have lmade := hf.made
        have lhalf := hf.half
        have hst : RunR (stepM S.maks S.pg) (((LL.map (·.2)).drop ss.length).tail) (stepM S.maks S.pg n' zs).2.1 (stepM S.maks S.pg n' zs).2.2 = RunR (stepM S.maks S.pg) ((LL.map (·.2)).drop (ss.length + 1)) (stepM S.maks S.pg n' zs).2.1 (stepM S.maks S.pg n' zs).2.2 := by rw [List.tail_drop]
        have more : ∀ rs2 ss2, RunR (stepM S.maks S.pg) ((LL.map (·.2)).drop (ss.length + 1)) (stepM S.maks S.pg n' zs).2.1 (stepM S.maks S.pg n' zs).2.2 rs2 ss2 → RunR (stepM S.maks S.pg) (LL.map (·.2)) cs0 note ((LN.map (·.2) ++ [(stepM S.maks S.pg n' zs).1]) ++ rs2) ((ss ++ [(zs, (stepM S.maks S.pg n' zs).2.1, (stepM S.maks S.pg n' zs).2.2)]) ++ ss2) := fun rs2 ss2 h => by
          rw [← hst] at h
          have r := cont _ _ (RunR.step (pool := zs) (hgo.imp (fun h => fun z => by
            have := congrArg List.length z
            rw [List.length_drop, List.length_map] at this
            simp only [List.length_nil] at this
            omega) id) (by rw [ehd]; exact hperm) hsrt h)
          rw [List.append_assoc, List.append_assoc]
          exact r
        have gdig : goodB (stepM S.maks S.pg n' zs).1 = true := good_mk (m := 20) (Nat.le_trans hf.sub.length_le lz) nm1 (sortedS_sub hsrt hf.sub)
        have kk : ∃ k', k' < 3 * (LL.length - ss.length) + cs.length ∧ k' = 3 * (LL.length - (ss.length + 1)) + (stepM S.maks S.pg n' zs).2.1.length ∧ (ss.length + 1 ≤ LL.length ∨ (ss.length + 1) + (stepM S.maks S.pg n' zs).2.1.length ≤ LL.length + 2) := by
          refine ⟨_, ?_, rfl, ?_⟩
          · by_cases c1 : ss.length < LL.length
            · omega
            · have hcs0 : cs ≠ [] := hgo.resolve_left c1
              have l1 : 1 ≤ cs.length := List.length_pos_iff.mpr hcs0
              have d0 : dig = [] := by
                rw [← ehd, List.drop_eq_nil_of_le (by rw [List.length_map]; omega)]
                rfl
              have := hperm.length_eq
              rw [d0, List.length_append, List.length_nil] at this
              omega
          · by_cases c1 : ss.length < LL.length
            · exact .inl (by omega)
            · have hcs0 : cs ≠ [] := hgo.resolve_left c1
              have l1 : 1 ≤ cs.length := List.length_pos_iff.mpr hcs0
              have d0 : dig = [] := by
                rw [← ehd, List.drop_eq_nil_of_le (by rw [List.length_map]; omega)]
                rfl
              have := hperm.length_eq
              rw [d0, List.length_append, List.length_nil] at this
              exact .inr (by omega)
        clear hf
        obtain ⟨r, er⟩ : ∃ r, stepM S.maks S.pg n' zs = r := ⟨_, rfl⟩
        rw [er] at nm1 nm2 nm3 lmade lhalf more gdig kk
        clear hst
        obtain ⟨rd, rm, rn⟩ := r
        have sG1 := sG.trans u1
        obtain ⟨k', klt, ek, kb⟩ := kk
        refine ⟨fun σ' G' => ∃ a b : Addr, σ' = [some (.ref p), some (.str rn), some (.ref pd), some (.ref b), some (.ref nl), some (.ref gl), some (.int (ss.length : Nat)), some (.ref pp), some (.ref a)] ∧ SqT K G' a (rd.map V.str) ∧ SqT K G' b (rm.map V.str) ∧ Same G1 G', ?_, ?_⟩
        · refine ⟨_, rfl, _, rfl, _, rfl, p, S, n', pp, zs, rfl, hP.same sG1, hB, hpp, by omega, fun t a b G3 u3 h1 h2 h3 => ?_⟩
          rw [er] at h1 h2 h3
          exact ⟨_, _, rfl, h1, rfl, _, _, rfl, _, _, rfl, _, _, rfl, rfl, a, b, rfl, h2, h3, u3⟩
        rintro σ' G3 ⟨a, b, rfl, ha, hb, u3⟩
        have u13 := u1.trans u3
        have eN3 := u13 _ _ eN
        have eG3 := u13 _ _ eG
        have lLN : LN.length ≤ 1000 := by omega
        have bd : ∀ (d : Addr) (ys zs : List V), G3 d = some (.lst ys) → ∀ a xs, SqT K G3 a xs → SqT K (upd G3 d (.lst zs)) a xs := fun d ys zs e => (butD_of (fun b o n e => by rw [upd_ne n]; exact e) e (fun _ => nofun) (fun _ _ => nofun)).sq
        refine ⟨fun σ' G' => σ' = [some (.ref p), some (.str rn), some (.ref pd), some (.ref b), some (.ref nl), some (.ref gl), some (.int (ss.length : Nat)), some (.ref pp), some (.ref a)] ∧ G' = upd G3 nl (.lst ((LN ++ [(a, rd)]).map fun q => V.ref q.1)), ?_, ?_⟩
        · refine ⟨_, rfl, ⟨.inl ⟨rfl, _, .inl (.inl eN3)⟩, ?_⟩⟩
          refine ⟨_, rfl, nl, _, _, rfl, rfl, eN3, by rw [List.length_map]; omega, rfl, ?_⟩
          rw [List.map_append]
          rfl
        rintro σ' G4' ⟨rfl, e4⟩
        have nw := bd nl _ ((LN ++ [(a, rd)]).map fun q => V.ref q.1) eN3
        have sG4 : Same H G4' := fun b' o e => by
          rw [e4, upd_ne (ne_of_none e nnl)]
          exact u13 _ _ (sG _ _ e)
        have eG4 : G4' gl = some (.lst (xs.map V.ref)) := by rw [e4, upd_ne (Ne.symm nng)]; exact eG3
        have eN4 : G4' nl = some (.lst ((LN ++ [(a, rd)]).map fun q => V.ref q.1)) := by rw [e4]; exact upd_same
        rw [← e4] at nw
        clear e4 bd
        have hpp4 := nw _ _ (sqT_same u3 hpp)
        have ha4 := nw _ _ ha
        have hb4 := nw _ _ hb
        have hT4 : TxtsAt K G4' (LN ++ [(a, rd)]) := fun q0 hq => by
          rcases List.mem_append.mp hq with h | h
          · exact nw _ _ (sqT_same u13 (hT q0 h))
          · rw [List.mem_singleton.mp h]
            exact ha4
        have hS4 : StpsAt K G4' xs ss := hS.go fun _ _ h => nw _ _ (sqT_same u13 h)
        refine ⟨fun σ' G' => ∃ t : Addr, σ' = [some (.ref p), some (.str rn), some (.ref pd), some (.ref b), some (.ref nl), some (.ref gl), some (.int (ss.length : Nat)), some (.ref pp), some (.ref a)] ∧ G' gl = some (.lst ((xs ++ [t]).map V.ref)) ∧ G' nl = some (.lst ((LN ++ [(a, rd)]).map fun q => V.ref q.1)) ∧ SqT K G' t [.ref pp, .ref b, .str rn] ∧ (∀ a xs', SqT K G4' a xs' → SqT K G' a xs') ∧ Same H G', ?_, ?_⟩
        · refine ⟨_, rfl, ⟨.inl ⟨rfl, _, .inl (.inl eG4)⟩, ?_⟩⟩
          refine ⟨_, rfl, _, rfl, _, rfl, by show 3 ≤ sizeLine; omega, fun t nt => ⟨gl, _, _, rfl, rfl, same_new (Same.refl G4') nt _ _ eG4, by rw [List.length_map]; omega, ?_⟩⟩
          have s5 := same_new (o := .tup [V.ref pp, .ref b, .str rn]) (Same.refl G4') nt
          have et : (upd G4' t (.tup [V.ref pp, .ref b, .str rn])) t = some (.tup [V.ref pp, .ref b, .str rn]) := upd_same
          generalize upd G4' t (.tup [V.ref pp, .ref b, .str rn]) = G5 at *
          have eG5 := s5 _ _ eG4
          have nw5 : ∀ a xs', SqT K G5 a xs' → SqT K (upd G5 gl (.lst (xs.map V.ref ++ [V.ref t]))) a xs' := (butD_of (fun b o n e => by rw [upd_ne n]; exact e) eG5 (fun _ => nofun) (fun _ _ => nofun)).sq
          exact ⟨t, rfl, by rw [upd_same, List.map_append]; rfl, by rw [upd_ne nng]; exact s5 _ _ eN4, nw5 _ _ (.inl (.inl et)), fun a xs' h => nw5 _ _ (sqT_same s5 h), fun b' o e => by rw [upd_ne (ne_of_none e ngl)]; exact s5 _ _ (sG4 _ _ e)⟩
        rintro σ' G5 ⟨t, rfl, eG5, eN5, ht5, nw5, sG5⟩
        refine ⟨_, rfl, _, _, rfl, rfl, ?_⟩
        have el : ((ss.length : Nat) : Int) + 1 = (((ss ++ [(zs, rm, rn)]).length : Nat) : Int) := by
          rw [List.length_append]
          rfl
        refine ⟨k', klt, rn, b, rm, LN ++ [(a, rd)], xs ++ [t], ss ++ [(zs, rm, rn)], _, _, congrArg (fun v => [some (V.ref p), some (.str rn), some (.ref pd), some (.ref b), some (.ref nl), some (.ref gl), some (V.int v), some (.ref pp), some (.ref a)]) el, eN5, fun q0 hq => nw5 _ _ (hT4 q0 hq), eG5, ?_, sG5, nw5 _ _ hb4, ?_, ?_, ?_, nm3, lmade, nm2, ?_, ?_⟩
        · exact paired_snoc ⟨pp, b, ht5, nw5 _ _ hpp4, nw5 _ _ hb4⟩ (hS4.go fun _ _ h => nw5 _ _ h)
        · rw [List.length_append, List.map_append]
          exact more
        · intro q0 hq
          rcases List.mem_append.mp hq with h | h
          · exact gN q0 h
          · rw [List.mem_singleton.mp h]
            exact gdig
        · rw [List.length_append, List.length_append, lN]
          rfl
        · rw [List.length_append]
          exact ek
        · rw [List.length_append]
          exact kb)
    rintro σ' G5 ⟨n', c, LN, xs, ss, t6, t7, t8, rfl, eN, hT, eG, hS, s5, hrun, gN, lN, l200⟩
    refine ⟨_, rfl, nl, LN, rfl, .inl (.inl (.inl eN)), hT, by omega, fun q0 m0 z mz => names_low (good_names (m := 20) (gN q0 m0) z mz), fun ra n G7 s7 hE hRA => ?_⟩
    have s57 := s7
    refine ⟨_, rfl, gl, _, rfl, .inl ⟨.inl (.inl (s57 _ _ eG)), fun ga nga => ?_⟩⟩
    have s8 := same_new (o := .tup (xs.map V.ref)) (Same.refl G7) nga
    have ega : (upd G7 ga (.tup (xs.map V.ref))) ga = some (.tup (xs.map V.ref)) := upd_same
    generalize upd G7 ga (.tup (xs.map V.ref)) = G8 at *
    refine ⟨by show 2 ≤ sizeLine; omega, fun t nt => ?_⟩
    have s9 := same_new (o := .tup [V.ref ra, .ref ga]) (Same.refl G8) nt
    have s79 := s8.trans s9
    exact q t ra ga (LN.take n) xs (LN.map (·.2)) ss n _ (s5.trans (s57.trans s79)) (.inl (.inl upd_same)) (hRA.same s79) (by rw [List.map_take]) hE (.inl (.inl (s9 _ _ ega))) (hS.go fun _ _ h => sqT_same (s57.trans s79) h) hrun l200
end
end Kl
set_option maxRecDepth 100000
set_option maxHeartbeats 4000000
set_option maxRecDepth 100000
set_option maxHeartbeats 4000000
namespace Kl
open PySem PySem.Spec PyProof.Rows L2 Gx
theorem take_not {ns : List Str} (nd : ns.Nodup) {i : Nat} {z : Str} (hz : ns[i]? = some z) : z ∉ ns.take i := by
  intro hin
  obtain ⟨j, hj⟩ := List.mem_iff_getElem?.mp hin
  rw [List.getElem?_take] at hj
  by_cases c : j < i
  · rw [if_pos c] at hj
    obtain ⟨h1, e1⟩ := List.getElem?_eq_some_iff.mp hj
    obtain ⟨h2, e2⟩ := List.getElem?_eq_some_iff.mp hz
    have := (List.nodup_iff_pairwise_ne.mp nd)
    exact absurd (e1.trans e2.symm) (List.pairwise_iff_getElem.mp this j i h1 h2 c)
  · rw [if_neg c] at hj
    cases hj
end Kl
set_option maxRecDepth 100000
set_option maxHeartbeats 4000000
namespace Kl
open PySem PySem.Spec PyProof.Rows L2 Gx Mx
section
variable {P : Program} {w : World} {K : PySem.W.Frag} {mg : Str → Option Value} {base : Heap}
/-- a sequence of these, a tuple or a list -/
def SqB (K : PySem.W.Frag) (H : Hp) (a : Addr) (xs : List V) : Prop := SqT K H a xs ∨ SqL K H a xs
theorem SqB.at {H H' : Hp} {a : Addr} {xs : List V} (h : SqB K H a xs) (s : ∀ o, H a = some o → H' a = some o) : SqB K H' a xs := by
  rcases h with ((h | ⟨o, h⟩) | h) | ((h | ⟨o, h⟩) | h)
  · exact .inl (.inl (.inl (s _ h)))
  · exact .inl (.inl (.inr ⟨o, s _ h⟩))
  · exact .inl (.inr h)
  · exact .inr (.inl (.inl (s _ h)))
  · exact .inr (.inl (.inr ⟨o, s _ h⟩))
  · exact .inr (.inr h)
theorem SqB.keep {H H' : Hp} {a : Addr} {xs : List V} (h : SqB K H a xs) (s : ∀ o, H a = some o → (∀ kv, o ≠ .dK kv) → H' a = some o) : SqB K H' a xs := by
  rcases h with ((h | ⟨o, h⟩) | h) | ((h | ⟨o, h⟩) | h)
  · exact .inl (.inl (.inl (s _ h (fun _ => nofun))))
  · exact .inl (.inl (.inr ⟨o, s _ h (fun _ => nofun)⟩))
  · exact .inl (.inr h)
  · exact .inr (.inl (.inl (s _ h (fun _ => nofun))))
  · exact .inr (.inl (.inr ⟨o, s _ h (fun _ => nofun)⟩))
  · exact .inr (.inr h)
theorem cast_sum (f : Str → Nat) : ∀ l : List Str, (l.map fun p => ((f p : Nat) : Int)).sum = (((l.map f).sum : Nat) : Int)
  | [] => rfl
  | p :: l => by
    rw [List.map_cons, List.sum_cons, cast_sum f l, List.map_cons, List.sum_cons, Int.natCast_add]
theorem rowK_some (R : Row) (z : Str) : (valV (rowK R) (Sum.inr z)).isSome = decide (z ∈ keysR R) := by
  by_cases h : z ∈ keysR R
  · rw [rowK_get h, decide_eq_true h]
    rfl
  · rw [rowK_look, lookR_no h, decide_eq_false h]
    rfl
theorem SqB.mono {H H' : Hp} {a : Addr} {xs : List V} (h : SqB K H a xs) (s : Same H H') : SqB K H' a xs := h.at fun o e => s _ _ e
/-- the parts of each kind, told by tuples or lists -/
def PartsAt (K : PySem.W.Frag) (H : Hp) (kvs : List (Key × V)) (M : Mak) : Prop := Paired (fun (kv : Key × V) (m : Str × List Str) => kv.1 = Sum.inr m.1 ∧ ∃ a, kv.2 = .ref a ∧ SqB K H a (m.2.map V.str)) kvs M
theorem PartsAt.len {H : Hp} {kvs : List (Key × V)} {M : Mak} (h : PartsAt K H kvs M) : kvs.length = M.length := Paired.length h
theorem PartsAt.same {H H' : Hp} {kvs : List (Key × V)} {M : Mak} (h : PartsAt K H kvs M) (s : ∀ a xs, SqB K H a xs → SqB K H' a xs) : PartsAt K H' kvs M := by
  unfold PartsAt at h ⊢
  induction h with
  | nil => exact .nil
  | cons h _ ih =>
    obtain ⟨h1, a, h2, h3⟩ := h
    exact .cons ⟨h1, a, h2, s a _ h3⟩ ih
theorem PartsAt.at {H : Hp} {kvs : List (Key × V)} {M : Mak} (h : PartsAt K H kvs M) {i : Nat} {k : Key} {v : V} (e : kvs[i]? = some (k, v)) : ∃ m a, M[i]? = some m ∧ k = Sum.inr m.1 ∧ v = .ref a ∧ SqB K H a (m.2.map V.str) := by
  unfold PartsAt at h
  induction h generalizing i with
  | nil => cases e
  | @cons kv m kvs M h _ ih =>
    cases i with
    | zero =>
      cases e
      obtain ⟨h1, a, h2, h3⟩ := h
      exact ⟨m, a, rfl, h1, h2, h3⟩
    | succ i => exact ih e
theorem MakAt.parts {H : Hp} {kvs : List (Key × V)} {M : Mak} (h : MakAt H kvs M) : PartsAt K H kvs M := by
  unfold MakAt at h
  unfold PartsAt
  induction h with
  | nil => exact .nil
  | cons h _ ih =>
    obtain ⟨h1, a, h2, h3⟩ := h
    exact .cons ⟨h1, a, h2, .inl h3.sq⟩ ih
end
end Kl
set_option maxRecDepth 100000
set_option maxHeartbeats 4000000
namespace Kl
open PySem PySem.Spec PyProof.Rows L2 Gx Mx
section
variable {P : Program} {w : World} {K : PySem.W.Frag} {mg : Str → Option Value} {base : Heap}
def RowsAt (H : Hp) (leaf : Str) (M : Mak) (ds : List Addr) : Prop := ∀ (i : Nat) (a : Addr), ds[i]? = some a → H a = some (.dK (rowK (rowsR leaf M i)))
theorem RowsAt.same {H H' : Hp} {leaf : Str} {M : Mak} {ds : List Addr} (h : RowsAt H leaf M ds) (s : Same H H') : RowsAt H' leaf M ds := fun i a e => s _ _ (h i a e)
theorem RowsAt.snoc {H H' : Hp} {leaf : Str} {M : Mak} {ds : List Addr} {p : Addr} (h : RowsAt H leaf M ds) (k : ∀ a kv, H a = some (.dK kv) → H' a = some (.dK kv)) (e : H' p = some (.dK (rowK (rowsR leaf M ds.length)))) : RowsAt H' leaf M (ds ++ [p]) := by
  intro i a ha
  rw [List.getElem?_append] at ha
  by_cases c : i < ds.length
  · rw [if_pos c] at ha
    exact k _ _ (h i a ha)
  · rw [if_neg c] at ha
    obtain ⟨h1, h2⟩ := List.getElem?_eq_some_iff.mp ha
    have e0 : i - ds.length = 0 := by
      rw [List.length_singleton] at h1
      omega
    have e1 : i = ds.length := by omega
    rw [e1]
    have : a = p := by
      rw [e0] at ha
      exact (Option.some.inj ha).symm
    rw [this]
    exact e
end
end Kl
set_option maxRecDepth 100000
set_option maxHeartbeats 4000000
namespace Gx
open PySem PySem.Spec PyProof.Rows L2
end Gx
set_option maxRecDepth 100000
set_option maxHeartbeats 4000000
namespace Gx
open PySem PySem.Spec PyProof.Rows L2
end Gx
set_option maxRecDepth 100000
set_option maxHeartbeats 4000000
namespace Gx
open PySem PySem.Spec PyProof.Rows L2
end Gx
set_option maxRecDepth 100000
set_option maxHeartbeats 4000000
namespace Kl
open PySem PySem.Spec PyProof.Rows L2 Gx Mx
theorem pool_ok {z : Str} (h : z ∈ POOL) : PyData.strOk z = true := names_low (pool_name h)
section
variable {P : Program} {w : World} {K : PySem.W.Frag} {mg : Str → Option Value} {base : Heap}
def spSizes : Sp := fun vs H Q _ => ∃ (pl mk : Addr) (leaf : Str) (kv kvs : List (Key × V)) (M M1 : Mak) (b : Nat), vs = [V.ref pl, V.int (b : Nat)] ∧ b ≤ 402 ∧ H pl = some (.dK kv) ∧ valV kv (Sum.inr "leaf") = some (.str leaf) ∧ valV kv (Sum.inr "makings") = some (.ref mk) ∧ H mk = some (.dK kvs) ∧ MakAt H kvs M ∧ Vld leaf M ∧ OrdOf M M1 ∧
  ∀ (p : Addr) (ds : List Addr) (H' : Hp), Same H H' → H p = none → H' p = some (.lst (ds.map V.ref)) → ds.length = b + 1 → RowsAt H' leaf M1 ds → Q (.ref p) H'
abbrev NSZ : List Str := ["_law_plain_here", "_law_bound", "_law_found", "_law_rank", "_law_here", "_law_name", "_law_parts", "_law_part"]
theorem ok_sizes {f : Addr} {fd : FuncData} (F : Fun K "_law_sizes" "_law_sizes" s_law_sizes f fd) (T : Top K mg) : FnOk P w K mg base CX0 1 f fd ["_law_plain_here", "_law_bound"] spSizes := by
  refine F.ok sc_law_sizes (fun vs H Q E h => ?_) (fun cdv A outer s H vs Q E hr h => ?_)
  · obtain ⟨pl, mk, leaf, kv, kvs, M, M1, b, rfl, _⟩ := h
    rfl
  · obtain ⟨pl, mk, leaf, kv, kvs, M, M1, b, rfl, hb, hpl, hvl, hvm, hmk, hM, hV, hO, q⟩ := h
    have hu := hu_of hr
    refine ⟨_, pss_cut (ps_set (i := 2) sc_law_sizes.nd rfl (.inr rfl) (pe_lst (pa_cons (pe_disp (pps_cons (pe_dget hu (pv 0) pe_str (fun _ _ => rfl)) pe_int pps_nil) rfl rfl (by decide) (by decide)) pa_nil)))
      (pss_cut (ps_for PassesOwn.never rfl (pi_range1 (by rfl) T.b_range (pa_cons (pv 1) pa_nil)) (pg_name (i := 3) sc_law_sizes.nd rfl (.inr rfl))
        (pss_cut (ps_set (i := 4) sc_law_sizes.nd rfl (.inl rfl) pe_dnewK)
        (pss_cut (ps_for PassesOwn.never rfl (pi_list (pe_callB (call_sortedD rfl) (by rfl) T.b_sorted (by decide +kernel) (pa_cons (pe_dget hu (pv 0) pe_str (fun _ _ => rfl)) pa_nil))) (pg_name (i := 5) sc_law_sizes.nd rfl (.inl rfl))
          (pss_cut (ps_set (i := 6) sc_law_sizes.nd rfl (.inl rfl) (pe_dget hu (pe_dget hu (pv 0) pe_str (fun _ _ => rfl)) (pv 5) (fun _ _ => rfl)))
          (pss_one (ps_if (pt_cmpR (op_eqD hr.units) (pe_lc (own := [("_law_part", 7)]) (g := gName 7) rfl sc_law_sizes.nd (pi_tup (pv 6))
                (blkOk_by (N := NSZ) (sc := defScope s_law_sizes) (by decide +kernel)) (fun _ _ _ _ _ => pg_name (i := 7) sc_law_sizes.nd rfl (.inl rfl))
                (fun _ _ _ _ _ => pts_one (pt_cmp (pc_dnotin hu (pv 7) (pe_ix (ix_listK (K := K) (by exact rfl)) (pv 2) (pv 3) (fun _ _ => rfl)))))
                (fun _ _ _ _ _ => pv 7)) (pe_lst pa_nil) (by rfl))
            (pss_one (ps_asg (pe_callB (cr_sum rfl) (by rfl) T.b_sum (by decide +kernel) (pa_cons (pe_lc (own := [("_law_part", 7)]) (g := gName 7) (tt := tYes) rfl sc_law_sizes.nd (pi_tup (pv 6))
                (blkOk_by (N := NSZ) (sc := defScope s_law_sizes) (by decide +kernel)) (fun _ _ _ _ _ => pg_name (i := 7) sc_law_sizes.nd rfl (.inl rfl)) (fun _ _ _ _ _ => pts_nil)
                (fun _ _ _ _ _ => pe_dget hu (pe_ix (ix_listK (K := K) (by exact rfl)) (pv 2) (pv 3) (fun _ _ => rfl)) (pv 7) (fun _ _ => rfl))) pa_nil)) (pg_sub (pv 4) (pv 5) (set_dict hu)))) pss_nil))))
        (pss_one (ps_expr (pe_bm PySem.F.plainAttrs_list PySem.F.slot_list_append PySem.F.type_list_append mt_append (pv 2) (pa_cons (pv 4) pa_nil)))))))
      (pss_one (ps_ret (pv 2)))), ?_⟩
    have big : 100000 ≤ sizeLine := by decide
    have lM := hV.len
    have v1 : Vld leaf M1 := hO.vld hV
    have lM1 := v1.len
    refine ⟨fun σ' G => ∃ (fl b0 : Addr), σ' = [some (.ref pl), some (.int (b : Nat)), some (.ref fl), none, none, none, none, none] ∧ G fl = some (.lst [.ref b0]) ∧ G b0 = some (.dK (rowK (rowsR leaf M1 0))) ∧ Same H G ∧ H fl = none ∧ H b0 = none, ?_, ?_⟩
    · refine fun b0 nb0 => ?_
      have hpl1 : (upd H b0 (.dK [])) pl = some (.dK (kv)) := by rw [upd_ne (ne_of_none hpl nb0)]; exact hpl
      refine ⟨_, rfl, pl, .str leaf, rfl, .inl ⟨_, Sum.inr "leaf", .inl hpl1, rfl, hvl.symm⟩, upd_same, [(Sum.inr leaf, V.int 1)], rfl, by show 1 ≤ 15; omega, by show 1 ≤ sizeLine; omega, fun fl nfl => ?_⟩
      have e1 : mergeK [] [((Sum.inr leaf : Key), V.int 1)] = rowK (rowsR leaf M1 0) := rfl
      rw [e1] at nfl ⊢
      have s1 : Same H (upd (upd H b0 (.dK [])) b0 (.dK (rowK (rowsR leaf M1 0)))) := fun b o e => by
        rw [upd_ne (ne_of_none e nb0), upd_ne (ne_of_none e nb0)]
        exact e
      have s2 := same_new (o := .lst [V.ref b0]) s1 nfl
      refine ⟨fl, b0, rfl, upd_same, ?_, s2, s1.free nfl, nb0⟩
      rw [upd_ne (ne_of_none upd_same nfl)]
      exact upd_same
    rintro σ' G ⟨fl, b0, rfl, efl, eb0, s0, nfl, nb0⟩
    refine ⟨fun σ' G => ∃ (ds : List Addr) (y3 y4 y5 y6 : Option V), σ' = [some (.ref pl), some (.int (b : Nat)), some (.ref fl), y3, y4, y5, y6, none] ∧ G fl = some (.lst (ds.map V.ref)) ∧ ds.length = b + 1 ∧ RowsAt G leaf M1 ds ∧ Same H G, ?_, ?_⟩
    · refine ⟨_, rfl, _, rfl, by omega, by omega, ?_⟩
      rw [Int.toNat_natCast]
      refine for_range (lo := 0) (fun i σ' G => ∃ (ds : List Addr) (y3 y4 y5 y6 : Option V), σ' = [some (.ref pl), some (.int (b : Nat)), some (.ref fl), y3, y4, y5, y6, none] ∧ G fl = some (.lst (ds.map V.ref)) ∧ ds.length = i + 1 ∧ RowsAt G leaf M1 ds ∧ Same H G)
        ⟨[b0], none, none, none, none, rfl, efl, rfl, ?_, s0⟩ (fun i σ' G hi hP => ?_) (fun σ' G hP => hP)
      · intro i a ha
        have hi : i = 0 := by
          have := (List.getElem?_eq_some_iff.mp ha).1
          rw [List.length_singleton] at this
          omega
        subst hi
        cases ha
        exact eb0
      obtain ⟨ds, y3, y4, y5, y6, rfl, eF, hl, hR, sm⟩ := hP
      -- an empty dict
      refine ⟨fun σ' G' => ∃ hh : Addr, σ' = [some (.ref pl), some (.int (b : Nat)), some (.ref fl), some (.int (0 + (i : Nat))), some (.ref hh), y5, y6, none] ∧ G' hh = some (.dK []) ∧ G hh = none ∧ Same G G', ?_, ?_⟩
      · exact fun hh nhh => ⟨hh, rfl, upd_same, nhh, same_new (Same.refl G) nhh⟩
      rintro σ' G2 ⟨hh, rfl, ehh, nhh, s2⟩
      have hrow : ∃ a, ds[i]? = some a ∧ G a = some (.dK (rowK (rowsR leaf M1 i))) := ⟨_, List.getElem?_eq_getElem (by omega), hR i _ (List.getElem?_eq_getElem (by omega))⟩
      obtain ⟨ra, hra, era⟩ := hrow
      generalize hRR : rowsR leaf M1 i = R at era
      have efG := eF
      have fl_free : H fl = none := nfl
      have nhf : hh ≠ fl := fun z => by rw [z, eF] at nhh; cases nhh
      have nhr : hh ≠ ra := fun z => by rw [z, era] at nhh; cases nhh
      -- the names, one by one
      refine ⟨fun σ' G' => ∃ (y5 y6 : Option V), σ' = [some (.ref pl), some (.int (b : Nat)), some (.ref fl), some (.int (0 + (i : Nat))), some (.ref hh), y5, y6, none] ∧ G' hh = some (.dK (rowK (aboveR M1 R))) ∧ SameX hh G2 G', ?_, ?_⟩
      · have hpl2 := s2 _ _ (sm _ _ hpl)
        have hmk2 := s2 _ _ (sm _ _ hmk)
        have hM2 : MakAt G2 kvs M := hM.same fun _ _ h => (h.mono sm).mono s2
        refine ⟨_, rfl, pl, .ref mk, rfl, .inl ⟨_, Sum.inr "makings", .inl hpl2, rfl, hvm.symm⟩, mk, kvs, keysOf M, rfl, .inl hmk2, hM2.keys, by unfold keysOf; rw [List.length_map]; omega, fun ys sp hperm hsrt nsp => ?_⟩
        have eys : ys = keysOf M1 := sorted_same hsrt hO.srt (hperm.nodup_iff.mpr hV.nd) hO.nd fun z => by rw [hperm.mem_iff, hO.keys]
        subst eys
        have s3 := same_new (o := .lst ((keysOf M1).map V.str)) (Same.refl G2) nsp
        have nsh : sp ≠ hh := fun z => by rw [z, ehh] at nsp; cases nsp
        have esp : (upd G2 sp (.lst ((keysOf M1).map V.str))) sp = some (.lst ((keysOf M1).map V.str)) := upd_same
        generalize upd G2 sp (.lst ((keysOf M1).map V.str)) = G3 at s3 esp
        refine ⟨sp, rfl, ⟨_, .inl (.inl esp)⟩, ?_⟩
        refine for_it (walk_list (K := K) (a := sp) (xs := (keysOf M1).map V.str)) (fun j σ' G' => ∃ (y5 y6 : Option V), σ' = [some (.ref pl), some (.int (b : Nat)), some (.ref fl), some (.int (0 + (i : Nat))), some (.ref hh), y5, y6, none] ∧ G' hh = some (.dK (rowK (aboveR (M1.take j) R))) ∧ SameX hh G3 G')
          ⟨_, _, rfl, s3 _ _ ehh, SameX.refl hh G3⟩ (fun j σ' G' _ h => by obtain ⟨_, _, _, _, sx⟩ := h; exact .inl (.inl (sx _ _ nsh esp))) (fun j v σ' Gx G' hj h hy => ?_) (fun σ' G' h => ?_)
        · obtain ⟨y5, y6, rfl, eH, sx⟩ := h
          obtain ⟨rfl, hv⟩ := hy
          obtain ⟨z, hz, rfl⟩ := at_texts hv
          obtain ⟨m, hmj, rfl⟩ : ∃ m, M1[j]? = some m ∧ m.1 = z := by
            unfold keysOf at hz
            rw [List.getElem?_map] at hz
            exact Option.map_eq_some_iff.mp hz
          have hmM := List.mem_of_getElem? hmj
          obtain ⟨p1, p2, p3, p4⟩ := v1.parts m hmM
          have hlk : lookM M m.1 = some m.2 := by rw [← hO.look, lookM_mem hO.nd hmM]
          have hkM : m.1 ∈ keysOf M := (hO.keys _).mp (List.mem_map.mpr ⟨m, hmM, rfl⟩)
          have sG : ∀ b o, G b = some o → G' b = some o := fun b o e => sx _ _ (ne_of_none e nhh) (s3 _ _ (s2 _ _ e))
          have hpl' := sG _ _ (sm _ _ hpl)
          have hmk' := sG _ _ (sm _ _ hmk)
          have hM' : MakAt G' kvs M := hM.same fun a xs h => h.at fun o e => sG _ _ (sm _ _ e)
          obtain ⟨ps, a, e1, e2, e3⟩ := hM'.key hkM
          rw [hlk] at e1
          cases e1
          have eF' := sG _ _ eF
          have era' := sG _ _ era
          have hat : atI (ds.map V.ref) ((0 : Int) + (i : Nat)) = some (.ref ra) := by
            unfold atI ixN
            rw [if_pos (by omega), List.length_map, if_pos (by omega)]
            show (ds.map V.ref)[((0 : Int) + (i : Nat)).toNat]? = _
            rw [Int.zero_add, Int.toNat_natCast, List.getElem?_map, hra]
            rfl
          refine ⟨fun σ' G4 => σ' = [some (.ref pl), some (.int (b : Nat)), some (.ref fl), some (.int (0 + (i : Nat))), some (.ref hh), some (.str m.1), some (.ref a), none] ∧ G4 = G', ?_, ?_⟩
          · exact ⟨_, rfl, pl, .ref mk, rfl, .inl ⟨_, Sum.inr "makings", .inl hpl', rfl, hvm.symm⟩, _, rfl, mk, _, rfl, .inl ⟨kvs, Sum.inr m.1, .inl hmk', rfl, e2.symm⟩, rfl, rfl⟩
          rintro σ' G4 ⟨rfl, rfl⟩
          -- the parts that are not there
          refine ⟨_, rfl, a, rfl, ⟨_, e3.sq⟩, fun D hD => ?_⟩
          refine lc_it (g := gName 7) (vs := [7]) (walk_tup (K := K) (a := a) (xs := m.2.map V.str)) (fun k G5 => G5 D = some (.lst (((m.2.take k).filter fun p => !decide (p ∈ keysR R)).map V.str)) ∧ Same G4 G5) ⟨upd_same, same_new (Same.refl G4) hD⟩ (fun k G5 _ h => (e3.mono h.2).sq) (fun k v Gx G5 hk h hy => ?_) (fun G5 h => ?_)
          · obtain ⟨eD, sm5⟩ := h
            obtain ⟨rfl, hv2⟩ := hy
            obtain ⟨z, hz, rfl⟩ := at_texts hv2
            refine ⟨rfl, _, rfl, _, rfl, _, rfl, fl, _, _, _, rfl, rfl, .inl (.inl (sm5 _ _ eF')), hat, ra, _, rfl, .inl ⟨_, Sum.inr z, .inl (sm5 _ _ era'), rfl, rfl⟩, ?_⟩
            rw [rowK_some, take_snoc hz, List.filter_append]
            by_cases c : z ∈ keysR R
            · rw [decide_eq_true c]
              have e0 : [z].filter (fun p => !decide (p ∈ keysR R)) = [] := by simp [c]
              rw [e0, List.append_nil]
              refine ⟨_, rfl, ?_⟩
              show (if (!true) = true then _ else _)
              rw [if_neg (by decide)]
              exact ⟨eD, sm5⟩
            · rw [decide_eq_false c]
              have e0 : [z].filter (fun p => !decide (p ∈ keysR R)) = [z] := by simp [c]
              rw [e0]
              refine ⟨_, rfl, ?_⟩
              show (if (!false) = true then _ else _)
              rw [if_pos (by decide)]
              refine ⟨_, rfl, _, eD, ?_, ?_, fun b u e => by rw [upd_ne (ne_of_none e hD)]; exact sm5 b u e⟩
              · rw [List.length_map]
                have := List.length_filter_le (fun p => !decide (p ∈ keysR R)) (m.2.take k)
                rw [List.length_take] at this
                exact Nat.lt_of_le_of_lt (show _ ≤ 3 by omega) (by decide)
              · rw [upd_same, List.map_append]
                rfl
          obtain ⟨eD, sm5⟩ := h
          rw [List.length_map, List.take_length] at eD
          refine ⟨by show 0 ≤ sizeLine; omega, fun l0 nl0 => ?_⟩
          have s6 := same_new (o := .lst []) sm5 nl0
          have eD6 : (upd G5 l0 (.lst [])) D = some (.lst ((m.2.filter fun p => !decide (p ∈ keysR R)).map V.str)) := by
            rw [upd_ne (ne_of_none eD nl0)]
            exact eD
          have okP : SeqAt.shaped (.list (tD (m.2.filter fun p => !decide (p ∈ keysR R)))) = true := shaped_texts fun z hz => pool_ok (v1.part hmM (List.mem_filter.mp hz).1)
          refine ⟨.list (tD (m.2.filter fun p => !decide (p ∈ keysR R))), .list (tD []), .lst (.inl (.inl eD6)) (dp_texts _), .lst (.inl (.inl upd_same)) (dp_texts []), okP, shaped_texts (fun z hz => nomatch hz), ?_⟩
          rw [PyData.eqv, eqv_texts]
          have ef : decide ((m.2.filter fun p => !decide (p ∈ keysR R)) = []) = fitsR (keysR R) m.2 := by
            rw [Bool.eq_iff_iff, decide_eq_true_iff, List.filter_eq_nil_iff]
            unfold fitsR
            rw [List.all_eq_true]
            constructor
            · intro h z hz
              have := h z hz
              simpa using this
            · intro h z hz
              have := h z hz
              simpa using this
          rw [ef]
          have et : aboveR (M1.take (j + 1)) R = aboveR (M1.take j) R ++ (if fitsR (keysR R) m.2 = true then [(m.1, (m.2.map (getR R)).sum)] else []) := by
            unfold aboveR
            rw [take_snoc hmj, List.filter_append, List.map_append]
            by_cases c : fitsR (keysR R) m.2 = true
            · simp [c]
            · simp [c]
          have eH6 := s6 _ _ eH
          generalize upd G5 l0 (.lst []) = G6 at s6 eH6
          refine ⟨_, rfl, ?_⟩
          refine ite2 (fun c => ?_) (fun c => ?_)
          · rw [if_pos c] at et
            have e36 := e3.mono s6
            refine ⟨_, rfl, a, rfl, ⟨_, e36.sq⟩, fun D4 hD4 => ?_⟩
            refine lc_it (g := gName 7) (tt := tYes) (vs := [7]) (walk_tup (K := K) (a := a) (xs := m.2.map V.str)) (fun k G7 => G7 D4 = some (.lst (((m.2.take k).map fun p => ((getR R p : Nat) : Int)).map V.int)) ∧ Same G6 G7) ⟨upd_same, same_new (Same.refl G6) hD4⟩ (fun k G7 _ h => (e36.mono h.2).sq) (fun k v Gx G7 hk h hy => ?_) (fun G7 h => ?_)
            · obtain ⟨eD4, sm7⟩ := h
              obtain ⟨rfl, hv2⟩ := hy
              obtain ⟨z, hz, rfl⟩ := at_texts hv2
              have hzR : z ∈ keysR R := of_decide_eq_true (List.all_eq_true.mp c z (List.mem_of_getElem? hz))
              refine ⟨rfl, _, rfl, _, rfl, fl, _, _, _, rfl, rfl, .inl (.inl (sm7 _ _ (s6 _ _ eF'))), hat, _, rfl, ra, _, rfl, .inl ⟨_, Sum.inr z, .inl (sm7 _ _ (s6 _ _ era')), rfl, (rowK_get hzR).symm⟩, _, eD4, ?_, ?_, fun b u e => by rw [upd_ne (ne_of_none e hD4)]; exact sm7 b u e⟩
              · rw [List.length_map, List.length_map, List.length_take]
                exact Nat.lt_of_le_of_lt (show _ ≤ 3 by omega) (by decide)
              · rw [upd_same, take_snoc hz, List.map_append, List.map_append]
                rfl
            · obtain ⟨eD4, sm7⟩ := h
              rw [List.length_map, List.take_length] at eD4
              refine ⟨D4, _, rfl, .inl (.inl eD4), ?_⟩
              rw [cast_sum]
              have hnew : m.1 ∉ keysR (aboveR (M1.take j) R) := by
                rw [keys_above]
                intro hin
                have h1 := (above_sub (M1.take j) (keysR R)).subset hin
                unfold keysOf at h1
                rw [List.map_take] at h1
                exact take_not hO.nd (show (M1.map (·.1))[j]? = some m.1 by rw [List.getElem?_map, hmj]; rfl) h1
              have hlen : (aboveR (M1.take j) R).length ≤ 6 := by
                unfold aboveR
                rw [List.length_map]
                have := List.length_filter_le (fun m => fitsR (keysR R) m.2) (M1.take j)
                rw [List.length_take] at this
                omega
              refine ⟨_, rfl, _, rfl, hh, _, rfl, .inl ⟨_, Sum.inr m.1, sm7 _ _ eH6, rfl, by rw [rowK_len]; omega, rfl⟩, _, _, rfl, ?_, fun b o n e => by rw [upd_ne n]; exact sm7 _ _ (s6 _ _ (sx b o n e))⟩
              rw [upd_same, putK_new _ (by rw [rowK_look, lookR_no hnew]; rfl), et]
              unfold rowK
              rw [List.map_append]
              rfl
          · rw [if_neg c, List.append_nil] at et
            rw [et]
            exact ⟨_, _, rfl, eH6, fun b o n e => s6 _ _ (sx b o n e)⟩
        · obtain ⟨y5, y6, rfl, eH, sx⟩ := h
          rw [List.length_map, show (keysOf M1).length = M1.length by unfold keysOf; rw [List.length_map], List.take_length] at eH
          exact ⟨_, _, rfl, eH, fun b o n e => sx _ _ n (s3 _ _ e)⟩
      rintro σ' G3 ⟨y5, y6, rfl, eH3, sx3⟩
      have eF3 := sx3 _ _ nhf.symm (s2 _ _ eF)
      refine ⟨_, rfl, ⟨.inl ⟨rfl, _, .inl (.inl eF3)⟩, ?_⟩⟩
      refine ⟨_, rfl, ?_⟩
      have sG3 : ∀ b o, G b = some o → G3 b = some o := fun b o e => sx3 _ _ (ne_of_none e nhh) (s2 _ _ e)
      refine ⟨fl, _, _, rfl, rfl, eF3, by rw [List.length_map]; exact Nat.lt_of_le_of_lt (show _ ≤ 403 by omega) (by decide), ds ++ [hh], _, _, _, _, rfl, ?_, by rw [List.length_append, List.length_singleton, hl], ?_, fun b o e => ?_⟩
      · rw [upd_same, List.map_append]
        rfl
      · refine RowsAt.snoc (H := G3) (fun k a e => sG3 _ _ (hR k a e)) (fun a kv e => ?_) ?_
        · rw [upd_ne (fun z => by rw [z, eF3] at e; cases e)]
          exact e
        · rw [upd_ne nhf, hl, eH3, ← hRR]
          rfl
      · rw [upd_ne (ne_of_none e nfl)]
        exact sG3 _ _ (sm _ _ e)
    rintro σ' G2 ⟨ds, y3, y4, y5, y6, rfl, eF, hl, hR, sm⟩
    exact ⟨_, rfl, q fl ds G2 sm nfl eF hl hR⟩
end
end Kl
set_option maxRecDepth 100000
namespace PySem
open Sem (wp)
abbrev enT (t : Addr) : Obj := { cls := .type "tuple_iterator", data := .fields #[.ref t, .int 0 0] }
set_option maxHeartbeats 1000000 in
theorem meets_enumT (t : Addr) (items : Array Value) :
    Meets (Builtin.«enumerate.__new__» ⟨[.type "enumerate", .ref t], []⟩) (fun _ R s => s.heap.IsTuple t items ∧
      R (.ok (.ret (.ref (s.heap.push (enT t)).objs.size))) { s with heap := (s.heap.push (enT t)).push { cls := .type "enumerate", data := .fields #[.none, .bool false, .ref s.heap.objs.size, rawInt 0, .none, .none] } }) :=
  .of_wp fun prog w A R s h => by
    obtain ⟨hp, g, d, tk, os⟩ := s; obtain ⟨h1, h⟩ := h
    have hsub := sub_enumerate
    have q1 : ∀ {A' : Around} {E : Value → Shared → Prop} {Q : Value → Shared → Prop}, Q (.ref hp.objs.size) ⟨hp.push (enT t), g, d, tk, os⟩ → wpAny (model prog w) A' (pyIter (.ref t)) Q E ⟨hp, g, d, tk, os⟩ :=
      fun q => (begins_tuple t items).iter prog w _ _ ⟨hp, g, d, tk, os⟩ _ h1 q
    wp_walk using q1
    refine wpAny_stack_any fun st => wpAny_pure ?_
    split
    · rename_i c _ _ _ _ _
      cases (c == Value.type "enumerate")
      · wp_walk using q1
        exact ⟨_, rfl, h⟩
      · wp_walk using q1
        exact ⟨_, rfl, h⟩
    · wp_walk using q1
      exact ⟨_, rfl, h⟩
section
variable {prog : Program} {w : World} {A : Around} {E : Value → Shared → Prop} {s : Shared}
theorem call_enumT {t : Addr} {items : Array Value} {Q : Value → Shared → Prop} (ht : s.heap.IsTuple t items)
    (h : ∀ h', IsEnum h' (s.heap.objs.size + 1) s.heap.objs.size 0 .none → h'.IsTupleIter s.heap.objs.size t 0 → h'.objs.size = s.heap.objs.size + 2 →
      (∀ b o, s.heap.get? b = some o → h'.get? b = some o) → Q (.ref (s.heap.objs.size + 1)) { s with heap := h' }) :
    wpAny (model prog w) A (call (.type "enumerate") [.ref t]) Q E s := by
  refine callType_new F.called_enumerate (by decide) (F.typeCall_enumerate_1 _) (F.newCall_enumerate_1 _) (fun obj => F.args_object_init_2 obj _) F.entry_enumerate_new
    (meets_enumT t items) ⟨ht, ?_⟩
  have hz : (s.heap.push (enT t)).objs.size = s.heap.objs.size + 1 := Heap.size_push ..
  show _ ∧ _
  rw [hz]
  have he : IsEnum ((s.heap.push (enT t)).push { cls := .type "enumerate", data := .fields #[.none, .bool false, .ref s.heap.objs.size, rawInt 0, .none, .none] }) (s.heap.objs.size + 1) s.heap.objs.size 0 .none := by
    have := Heap.get?_push_size (s.heap.push (enT t)) (o := { cls := .type "enumerate", data := .fields #[.none, .bool false, .ref s.heap.objs.size, rawInt 0, .none, .none] }) rfl
    rw [hz] at this; exact this
  exact ⟨⟨_, he, rfl⟩, h _ he ⟨_, Heap.get?_push_of_some _ (Heap.get?_push_size _ rfl), rfl, rfl⟩ (by rw [Heap.size_push, hz]) fun b o x => Heap.get?_push_of_some _ (Heap.get?_push_of_some _ x)⟩
end
end PySem
namespace L2
open PySem PySem.Spec PyProof.Rows
set_option maxHeartbeats 4000000
/-- the tuple at a, each item in a new pair with its place -/
def ItNT (K : PySem.W.Frag) (a : Addr) : It :=
  ⟨fun i H => ∃ (xs : List V) (x : V), SqT K H a xs ∧ xs[i]? = some x, fun i H v H' => ∃ T x, v = .ref T ∧ H T = none ∧ H' = upd H T (.tup [.int (i : Nat), x]) ∧ ∀ xs, SqT K H a xs → xs[i]? = some x, fun i H => ∃ xs : List V, SqT K H a xs ∧ xs.length ≤ i⟩
theorem turn_enumT {P : Program} {w : World} {K : PySem.W.Frag} {elts : List Expr} {kk : Nat} {tpos : Pos} (a e it : Addr) (hai : a ≠ it) (hae : a ≠ e) :
    Turn P w K (.Tuple elts kk tpos) (ItNT K a) [e, it] e (fun i h => (∃ old, IsEnum h e it ((i : Nat) : Int) old) ∧ h.IsTupleIter it a i ∧ e ≠ it) where
  mem := by simp
  obj := fun i h st b hb => by
    obtain ⟨⟨old, he⟩, ⟨o, ho, hc, hd⟩, _⟩ := st
    have e' : b = e ∨ b = it := by simpa using hb
    rcases e' with z | z
    · rw [z]; exact ⟨_, he, fun v q => nomatch q⟩
    · rw [z]; exact ⟨o, ho, fun v q => by rw [hd] at q; cases q⟩
  keep := fun i h h' st k => let ⟨⟨old, he⟩, hi, hne⟩ := st; ⟨⟨old, k e (by simp) _ he⟩, hi.at fun o q => k it (by simp) o q, hne⟩
  item := by
    intro X hP hw hK hc i pins s σ H E I hf st hg
    subst hP hw hK
    obtain ⟨⟨old, he⟩, hit, hne⟩ := st
    obtain ⟨xs, x, hq, hx⟩ := hg
    obtain ⟨its, rv, p, hz⟩ := I.tuple hq
    obtain ⟨u, hu, ru⟩ := rv.get hx
    have hp : s.heap.IsTuple a its.toArray := p
    have hel : e < s.heap.objs.size := Heap.lt_size he
    have hil : it < s.heap.objs.size := by obtain ⟨_, q, _⟩ := hit; exact Heap.lt_size q
    have hlt : i < its.toArray.size := by
      have := (List.getElem?_eq_some_iff.mp hu).1
      simpa using this
    refine wpAny_pyNext_enum_itemD (Draws.tuple (A := X.A.in1) (I.ok.hd hc) it a hai its.toArray) he ⟨hit, hp⟩ hlt hne (by simp; exact ⟨hne, hae.symm⟩) fun x' h' tk hx' ho hst' hT hsz hk => ?_
    have ex : x' = u := by
      have h1 : its.toArray[i]? = some u := by simpa using hu
      exact Option.some.inj (hx'.symm.trans h1)
    subst ex
    refine ⟨_, rfl, wpAny_letOwnedTupleGo_enum (s := { s with heap := h', toks := tk + 1 }) ho fun h'' he' sb => ?_⟩
    have hT2 : h''.get? s.heap.objs.size = some { cls := .type "tuple", data := .seq #[.int i tk, x'] } := (sb.2 _ (Nat.ne_of_gt hel)).trans hT
    have new : ObjOk X.prog X.w (upd H s.heap.objs.size (.tup [.int (i : Nat), x])) h'' s.heap.objs.size (.tup [.int (i : Nat), x]) :=
      ⟨by show 2 ≤ sizeLine; decide, [.int i tk, x'], .cons ⟨_, rfl⟩ (.cons ru .nil), ⟨_, hT2, rfl, _, rfl⟩⟩
    have I1 : Inv X pins σ (upd H s.heap.objs.size (.tup [.int (i : Nat), x])) { s with heap := h'', toks := tk + 1 } :=
      I.turnedNew (ch := [e, it]) (fun b ob hb q => (sb.2 b (fun z => hb (by simp [z]))).trans (hk b ob (fun z => hb (by simp [z])) (fun z => hb (by simp [z])) q)) hf (Nat.le_refl _) new
    refine ⟨.ref s.heap.objs.size, _, I1, rfl, ⟨_, x, rfl, I.hok.fresh (Nat.le_refl _), rfl, fun ys hy => by rw [I.tuple_inj hy hq]; exact hx⟩, ⟨⟨x', ?_⟩, hst'.1.at fun o q => (sb.2 it (Ne.symm hne)).trans q, hne⟩, fun b hb => ?_⟩
    · have e1 : ((i + 1 : Nat) : Int) = (i : Int) + 1 := by omega
      rw [e1]; exact he'
    · have hb' : b < s.heap.objs.size := by
        have e' : b = e ∨ b = it := by simpa using hb
        rcases e' with z | z
        · rw [z]; exact hel
        · rw [z]; exact hil
      rw [upd_ne (Nat.ne_of_lt hb')]
      exact (hf b hb).1
  done := by
    intro X hP hw hK hc i pins s σ H E I hf st hg
    subst hP hw hK
    obtain ⟨⟨old, he⟩, hit, hne⟩ := st
    obtain ⟨xs, hq, hx⟩ := hg
    obtain ⟨its, rv, p, hz⟩ := I.tuple hq
    have hp : s.heap.IsTuple a its.toArray := p
    obtain ⟨f0, f1, f2, f3, f4, f5⟩ := hf it (by simp)
    have hl := rv.length
    have hh : X.A.handled = none := I.ok.hd hc
    have D : Draws X.prog X.w X.A.in1 it [it, a] i (fun _ _ => False) (fun j h => j = i ∧ h.IsTupleIter it a i ∧ h.IsTuple a its.toArray) :=
      { live := fun _ _ st => let ⟨o, ho, _⟩ := st.2.1; ⟨o, ho⟩
        frame := fun _ _ _ st hk => ⟨st.1, st.2.1.at fun o e => hk it (by simp) o e, st.2.2.at fun o e => hk a (by simp) o e⟩
        item := fun j s Q E hj st hQ => absurd st.1 (Nat.ne_of_lt hj)
        done := fun s Q E st hE => wpAny_nextOf_tuple_end (A := X.A.in1) hh st.2.1 st.2.2 (by simp; omega) hE }
    exact wpAny_pyNext_enum_endD D he ⟨rfl, hit, hp⟩ fun h' eb => ⟨rfl, I.turned (t' := s.toks) (fun b o hb q => eb b o hb q) f0 f1 f3 f4 f5⟩
  self := fun A i s Q E st h => let ⟨⟨_, he⟩, _⟩ := st; wpAny_pyIter_enum he h
def iEnumT (K : PySem.W.Frag) (ta : TA) : TI := fun σ H R => ta σ H fun vs H1 => ∃ a xs, vs = [.ref a] ∧ SqT K H1 a xs ∧ R (ItNT K a) H1
theorem pi_enumT {X : Cx} {e : Expr} {ta : TA} {p pos tpos : Pos} {elts : List Expr} {kk : Nat} (hg : Gl X "enumerate") (hm : X.mg "enumerate" = none) (ha : PA X [e] ta) (hs : starEach [e] X.env = [(false, eval e X.env)] := by rfl) :
    PI X (.Tuple elts kk tpos) (.Call (.Name "enumerate" p) [e] [] pos) (iEnumT X.K ta) := by
  refine ⟨fun pins s σ H R I h => ?_⟩
  refine Call_ (ld_blt I hg hm boot_enumerate (PyProof.Rows.callWith_type1 (thn (ha.run pos pins s σ H _ I h) fun us s1 ⟨vs, H1, I1, r1, q1⟩ => ?_) hs rfl))
  obtain ⟨a, xs, ex, hq, q⟩ := q1
  subst ex
  cases r1 with
  | cons r rr =>
    cases rr
    cases r
    obtain ⟨its, rv, p', hz⟩ := I1.tuple hq
    have hp : s1.heap.IsTuple a its.toArray := p'
    have hal : a < s1.heap.objs.size := by obtain ⟨_, q, _⟩ := hp; exact Heap.lt_size q
    refine call_enumT hp fun h' he hit hsz hk => wpAny_pyIter_enum he ?_
    have I2 : Inv X pins σ H1 { s1 with heap := h' } := I1.kept (t' := s1.toks) hk
    refine ⟨s1.heap.objs.size + 1, [s1.heap.objs.size + 1, s1.heap.objs.size], _, _, H1, rfl, I2, turn_enumT a (s1.heap.objs.size + 1) s1.heap.objs.size (Nat.ne_of_lt hal) (Nat.ne_of_lt (Nat.lt_succ_of_lt hal)), ⟨⟨.none, he⟩, hit, Nat.succ_ne_self _⟩, fun b hb => ?_, q⟩
    have e' : b = s1.heap.objs.size + 1 ∨ b = s1.heap.objs.size := by simpa using hb
    have hle : s1.heap.objs.size ≤ b := by
      rcases e' with z | z
      · rw [z]; exact Nat.le_add_right _ _
      · rw [z]; exact Nat.le_refl _
    exact I1.fpOk hle (I1.hok.fresh hle)
theorem walk_enumT {K : PySem.W.Frag} {a : Addr} {xs : List V} : Walk (ItNT K a) xs.length (fun H => SqT K H a xs) (YPair (fun i => some (.int (i : Nat))) (fun i => xs[i]?)) := by
  refine ⟨fun i _ hi q => ⟨xs, xs[i], q, by simp [hi]⟩, fun _ q => ⟨xs, q, Nat.le_refl _⟩, fun i H v H' _ q y => ?_⟩
  obtain ⟨T, x, h1, h2, h3, h4⟩ := y
  exact ⟨T, .int (i : Nat), x, h1, h2, h3, rfl, h4 xs q⟩
end L2
set_option maxRecDepth 100000
set_option maxHeartbeats 4000000
namespace Kl
open PySem PySem.Spec PyProof.Rows L2 Gx Mx LamX
theorem sumK_snoc {leaf : Str} {M : Mak} : ∀ (qs : List (List Str)) (r : Nat) (q : List Str), sumK leaf M r (qs ++ [q]) = sumK leaf M r qs + kz leaf M (r + qs.length) q
  | [], r, q => by
    show kz leaf M r q + 0 = 0 + kz leaf M (r + 0) q
    rw [Nat.add_zero, Nat.zero_add, Nat.add_zero]
  | x :: qs, r, q => by
    show kz leaf M r x + sumK leaf M (r + 1) (qs ++ [q]) = kz leaf M r x + sumK leaf M (r + 1) qs + kz leaf M (r + (qs.length + 1)) q
    rw [sumK_snoc qs (r + 1) q, show r + 1 + qs.length = r + (qs.length + 1) by omega]
    omega
section
variable {P : Program} {w : World} {K : PySem.W.Frag} {mg : Str → Option Value} {base : Heap}
def spKN (K : PySem.W.Frag) : Sp := fun vs H Q _ => ∃ (pd sz : Addr) (leaf : Str) (M : Mak) (ds : List Addr) (LL : List (Addr × List Str)), vs = [V.ref pd, .ref sz] ∧ RowAt K H pd LL ∧ H sz = some (.lst (ds.map V.ref)) ∧ LL.length ≤ ds.length ∧ RowsAt H leaf M ds ∧
  (∀ i, ∀ z ∈ dg (LL.map (·.2)) i, z ∈ setR leaf M i) ∧ (∀ q ∈ LL, q.2.length ≤ 1000) ∧ LL.length ≤ 1000 ∧ ∀ H', Same H H' → Q (.int (sumK leaf M 0 (LL.map (·.2)) : Nat)) H'
theorem ok_kn {f : Addr} {fd : FuncData} (F : Fun K "_law_keys_in" "_law_keys_in" s_law_keys_in f fd) (T : Top K mg) : FnOk P w K mg base CX0 1 f fd ["_law_digits", "_law_sizes_here"] (spKN K) := by
  refine F.ok sc_law_keys_in (fun vs H Q E h => ?_) (fun cdv A outer s H vs Q E hr h => ?_)
  · obtain ⟨pd, sz, leaf, M, ds, LL, rfl, _⟩ := h
    rfl
  · obtain ⟨pd, sz, leaf, M, ds, LL, rfl, hR, esz, lds, hRw, hex, l1000, lL, q⟩ := h
    have hu := hu_of hr
    refine ⟨_, pss_cut (ps_set (i := 2) sc_law_keys_in.nd rfl (.inl rfl) pe_int)
      (pss_cut (ps_for PassesOwn.never rfl (pi_enumT (by rfl) T.b_enumerate (pa_cons (pv 0) pa_nil)) (pg_tup (n := 2) rfl (pgs_cons (pg_name (i := 3) sc_law_keys_in.nd rfl (.inr rfl)) (pgs_cons (pg_name (i := 4) sc_law_keys_in.nd rfl (.inl rfl)) pgs_nil)))
        (pss_one (ps_set (i := 2) sc_law_keys_in.nd rfl (.inl rfl) (pe_op op_add (pv 2) (pe_callB (cr_sum rfl) (by rfl) T.b_sum (by decide +kernel) (pa_cons (pe_lc (own := [("_law_kind", 5)]) (g := gName 5) (tt := tYes) rfl sc_law_keys_in.nd (pi_tup (pv 4))
          (blkOk_by (N := ["_law_digits", "_law_sizes_here", "_law_total", "_law_rank", "_law_digit_here", "_law_kind"]) (sc := defScope s_law_keys_in) (by decide +kernel)) (fun _ _ _ _ _ => pg_name (i := 5) sc_law_keys_in.nd rfl (.inl rfl)) (fun _ _ _ _ _ => pts_nil)
          (fun _ _ _ _ _ => pe_dget (by exact hu) (pe_ix (ix_listK (K := K) (by exact rfl)) (pv 1) (pv 3) (fun _ _ => rfl)) (pv 5) (fun _ _ => rfl))) pa_nil))))))
      (pss_one (ps_ret (pv 2)))), ?_⟩
    have big : 100000 ≤ sizeLine := by decide
    refine ⟨fun σ' G => σ' = [some (.ref pd), some (.ref sz), some (.int 0), none, none, none] ∧ G = H, ⟨rfl, rfl⟩, ?_⟩
    rintro σ' G ⟨rfl, rfl⟩
    refine ⟨fun σ' G' => ∃ t3 t4 : Option V, σ' = [some (.ref pd), some (.ref sz), some (.int (sumK leaf M 0 (LL.map (·.2)) : Nat)), t3, t4, none] ∧ Same G G', ?_, ?_⟩
    · refine ⟨_, rfl, pd, _, rfl, hR.e, ?_⟩
      refine for_it (walk_enumT (K := K) (a := pd) (xs := LL.map fun q => V.ref q.1)) (fun j σ' G' => ∃ t3 t4 : Option V, σ' = [some (.ref pd), some (.ref sz), some (.int (sumK leaf M 0 ((LL.take j).map (·.2)) : Nat)), t3, t4, none] ∧ Same G G')
        ⟨none, none, rfl, Same.refl G⟩ (fun j σ' G' _ h => by obtain ⟨_, _, _, s⟩ := h; exact sqT_same s hR.e) (fun j v σ' Gx G' hj h hy => ?_) (fun σ' G' h => ?_)
      rotate_left
      · obtain ⟨t3, t4, rfl, s⟩ := h
        rw [List.length_map, List.take_length]
        exact ⟨t3, t4, rfl, s⟩
      obtain ⟨t3, t4, rfl, sm0⟩ := h
      obtain ⟨t', a, b, rfl, nt, rfl, ha, hb⟩ := hy
      cases ha
      have hb : (LL.map fun q => V.ref q.1)[j]? = some b := hb
      rw [List.getElem?_map] at hb
      obtain ⟨q0, hq0, rfl⟩ := Option.map_eq_some_iff.mp hb
      have sm : Same G (upd Gx t' (.tup [.int (j : Nat), .ref q0.1])) := same_new sm0 nt
      refine ⟨t', _, rfl, .inl (.inl upd_same), rfl, _, _, rfl, _, _, rfl, rfl, ?_⟩
      generalize upd Gx t' (.tup [.int (j : Nat), .ref q0.1]) = G3 at sm
      have mq := List.mem_of_getElem? hq0
      have lj : j < LL.length := (List.getElem?_eq_some_iff.mp hq0).1
      have ed : dg (LL.map (·.2)) j = q0.2 := by
        unfold dg
        rw [List.getElem?_map, hq0]
        rfl
      have tk : (LL.take (j + 1)).map (·.2) = (LL.take j).map (·.2) ++ [q0.2] := by rw [List.take_add_one, hq0, List.map_append]; rfl
      have ltk : ((LL.take j).map (·.2)).length = j := by rw [List.length_map, List.length_take]; omega
      have hT0 := sqT_same sm (hR.t q0 mq)
      obtain ⟨ra, hra⟩ : ∃ ra, ds[j]? = some ra := ⟨_, List.getElem?_eq_getElem (by omega)⟩
      have era := sm _ _ (hRw j ra hra)
      have eS := sm _ _ esz
      have hat : atI (ds.map V.ref) ((j : Nat) : Int) = some (.ref ra) := atI_nat (by rw [List.getElem?_map, hra]; rfl)
      have l1 := l1000 q0 mq
      refine ⟨_, rfl, _, rfl, q0.1, rfl, ⟨_, hT0⟩, fun D hD => ?_⟩
      refine lc_it (g := gName 5) (tt := tYes) (vs := [5]) (walk_tup (K := K) (a := q0.1) (xs := q0.2.map V.str)) (fun k G' => G' D = some (.lst (((q0.2.take k).map fun z => ((siz leaf M j z : Nat) : Int)).map V.int)) ∧ Same G3 G')
        ⟨upd_same, same_new (Same.refl G3) hD⟩ (fun k G' _ h => sqT_same h.2 hT0) (fun k u Gx G' hk h hy => ?_) (fun G' h => ?_)
      · obtain ⟨eD, s3⟩ := h
        obtain ⟨rfl, hu⟩ := hy
        obtain ⟨z, hz, rfl⟩ := at_texts hu
        have inz : z ∈ setR leaf M j := hex j z (by rw [ed]; exact List.mem_of_getElem? hz)
        refine ⟨rfl, _, rfl, _, rfl, sz, _, _, .ref ra, rfl, rfl, .inl (.inl (s3 _ _ eS)), hat, _, rfl, ra, _, rfl, .inl ⟨_, Sum.inr z, .inl (s3 _ _ era), rfl, (rowK_get inz).symm⟩, _, eD, ?_, ?_, fun b o e => by rw [upd_ne (ne_of_none e hD)]; exact s3 _ _ e⟩
        · rw [List.length_map, List.length_map, List.length_take]
          omega
        · rw [upd_same, take_snoc hz, List.map_append, List.map_append]
          rfl
      · obtain ⟨eD, s3⟩ := h
        rw [List.length_map, List.take_length] at eD
        refine ⟨D, _, rfl, .inl (.inl eD), _, _, rfl, rfl, ?_⟩
        rw [cast_sum (siz leaf M j) q0.2]
        have e2 : ((sumK leaf M 0 ((LL.take j).map (·.2)) : Nat) : Int) + (((q0.2.map (siz leaf M j)).sum : Nat) : Int) = ((sumK leaf M 0 ((LL.take (j + 1)).map (·.2)) : Nat) : Int) := by
          rw [tk, sumK_snoc, ltk, Nat.zero_add]
          exact (Int.natCast_add _ _).symm
        exact ⟨_, _, congrArg (fun v => [some (V.ref pd), some (.ref sz), some (V.int v), some (V.int (j : Nat)), some (.ref q0.1), none]) e2, sm.trans s3⟩
    rintro σ' G1 ⟨t3, t4, rfl, s1⟩
    exact ⟨_, rfl, q G1 s1⟩
def spTre (K : PySem.W.Frag) : Sp := fun vs H Q _ => ∃ (p : Addr) (LL : List (Addr × List Str)), vs = [V.ref p] ∧ RowAt K H p LL ∧ LL.length ≤ 1000 ∧ ∀ H', Same H H' → Q (.int (((LL.map (·.2)).map List.length).sum : Nat)) H'
theorem ok_tre {f : Addr} {fd : FuncData} (F : Fun K "_law_trees" "_law_trees" s_law_trees f fd) (T : Top K mg) : FnOk P w K mg base CX0 1 f fd ["_law_digits"] (spTre K) := by
  refine F.ok sc_law_trees (fun vs H Q E h => ?_) (fun cdv A outer s H vs Q E hr h => ?_)
  · obtain ⟨p, LL, rfl, _⟩ := h
    rfl
  · obtain ⟨p, LL, rfl, hR1, l1, q⟩ := h
    refine ⟨_, pss_one (ps_ret (pe_callB (cr_sum rfl) (by rfl) T.b_sum (by decide +kernel) (pa_cons (pe_lc (own := [("_law_digit_here", 1)]) (g := gName 1) (tt := tYes) rfl sc_law_trees.nd (pi_tup (pv 0))
        (blkOk_by (N := ["_law_digits", "_law_digit_here"]) (sc := defScope s_law_trees) (by decide +kernel)) (fun _ _ _ _ _ => pg_name (i := 1) sc_law_trees.nd rfl (.inl rfl)) (fun _ _ _ _ _ => pts_nil)
        (fun _ _ _ _ _ => pe_callB (call_lenK (K := K) (by exact rfl)) (by rfl) T.b_len PySem.boot_len (pa_cons (pv 1) pa_nil))) pa_nil))), ?_⟩
    have big : 100000 ≤ sizeLine := by decide
    refine ⟨_, rfl, p, rfl, ⟨_, hR1.e⟩, fun D hD => ?_⟩
    refine lc_it (g := gName 1) (tt := tYes) (vs := [1]) (walk_tup (K := K) (a := p) (xs := LL.map fun q => V.ref q.1)) (fun j G' => G' D = some (.lst (((LL.take j).map fun q => ((q.2.length : Nat) : Int)).map V.int)) ∧ Same H G')
      ⟨upd_same, same_new (Same.refl H) hD⟩ (fun j G' _ h => sqT_sm h.2 hR1.e) (fun j u Gx G' hj h hy => ?_) (fun G' h => ?_)
    · obtain ⟨eD, sm⟩ := h
      obtain ⟨rfl, hu⟩ := hy
      have hu : (LL.map fun q => V.ref q.1)[j]? = some u := hu
      rw [List.getElem?_map] at hu
      obtain ⟨q0, hq0, rfl⟩ := Option.map_eq_some_iff.mp hu
      have hs := sqT_sm sm (hR1.t q0 (List.mem_of_getElem? hq0))
      refine ⟨rfl, _, rfl, q0.1, _, rfl, .inr hs, ?_⟩
      rw [List.length_map]
      refine ⟨_, eD, ?_, ?_, fun b o e => by rw [upd_ne (ne_of_none e hD)]; exact sm b o e⟩
      · rw [List.length_map, List.length_map, List.length_take]
        omega
      · rw [upd_same, take_snoc hq0, List.map_append, List.map_append]
        rfl
    · obtain ⟨eD, sm⟩ := h
      rw [List.length_map, List.take_length] at eD
      refine ⟨D, _, rfl, .inl (.inl eD), ?_⟩
      have h1 := len_sum (LL.map (·.2))
      rw [List.map_map] at h1
      rw [show ((LL.map fun q => ((q.2.length : Nat) : Int))).sum = _ from h1]
      exact q G' sm
end
end Kl
set_option maxRecDepth 100000
set_option maxHeartbeats 4000000
namespace Kl
open PySem PySem.Spec PyProof.Rows L2 Gx Mx LamX
/-- the digit q as it is drawn at the rank i -/
def DigE (leaf : Str) (M : Mak) (i : Nat) (q : List Str) : Prop := sortedS q = true ∧ q.length ≤ 4 ∧ ∀ z ∈ q, z ∈ setR leaf M i
def DigsE (leaf : Str) (M : Mak) (LL : List (Addr × List Str)) : Prop := ∀ i q, LL[i]? = some q → DigE leaf M i q.2
section
variable {P : Program} {w : World} {K : PySem.W.Frag} {mg : Str → Option Value} {base : Heap}
abbrev NDD : List Str := ["_law_dice_here", "_law_plain_here", "_law_sizes_here", "_law_found", "_law_rank", "_law_kinds", "_law_many", "_law_turn"]
def spDD (K : PySem.W.Frag) : Sp := fun vs H Q _ => ∃ (d p sz : Addr) (leaf : Str) (M : Mak) (ds : List Addr), vs = [V.ref d, .ref p, .ref sz] ∧ DiceAt H d ∧ H sz = some (.lst (ds.map V.ref)) ∧ sz ≠ d ∧ ds.length = 41 ∧ RowsAt H leaf M ds ∧ Vld leaf M ∧
  ∀ (p : Addr) (LL : List (Addr × List Str)) H', SameX d H H' → DiceAt H' d → RowAt K H' p LL → DigsE leaf M LL → LL.length ≤ 30 → Q (.ref p) H'
theorem ok_dd {f : Addr} {fd : FuncData} (F : Fun K "_law_drawn_digits" "_law_drawn_digits" s_law_drawn_digits f fd) (T : Top K mg) : FnOk P w K mg base CX0 4 f fd ["_law_dice_here", "_law_plain_here", "_law_sizes_here"] (spDD K) := by
  have cp : Cal P w K mg base 3 "_law_pick" ["_law_dice_here", "_law_items"] (spPick K) := (T.d_law_pick.cal fun f fd F => ok_pick F T).mono (by decide)
  refine F.ok sc_law_drawn_digits (fun vs H Q E h => ?_) (fun cdv A outer s H vs Q E hr h => ?_)
  · obtain ⟨d, p, sz, leaf, M, ds, rfl, _⟩ := h
    rfl
  · obtain ⟨d, p, sz, leaf, M, ds, rfl, hd, esz, nsd, lds, hRw, hV, q⟩ := h
    refine ⟨_, pss_cut (ps_set (i := 3) sc_law_drawn_digits.nd rfl (.inl rfl) (pe_lst pa_nil))
      (pss_cut (ps_for PassesOwn.never rfl (pi_range1 (by rfl) T.b_range (pa_cons (pe_cal cp hr (by rfl) (pa_cons (pv 0) (pa_cons (pe_lst (pa_cons pe_int (pa_cons pe_int (pa_cons pe_int (pa_cons pe_int (pa_cons pe_int (pa_cons pe_int (pa_cons pe_int pa_nil)))))))) pa_nil))) pa_nil)) (pg_name (i := 4) sc_law_drawn_digits.nd rfl (.inl rfl))
        (pss_cut (ps_set (i := 5) sc_law_drawn_digits.nd rfl (.inr rfl) (pe_callB (call_sortedD rfl) (by rfl) T.b_sorted (by decide +kernel) (pa_cons (pe_ix ix_list (pv 2) (pv 4) (fun _ _ => rfl)) pa_nil)))
        (pss_cut (ps_set (i := 6) sc_law_drawn_digits.nd rfl (.inl rfl) (pe_ifExp (pt_cmpR (op_neD hr.units) (pv 5) (pe_lst pa_nil) (by rfl)) (pe_cal cp hr (by rfl) (pa_cons (pv 0) (pa_cons (pe_lst (pa_cons pe_int (pa_cons pe_int (pa_cons pe_int (pa_cons pe_int (pa_cons pe_int (pa_cons pe_int (pa_cons pe_int (pa_cons pe_int pa_nil))))))))) pa_nil))) pe_int))
        (pss_one (ps_expr (pe_bm PySem.F.plainAttrs_list PySem.F.slot_list_append PySem.F.type_list_append mt_append (pv 3) (pa_cons (pe_callTy call_tuple_of (by rfl) T.b_tuple (by decide +kernel) (pa_cons (pe_callB cr_sortedS (by rfl) T.b_sorted (by decide +kernel) (pa_cons
          (pe_lc (own := [("_law_turn", 7)]) (g := gName 7) (tt := tYes) rfl sc_law_drawn_digits.nd (pi_range1 (by rfl) T.b_range (pa_cons (pv 6) pa_nil))
            (blkOk_by (N := NDD) (sc := defScope s_law_drawn_digits) (by decide +kernel)) (fun _ _ _ _ _ => pg_name (i := 7) sc_law_drawn_digits.nd rfl (.inl rfl)) (fun _ _ _ _ _ => pts_nil)
            (fun _ _ _ _ _ => pe_cal cp hr (by rfl) (pa_cons (pv 0) (pa_cons (pv 5) pa_nil)))) pa_nil)) pa_nil)) pa_nil)))))))
      (pss_one (ps_ret (pe_callTy call_tuple_of (by rfl) T.b_tuple (by decide +kernel) (pa_cons (pv 3) pa_nil))))), ?_⟩
    have big : 100000 ≤ sizeLine := by decide
    refine ⟨fun σ' G => ∃ l : Addr, σ' = [some (.ref d), some (.ref p), some (.ref sz), some (.ref l), none, none, none, none] ∧ G l = some (.lst []) ∧ H l = none ∧ Same H G, ?_, ?_⟩
    · exact ⟨Nat.zero_le _, fun l nl => ⟨l, rfl, upd_same, nl, same_new (Same.refl H) nl⟩⟩
    rintro σ' G0 ⟨l, rfl, el0, nlH, s0⟩
    have hd0 : DiceAt G0 d := dice_sm s0 hd
    have nld : l ≠ d := dice_ne hd nlH
    have nls : l ≠ sz := fun z => by rw [z, esz] at nlH; cases nlH
    have rowsX : ∀ {G G' : Hp}, DiceAt G d → SameX d G G' → RowsAt G leaf M ds → RowsAt G' leaf M ds := fun {G G'} hd s h i a e => by
      have h1 := h i a e
      obtain ⟨x, y, z, e2⟩ := hd
      exact s _ _ (fun w => by rw [w, e2] at h1; cases h1) h1
    have rowsL : ∀ {G : Hp} {xs ys : List V}, G l = some (.lst xs) → RowsAt G leaf M ds → RowsAt (upd G l (.lst ys)) leaf M ds := fun {G xs ys} hl h i a e => by
      have h1 := h i a e
      rw [upd_ne (fun w => by rw [w, hl] at h1; cases h1)]
      exact h1
    have pick5 : ∀ {v : V} {xs : List Int}, v ∈ xs.map V.int → (∀ i ∈ xs, 0 ≤ i ∧ i ≤ 30) → ∃ k : Nat, v = .int (k : Nat) ∧ k ≤ 30 ∧ ((k : Nat) : Int) ∈ xs := fun {v xs} hv hx => by
      obtain ⟨i, mi, rfl⟩ := List.mem_map.mp hv
      obtain ⟨h1, h2⟩ := hx i mi
      obtain ⟨k, rfl⟩ := Int.eq_ofNat_of_zero_le h1
      exact ⟨k, rfl, by omega, mi⟩
    refine ⟨fun σ' G => ∃ (LL : List (Addr × List Str)) (t4 t5 t6 : Option V), σ' = [some (.ref d), some (.ref p), some (.ref sz), some (.ref l), t4, t5, t6, none] ∧ G l = some (.lst (LL.map fun q => V.ref q.1)) ∧ TxtsAt K G LL ∧ LL.length ≤ 30 ∧ DigsE leaf M LL ∧ SameX d H G ∧ DiceAt G d, ?_, ?_⟩
    · refine ⟨_, rfl, by show 7 ≤ sizeLine; omega, fun l2 nl2 => ?_⟩
      have s1 := same_new (o := .lst [V.int 0, .int 1, .int 2, .int 3, .int 5, .int 9, .int 30]) (Same.refl G0) nl2
      have el2 : (upd G0 l2 (.lst [V.int 0, .int 1, .int 2, .int 3, .int 5, .int 9, .int 30])) l2 = some (.lst [V.int 0, .int 1, .int 2, .int 3, .int 5, .int 9, .int 30]) := upd_same
      have nl2d : l2 ≠ d := dice_ne hd0 nl2
      generalize upd G0 l2 (.lst [V.int 0, .int 1, .int 2, .int 3, .int 5, .int 9, .int 30]) = G1 at *
      have hd1 : DiceAt G1 d := dice_sm s1 hd0
      refine ⟨d, .ref l2, _, rfl, hd1, .inl ⟨l2, rfl, nl2d, .inl (.inl (.inl el2))⟩, by simp, by show 7 ≤ _; omega, fun v x b c hv => ?_⟩
      obtain ⟨k, rfl, hk, _⟩ := pick5 (xs := [0, 1, 2, 3, 5, 9, 30]) hv (by decide)
      refine ⟨_, rfl, by omega, by omega, ?_⟩
      rw [Int.toNat_natCast]
      have sx1 : SameX d H (upd G1 d (.lst [.int x, .int b, .int c])) := (SameX.of (s0.trans s1)).trans (SameX.refl d G1).atd
      refine for_range (lo := 0) (fun i σ' G => ∃ (LL : List (Addr × List Str)) (t4 t5 t6 : Option V), σ' = [some (.ref d), some (.ref p), some (.ref sz), some (.ref l), t4, t5, t6, none] ∧ G l = some (.lst (LL.map fun q => V.ref q.1)) ∧ TxtsAt K G LL ∧ LL.length = i ∧ DigsE leaf M LL ∧ SameX d H G ∧ DiceAt G d ∧ G sz = some (.lst (ds.map V.ref)) ∧ RowsAt G leaf M ds)
        ⟨[], none, none, none, rfl, by rw [upd_ne nld]; exact s1 _ _ el0, nofun, rfl, (by intro i q e; cases e), sx1, dice_new x b c, by rw [upd_ne nsd]; exact s1 _ _ (s0 _ _ esz), rowsX hd1 (SameX.refl d G1).atd ((hRw.same s0).same s1)⟩ (fun i σ' G hi hI => ?_) (fun σ' G hI => ?_)
      rotate_left
      · obtain ⟨LL, t4, t5, t6, rfl, a, b, c, e, f, g, _⟩ := hI
        exact ⟨LL, t4, t5, t6, rfl, a, b, by omega, e, f, g⟩
      obtain ⟨LL, t4, t5, t6, rfl, eL, hT, lL, hQ, sx, hdG, eS, hRG⟩ := hI
      rw [show (0 : Int) + (i : Nat) = ((i : Nat) : Int) from Int.zero_add _]
      obtain ⟨ra, hra⟩ : ∃ ra, ds[i]? = some ra := ⟨_, List.getElem?_eq_getElem (by omega)⟩
      have era := hRG i ra hra
      -- the kinds there
      refine ⟨fun σ' G' => ∃ (sp : Addr) (ys : List Str), σ' = [some (.ref d), some (.ref p), some (.ref sz), some (.ref l), some (.int (i : Nat)), some (.ref sp), t6, none] ∧ G' sp = some (.lst (ys.map V.str)) ∧ ys.Perm (setR leaf M i) ∧ sp ≠ d ∧ sp ≠ l ∧ Same G G' ∧ G sp = none, ?_, ?_⟩
      · refine ⟨_, rfl, _, rfl, sz, _, _, .ref ra, rfl, rfl, .inl (.inl eS), atI_nat (by rw [List.getElem?_map, hra]; rfl), ra, rowK (rowsR leaf M i), keysR (rowsR leaf M i), rfl, .inl era, rowK_keys _, ?_, fun ys sp hperm hsrt nsp => ?_⟩
        · have := rows_len hV i
          unfold keysR
          rw [List.length_map]
          omega
        · exact ⟨sp, ys, rfl, upd_same, hperm, dice_ne hdG nsp, (fun z => by rw [z, eL] at nsp; cases nsp), same_new (Same.refl G) nsp, nsp⟩
      rintro σ' G2 ⟨sp, ys, rfl, esp, hperm, nspd, nspl, s2, nspG⟩
      have lys : ys.length ≤ 6 := by
        rw [hperm.length_eq]
        unfold setR keysR
        rw [List.length_map]
        exact rows_len hV i
      have nmys : ∀ z ∈ ys, nameB z = true := fun z hz => by
        rcases set_sub i z (hperm.mem_iff.mp hz) with rfl | e
        · exact pool_name hV.lf
        · exact pool_name (hV.keys z e)
      have hd2 := dice_sm s2 hdG
      -- how many
      refine ⟨fun σ' G' => ∃ k : Nat, k ≤ 4 ∧ (0 < k → ys ≠ []) ∧ σ' = [some (.ref d), some (.ref p), some (.ref sz), some (.ref l), some (.int (i : Nat)), some (.ref sp), some (.int (k : Nat)), none] ∧ SameX d G2 G' ∧ DiceAt G' d, ?_, ?_⟩
      · refine ⟨_, rfl, Nat.zero_le _, fun e0 ne0 => ?_⟩
        have s3 := same_new (o := .lst []) (Same.refl G2) ne0
        have ee : (upd G2 e0 (.lst [])) e0 = some (.lst []) := upd_same
        generalize upd G2 e0 (.lst []) = G3 at *
        have hd3 := dice_sm s3 hd2
        refine ⟨.list (tD ys), .list (tD []), .lst (.inl (.inl (s3 _ _ esp))) (dp_texts _), .lst (.inl (.inl ee)) (dp_texts []), shaped_texts fun z mz => names_low (nmys z mz), rfl, ?_⟩
        rw [PyData.eqv, eqv_texts]
        refine ⟨_, rfl, ?_⟩
        by_cases c : ys = []
        · rw [decide_eq_true c]
          refine iteF (by decide) ?_
          exact ⟨0, by omega, fun h => absurd h (by omega), rfl, SameX.of s3, hd3⟩
        · rw [decide_eq_false c]
          refine iteT (by decide) ?_
          refine ⟨_, rfl, by show 8 ≤ sizeLine; omega, fun l3 nl3 => ?_⟩
          have s4 := same_new (o := .lst [V.int 0, .int 0, .int 1, .int 1, .int 2, .int 2, .int 3, .int 4]) (Same.refl G3) nl3
          have el3 : (upd G3 l3 (.lst [V.int 0, .int 0, .int 1, .int 1, .int 2, .int 2, .int 3, .int 4])) l3 = some (.lst [V.int 0, .int 0, .int 1, .int 1, .int 2, .int 2, .int 3, .int 4]) := upd_same
          have nl3d : l3 ≠ d := dice_ne hd3 nl3
          generalize upd G3 l3 (.lst [V.int 0, .int 0, .int 1, .int 1, .int 2, .int 2, .int 3, .int 4]) = G4 at *
          refine ⟨d, .ref l3, _, rfl, dice_sm s4 hd3, .inl ⟨l3, rfl, nl3d, .inl (.inl (.inl el3))⟩, by simp, by show 8 ≤ _; omega, fun v x b c' hv => ?_⟩
          obtain ⟨k, rfl, hk, mk⟩ := pick5 (xs := [0, 0, 1, 1, 2, 2, 3, 4]) hv (by decide)
          have k4 : k ≤ 4 := by
            simp only [List.mem_cons, List.not_mem_nil, or_false] at mk
            omega
          exact ⟨k, k4, fun _ => c, rfl, (SameX.of (s3.trans s4)).trans (SameX.refl d G4).atd, dice_new x b c'⟩
      rintro σ' G1' ⟨many, m4, hne, rfl, sx2, hd2'⟩
      have sxG : SameX d G G1' := (SameX.of s2).trans sx2
      have bd2 := dice_but hdG sxG
      have eL2 := sxG _ _ nld eL
      have eS2 := sxG _ _ nsd eS
      have esp2 := sx2 _ _ nspd esp
      have hR2 := rowsX hdG sxG hRG
      have hT2 : TxtsAt K G1' LL := fun q hq => bd2.sq _ _ (hT q hq)
      have sxH := sx.trans sxG
      clear eL eS hT sx hdG bd2 sx2 sxG hRG esp era
      refine ⟨_, rfl, ⟨.inl ⟨rfl, _, .inl (.inl eL2)⟩, ?_⟩⟩
      refine ⟨_, rfl, _, rfl, by omega, by omega, fun D nD => ?_⟩
      rw [Int.toNat_natCast]
      have hDd : D ≠ d := dice_ne hd2' nD
      have nDs : sp ≠ D := fun z => by rw [← z, esp2] at nD; cases nD
      refine lc_range (lo := 0) (fun j G' => ∃ fs : List Str, G' D = some (.lst (fs.map V.str)) ∧ fs.length = j ∧ (∀ p ∈ fs, p ∈ ys) ∧ SameX d G1' G' ∧ DiceAt G' d)
        ⟨[], upd_same, rfl, nofun, (SameX.refl d _).new nD, dice_upd hd2' hDd⟩ (fun j G' hj hP => ?_) (fun G' hP => ?_)
      · obtain ⟨fs, eD, lf, hf, sx, hdG'⟩ := hP
        refine ⟨rfl, _, rfl, _, rfl, d, .ref sp, _, rfl, hdG', .inl ⟨sp, rfl, nspd, .inl (.inl (.inl (sx _ _ nspd esp2)))⟩, (fun h => hne (by omega) (List.map_eq_nil_iff.mp h)), by rw [List.length_map]; omega, fun v x b c hv => ?_⟩
        obtain ⟨pp, hpp, rfl⟩ := List.mem_map.mp hv
        refine ⟨fs.map V.str, by rw [upd_ne hDd]; exact eD, ?_, fs ++ [pp], ?_, by rw [List.length_append, lf]; rfl, fun y hy => ?_, ?_, dice_upd (dice_new _ _ _) hDd⟩
        · rw [List.length_map]
          omega
        · rw [upd_same, List.map_append]
          rfl
        · rw [List.mem_append, List.mem_singleton] at hy
          rcases hy with hy | rfl
          · exact hf y hy
          · exact hpp
        · exact sx.atd.at nD
      · obtain ⟨fs, eD, lf, hf, sx2, hdG'⟩ := hP
        refine ⟨D, fs, rfl, .inl (.inl eD), by omega, fun zs sp2 hperm2 hsrt nsp2 => ?_⟩
        have hspd : sp2 ≠ d := dice_ne hdG' nsp2
        refine ⟨sp2, _, rfl, .inl ⟨.inl (.inl upd_same), fun tq ntq => ?_⟩⟩
        have sxs : SameX d G1' (upd G' sp2 (.lst (zs.map V.str))) := sx2.new nsp2
        have hds := dice_upd (o := .lst (zs.map V.str)) hdG' hspd
        have htd : tq ≠ d := dice_ne hds ntq
        have sxt : SameX d G1' (upd (upd G' sp2 (.lst (zs.map V.str))) tq (.tup (zs.map V.str))) := sxs.new ntq
        have hdt := dice_upd (o := .tup (zs.map V.str)) hds htd
        have et : (upd (upd G' sp2 (.lst (zs.map V.str))) tq (.tup (zs.map V.str))) tq = some (.tup (zs.map V.str)) := upd_same
        generalize upd (upd G' sp2 (.lst (zs.map V.str))) tq (.tup (zs.map V.str)) = G3 at *
        have eX3 := sxt _ _ nld eL2
        have bu : ButD l G3 (upd G3 l (.lst ((LL.map fun q => V.ref q.1) ++ [V.ref tq]))) := butD_of (fun b o n e => by rw [upd_ne n]; exact e) eX3 (fun _ => nofun) (fun _ _ => nofun)
        have bd := dice_but hd2' sxt
        refine ⟨l, _, _, rfl, rfl, eX3, by rw [List.length_map]; omega, LL ++ [(tq, zs)], _, _, _, rfl, by rw [upd_same, List.map_append]; rfl, fun q hq => ?_, by rw [List.length_append, lL]; rfl, fun j q hj => ?_, fun b o n q => by rw [upd_ne (ne_of_none q nlH)]; exact sxt _ _ n (sxH _ _ n q), dice_upd hdt nld, by rw [upd_ne (Ne.symm nls)]; exact sxt _ _ nsd eS2, rowsL eX3 (rowsX hd2' sxt hR2)⟩
        · rcases List.mem_append.mp hq with h | h
          · exact bu.sq _ _ (bd.sq _ _ (hT2 q h))
          · rw [List.mem_singleton.mp h]
            exact bu.sq _ _ (.inl (.inl et))
        · by_cases c : j < LL.length
          · rw [List.getElem?_append_left c] at hj
            exact hQ j q hj
          · rw [List.getElem?_append_right (by omega)] at hj
            have ej : j - LL.length = 0 := by
              have := (List.getElem?_eq_some_iff.mp hj).1
              rw [List.length_singleton] at this
              omega
            rw [ej] at hj
            cases hj
            have ji : j = i := by omega
            rw [ji]
            exact ⟨hsrt, by rw [hperm2.length_eq, lf]; omega, fun z hz => hperm.mem_iff.mp (hf z (hperm2.mem_iff.mp hz))⟩
    rintro σ' G1 ⟨LL, t4, t5, t6, rfl, eL, hT, lL, hQ, sx, hd1⟩
    refine ⟨_, rfl, l, _, rfl, .inl ⟨.inl (.inl eL), fun tq ntq => ?_⟩⟩
    have s2 := same_new (o := .tup (LL.map fun q => V.ref q.1)) (Same.refl G1) ntq
    exact q tq LL _ (sx.trans (SameX.of s2)) (dice_sm s2 hd1) ⟨.inl (.inl upd_same), fun x hx => sqT_same s2 (hT x hx)⟩ hQ lL
end
end Kl
set_option maxRecDepth 100000
set_option maxHeartbeats 4000000
namespace Kl
open PySem PySem.Spec PyProof.Rows L2 Gx Mx LamX
theorem pinit_by {K : PySem.W.Frag} {C x dx pp mp : Addr} {G : Hp} {g : Pg} {Q : VK} {E : XK} (hp : SqT K G pp (g.pool.map V.str)) (hm : SqT K G mp (g.made.map V.str)) (ok : PgOk g) (nx : G x = none) (nd : G dx = none)
    (q : ∀ G2, PageAt K C G2 x g → Same G G2 → Q .non G2) : spPInit K C [.ref x, .str g.note, .ref pp, .ref mp, .str g.after] (upd (upd G dx (.own x)) x (.ins C dx [])) Q E := by
  have s := mk_same nx nd (o1 := .own x) (o2 := .ins C dx [])
  exact ⟨x, dx, pp, mp, g, rfl, upd_same, sqT_same s hp, sqT_same s hm, ok, fun G2 hP keep => q G2 hP fun b o e => keep b o (ne_of_none e nx) (s _ _ e)⟩
theorem page_but {K : PySem.W.Frag} {C x a : Addr} {G G' : Hp} {g : Pg} (bu : ButD x G G') (ni : ∀ C dm fs, G x ≠ some (.ins C dm fs)) (h : PageAt K C G a g) : PageAt K C G' a g := by
  obtain ⟨dx, pp, mp, h1, h2, h3⟩ := h
  exact ⟨dx, pp, mp, bu.s _ _ (fun z => by rw [z] at h1; exact ni _ _ _ h1) h1, bu.sq _ _ h2, bu.sq _ _ h3⟩
theorem pgs_but {K : PySem.W.Frag} {C x : Addr} {G G' : Hp} (bu : ButD x G G') (ni : ∀ C dm fs, G x ≠ some (.ins C dm fs)) : ∀ {xs : List Addr} {gs : List Pg}, PgsAt K C G xs gs → PgsAt K C G' xs gs
  | _, _, .nil => .nil
  | _, _, .cons h t => .cons (page_but bu ni h) (pgs_but bu ni t)
section
variable {P : Program} {w : World} {K : PySem.W.Frag} {mg : Str → Option Value} {base : Heap}
def spMM (P : Program) (w : World) (K : PySem.W.Frag) (CM CP CK : Addr) (Tb : List (Addr × Str)) : Sp := fun vs H Q _ => ∃ (p : Addr) (S : Bk), vs = [.ref p] ∧ PlainAt P w K H p S ∧ BkV S ∧ Tabs Tb H ∧
  ∀ m kx md M nk gs' H', MachAt P w K CM CP CK H' m kx md S.leaf M nk S.pg gs' → MOk nk M S.pg gs' → OrdOf S.maks M → IsNames S.leaf (keysOf S.maks) nk → ExtN H H' → Tabs Tb H' → Q (.ref m) H'
theorem ok_mm {CM CP CK f : Addr} {fd : FuncData} {Tb : List (Addr × Str)} (F : Fun K "_law_made_machine" "_law_made_machine" s_law_made_machine f fd) (T : Top K mg) (TM : Cl_Machine K mg CM) (TC : Cl_Page K mg CP) (TK : Cl_Kinds K mg CK)
    (kM : CalI P w K mg base CM 8 ["self", "kinds", "pages"] (spMInit P w K CM CP CK Tb)) : FnOk P w K mg base CX0 10 f fd ["_law_plain_here"] (spMM P w K CM CP CK Tb) := by
  have cmk : Cal P w K mg base 9 "_law_made_kinds" ["_law_plain_here"] (spMk P w K CK) := (T.d_law_made_kinds.cal fun f fd F => ok_mk F T TK).mono (by decide)
  have kI : CalI P w K mg base CP 8 ["self", "note", "pool", "made", "after"] (spPInit K CP) := by
    obtain ⟨f, fd, m, F, b⟩ := TC.made
    exact ⟨f, fd, m, (ok_pinit F T TC).mono (by decide), b⟩
  refine F.ok sc_law_made_machine (fun vs H Q E h => ?_) (fun cdv A outer s H vs Q E hr h => ?_)
  · obtain ⟨p, S, rfl, _⟩ := h
    rfl
  · obtain ⟨p, S, rfl, hP, hB, tb, q⟩ := h
    have hu := hu_of hr
    refine ⟨_, pss_cut (ps_set (i := 1) sc_law_made_machine.nd rfl (.inl rfl) (pe_lst pa_nil))
      (pss_cut (ps_lock (ps_for PassesOwn.never rfl (pi_keysN (P := P) (w := w) (K := K) (by exact ⟨rfl, rfl, rfl⟩) (pe_dget hu (pv 0) pe_str (fun _ _ => rfl))) (pg_tup rfl (pgs_cons (pg_name (i := 2) sc_law_made_machine.nd rfl (.inl rfl)) (pgs_cons (pg_name (i := 3) sc_law_made_machine.nd rfl (.inl rfl)) pgs_nil)))
        (pss_cut (ps_asg (pe_nget (P := P) (w := w) (K := K) (by exact ⟨rfl, rfl, rfl⟩) (by exact hr.units) (pe_dget hu (pv 0) pe_str (fun _ _ => rfl)) (pe_tup (pa_cons (pv 2) (pa_cons (pv 3) pa_nil))) (fun _ _ => rfl)) (pg_tup rfl (pgs_cons (pg_name (i := 4) sc_law_made_machine.nd rfl (.inl rfl)) (pgs_cons (pg_name (i := 5) sc_law_made_machine.nd rfl (.inl rfl)) pgs_nil))))
        (pss_one (ps_expr (pe_bm PySem.F.plainAttrs_list PySem.F.slot_list_append PySem.F.type_list_append mt_append (pv 1) (pa_cons (pe_makeC kI hr (by rfl) TC.gC (pa_cons (pv 2) (pa_cons (pv 3) (pa_cons (pv 4) (pa_cons (pv 5) pa_nil))))) pa_nil)))))))
      (pss_one (ps_ret (pe_makeC kM hr (by rfl) TM.gC (pa_cons (pe_cal cmk hr (by rfl) (pa_cons (pv 0) pa_nil)) (pa_cons (pe_callTy call_tuple_of (by rfl) T.b_tuple (by decide +kernel) (pa_cons (pv 1) pa_nil)) pa_nil)))))), ?_⟩
    have big : 100000 ≤ sizeLine := by decide
    obtain ⟨mk, e, r, s', g, hI⟩ := id hP
    obtain ⟨LG, eg, hLG⟩ := hI.hg
    have npg : p ≠ g := Ne.symm (hI.hg.ne hI.hp fun L z => dn_nodK _ z.symm)
    have lLG : LG.length = S.pg.length := hLG.len
    have okS : ∀ g ∈ S.pg, PgOk g := fun g m => (hB.fit g m).1
    refine ⟨fun σ' G => ∃ l : Addr, σ' = [some (.ref p), some (.ref l), none, none, none, none] ∧ G l = some (.lst []) ∧ H l = none ∧ Same H G, ?_, ?_⟩
    · exact ⟨Nat.zero_le _, fun l nl => ⟨l, rfl, upd_same, nl, same_new (Same.refl H) nl⟩⟩
    rintro σ' G0 ⟨l, rfl, el0, nlH, s0⟩
    have nlg : l ≠ g := fun z => by rw [z, eg] at nlH; cases nlH
    refine ⟨fun σ' G => ∃ (xs : List Addr) (t3 t4 t5 t6 : Option V), σ' = [some (.ref p), some (.ref l), t3, t4, t5, t6] ∧ G l = some (.lst (xs.map V.ref)) ∧ PgsAt K CP G xs S.pg ∧ Same H G, ?_, ?_⟩
    · have s0l : ∀ od, Lkd P w H (upd G0 g (.frz od (DN P w g LG))) g od LG := fun od => ⟨upd_same, fun b u n e => by rw [upd_ne n]; exact s0 _ _ e⟩
      refine ⟨g, _, s0 _ _ eg, True.intro, fun od => ⟨_, rfl, p, _, rfl, ?_, g, od, LG, rfl, upd_same, ?_⟩⟩
      · have e1 := DGet.k (k := Sum.inr "pages") (show (upd G0 g (.frz od (DN P w g LG))) p = some (.dK (kvP S.leaf mk S.first e r s' g)) by rw [upd_ne npg]; exact s0 _ _ hI.hp)
        rw [kvP_g] at e1
        exact e1
      refine for_it (walk_keysN (P := P) (w := w) (d := g) (o := od) (L := LG)) (fun j σ' G => ∃ (xs : List Addr) (t3 t4 t5 t6 : Option V), σ' = [some (.ref p), some (.ref l), t3, t4, t5, t6] ∧ G l = some (.lst (xs.map V.ref)) ∧ PgsAt K CP G xs (S.pg.take j) ∧ Lkd P w H G g od LG)
        ⟨[], none, none, none, none, rfl, by rw [upd_ne nlg]; exact el0, .nil, s0l od⟩ (fun j σ' G _ h => by obtain ⟨_, _, _, _, _, _, _, _, k⟩ := h; exact k.at_) (fun j v σ' Gx G hj h hy => ?_) (fun σ' G h => ?_)
      rotate_left
      · obtain ⟨xs, t3, t4, t5, t6, rfl, el, hxs, lk⟩ := h
        have bk := lk.back eg
        rw [lLG, List.take_length] at hxs
        have bu : ButD g G (upd G g (DN P w g LG)) := butD_of (fun b o n e => by rw [upd_ne n]; exact e) lk.at_ (fun _ => nofun) (fun o xs z => dn_notup xs (by injection z))
        exact ⟨lk.at_, xs, t3, t4, t5, t6, rfl, by rw [upd_ne nlg]; exact el, pgs_but bu (fun _ _ _ z => by rw [lk.at_] at z; cases z) hxs, bk⟩
      obtain ⟨xs, t3, t4, t5, t6, rfl, el, hxs, lk⟩ := h
      obtain ⟨rfl, e0, he0, rfl⟩ := hy
      obtain ⟨g0, hg0, e1, ka, t0, m0, ev, ht, hm⟩ := hLG.at_ he0
      rw [e1] at ka
      obtain ⟨gp, hk1, hk2⟩ := keyK_at.mp ka
      have mg0 := List.mem_of_getElem? hg0
      have hgt : getN LG (keyK (placeP g0)) = some (.ref t0) := by
        rw [← ev, ← e1]
        exact getN_ownK (hLG.nd hB.nd.pg) (List.mem_of_getElem? he0)
      have lj : j < S.pg.length := (List.getElem?_eq_some_iff.mp hg0).1
      have l60 := hB.few
      have lxs : xs.length = j := by
        have := Paired.length hxs
        rw [List.length_take] at this
        omega
      refine ⟨_, _, rfl, lk.sq eg hk1, rfl, _, _, rfl, _, _, rfl, rfl, ?_⟩
      have gdict : ∀ G', Same G G' → DGet G' p (.str "pages") (some (.ref g)) := fun G' s => by
        have e1 := DGet.k (k := Sum.inr "pages") (s _ _ (lk.sm p _ npg hI.hp))
        rw [kvP_g] at e1
        exact e1
      refine ⟨fun σ' G' => σ' = [some (.ref p), some (.ref l), some (.str g0.note), some (.ref gp), some (.ref m0), some (.str g0.after)] ∧ Same G G', ?_, ?_⟩
      · refine ⟨_, rfl, p, _, rfl, gdict _ (Same.refl G), _, rfl, _, rfl, by show 2 ≤ sizeLine; omega, fun b1 n1 => ?_⟩
        have s2 := same_new (o := .tup [V.str g0.note, .ref gp]) (Same.refl G) n1
        have eb : (upd G b1 (.tup [V.str g0.note, .ref gp])) b1 = some (.tup [V.str g0.note, .ref gp]) := upd_same
        generalize upd G b1 (.tup [V.str g0.note, .ref gp]) = G2 at *
        have lk2 := lk.more s2
        have ka2 : KeyA K G2 b1 (keyK (placeP g0)) := keyK_mk (.inl (.inl eb)) (lk2.sq eg hk2)
        exact ⟨g, b1, LG, keyK (placeP g0), _, rfl, rfl, ⟨.inr ⟨od, lk2.at_⟩, fun e m => lk2.key eg (hLG.all e m)⟩, ka2, hgt, _, _, rfl, lk2.sq eg ht, rfl, _, _, rfl, _, _, rfl, rfl, rfl, s2⟩
      rintro σ' G2 ⟨rfl, s2⟩
      have lk2 := lk.more s2
      refine ⟨_, rfl, ⟨.inl ⟨rfl, _, .inl (.inl (s2 _ _ el))⟩, ?_⟩⟩
      refine ⟨_, rfl, _, rfl, _, rfl, _, rfl, fun z dz nz ndz nzz => ?_⟩
      refine pinit_by (g := g0) (lk2.sq eg hk2) (lk2.sq eg hm) (okS g0 mg0) nz ndz fun G3 hz s3 => ⟨rfl, ?_⟩
      have s23 := s2.trans s3
      have el3 := s23 _ _ el
      have lk3 := lk.more s23
      have bu : ButD l G3 (upd G3 l (.lst (xs.map V.ref ++ [V.ref z]))) := butD_of (fun b o n e => by rw [upd_ne n]; exact e) el3 (fun _ => nofun) (fun _ _ => nofun)
      have ni : ∀ C dm fs, G3 l ≠ some (.ins C dm fs) := fun _ _ _ z => by rw [el3] at z; cases z
      refine ⟨l, _, _, rfl, rfl, el3, by rw [List.length_map]; omega, xs ++ [z], _, _, _, _, rfl, by rw [upd_same, List.map_append]; rfl, ?_, ⟨by rw [upd_ne (Ne.symm nlg)]; exact lk3.at_, fun b u n e => by rw [upd_ne (ne_of_none e nlH)]; exact lk3.sm b u n e⟩⟩
      rw [List.take_add_one, hg0]
      exact paired_snoc (page_but bu ni hz) (pgs_but bu ni (PgsAt.same s23 hxs))
    rintro σ' G1 ⟨xs, t3, t4, t5, t6, rfl, el, hxs, s1⟩
    refine ⟨_, rfl, p, S, rfl, hP.same s1, hB.vld, fun kx md M nk G2 hK hO hN nx s2 => ?_⟩
    have nkok : ∀ z ∈ nk, PyData.strOk z = true := fun z m => by
      rcases (hN.mem z).mp m with h | h
      · rw [h]; exact names_low (pool_name hB.vld.lf)
      · exact names_low (pool_name (hB.vld.keys z h))
    refine ⟨_, rfl, l, _, rfl, .inl ⟨.inl (.inl (s2 _ _ el)), fun tq ntq => ?_⟩⟩
    have s3 := same_new (o := .tup (xs.map V.ref)) (Same.refl G2) ntq
    have etq : (upd G2 tq (.tup (xs.map V.ref))) tq = some (.tup (xs.map V.ref)) := upd_same
    generalize upd G2 tq (.tup (xs.map V.ref)) = G3 at *
    have s13 := s1.trans (s2.trans s3)
    have fit : ∀ g ∈ S.pg, FitP nk M g := fun g m => (hB.fit g m).to (fun z => hO.look z) hN
    have few : S.pg.length < 64 := by have := hB.few; omega
    exact fun m dm nm ndm nmm => minit_by (hK.same s3) nkok (.inl (.inl etq)) (PgsAt.same (s2.trans s3) hxs) fit hB.nd.pg few nm ndm (tb.ext s13) fun gs' pd G4 hM hOk _ _ sN tb4 => ⟨rfl, q m kx md M nk gs' G4 hM hOk hO hN ((ExtN.of s13).trans sN) tb4⟩
end
end Kl
set_option maxRecDepth 100000
set_option maxHeartbeats 4000000
namespace Gx
open PySem PySem.Spec PyProof.Rows L2
theorem vals_second {kvs : List (Key × V)} {vs : List (Key × Value)} (r : KV kvs vs) : Vals (kvs.map (·.2)) (vs.map (·.2)) := by
  unfold KV at r
  induction r with
  | nil => exact .nil
  | cons h _ ih => exact .cons h.2 ih
end Gx
set_option maxRecDepth 100000
set_option maxHeartbeats 4000000
namespace Gx
open PySem PySem.Spec PyProof.Rows L2
theorem each_strs : ∀ {zs : List Str} {us : List Value}, Vals (zs.map V.str) us → PySem.W.EachIs (fun v (z : Str) => RelV (.str z) v) us zs
  | [], _, .nil => .nil
  | _ :: _, _, .cons h t => .cons h (each_strs t)
theorem strs_each : ∀ {zs : List Str} {us : List Value}, PySem.W.EachIs (fun v (z : Str) => RelV (.str z) v) us zs → Vals (zs.map V.str) us
  | [], _, .nil => .nil
  | _ :: _, _, .cons h t => .cons h (strs_each t)
section
variable {X : Cx} {e : Expr} {te : TE} {p apos cpos pos : Pos}
def tSortVals (te : TE) : TE := fun σ G Q => te σ G fun x G1 => ∃ (d : Addr) (kvs : List (Key × V)) (zs : List Str), x = .ref d ∧ G1 d = some (.dK kvs) ∧ kvs.map (·.2) = zs.map V.str ∧ ∀ (ys : List Str) (l : Addr), ys.Perm zs → G1 l = none → Q (.ref l) (upd G1 l (.lst (ys.map V.str)))
theorem pe_sortVals (hc : X.calm = true) (hu : X.A.units + 64 < cLine) (he : PE X e te) (hg : Gl X "sorted") (hm : X.mg "sorted" = none) (hv : bootBuiltins "sorted" = some (.builtin "sorted")) (hbase : attributeBase e "values" X.env (eval e X.env) = eval e X.env := by rfl) (hline : (apos.endLine == cpos.line) = true := by rfl)
    (hs : starEach [.Call (.Attribute e "values" apos) [] [] cpos] X.env = (false, eval (.Call (.Attribute e "values" apos) [] [] cpos) X.env) :: starEach [] X.env := by rfl) :
    PE X (.Call (.Name "sorted" p) [.Call (.Attribute e "values" apos) [] [] cpos] [] pos) (tSortVals te) := by
  refine ⟨fun pins s σ G Q inv want => wpAny_Call_Name_kw (ld_blt inv hg hm hv (PyProof.Rows.callWith_builtin1 ?_ hs rfl))⟩
  rw [hs]
  refine (fun k => Calls.spliced_cons k) (wpAny_Call_method0_late hbase hline (thn (he.run pins s σ G _ inv want) fun v s1 ⟨x, G1, inv1, r1, d, kvs, zs, ex, hd, ez, q⟩ => ?_))
  subst ex
  obtain rfl : v = Value.ref d := r1
  obtain ⟨few, low, vs, rel, dict⟩ := dk_of inv1.hok hd
  obtain ⟨ep, at1⟩ := dict.dictAt
  obtain ⟨ob, es, here, ex, _⟩ := id at1
  refine ⟨"dict", "dict.values", PySem.F.plainAttrs_dict, PySem.F.slot_dict_values, PySem.F.type_dict_values, ⟨ob, here, ex.1⟩, fun b eb => ?_, Calls.callWith_builtin rfl (PySem.evalArgs_none ?_)⟩
  · cases eb
    exact ⟨ob, here, ex.2.1⟩
  refine call_meetsIn PySem.F.slot_dict_values ⟨ob, here, ex.1⟩ PySem.F.entry_dict_values (PySem.F.args_dict_values_1 _) (meets_dict_values (mixKind X.prog X.w) d low) ⟨⟨vs, dict⟩, ?_⟩
  have inv2 : Inv X pins σ G1 { s1 with heap := s1.heap.push { cls := .type "dict_values", data := .fields #[.ref d] } } := inv1.kept (t' := s1.toks) fun b o eb => Heap.get?_push_of_some _ eb
  refine Calls.spliced_nil ?_
  have lv : vs.length = zs.length := by
    rw [← rel.length, ← List.length_map (f := fun kv : Key × V => kv.2), ez, List.length_map]
  have evs := vals_second rel
  rw [ez] at evs
  refine sortedK (PySem.W.kdl_values (knd := mixKind X.prog X.w) (kvs := vs) (ep := ep) (r := s1.heap.objs.size) (d := d)) (inv1.ok.hd hc) ⟨⟨_, Heap.get?_push_size _ rfl, rfl, rfl⟩, at1.push _⟩ (by rw [← rel.length]; exact few) (fun v (z : Str) => RelV (.str z) v) (fun z : Str => PyData.str z) zs (fun acc hacc => ?_) (fun v b hb e => ?_) (PySem.W.AllAlike.of fun b b' => rfl) (PySem.W.Sortable.others fun b => ⟨nofun, nofun⟩) (fun b hb => ?_) fun h' tk p out c hk hp hgt ho => ?_
  · have eqv : acc.toList = vs.map (·.2) := PySem.W.kdl_vals_eq acc.toList (by rw [Array.length_toList]; exact hacc.1) fun j v ej => hacc.2 j v (by rw [← Array.getElem?_toList]; exact ej)
    rw [eqv]
    exact each_strs evs
  · exact Dp.reads inv2 (.str b) (.str b) v (.str _) e
  · show X.A.units + 2 + (PyData.str b).depth < cLine
    rw [PyData.depth]
    omega
  · have hperm : (zs.mergeSort (PySem.W.dataLe false fun z : Str => PyData.str z)).Perm zs := List.mergeSort_perm _ _
    generalize zs.mergeSort (PySem.W.dataLe false fun z : Str => PyData.str z) = ys at ho hperm
    have hlen : (ys.map V.str).length ≤ sizeLine := by rw [List.length_map, hperm.length_eq, ← lv, ← rel.length]; exact few
    exact ⟨.ref p, upd G1 p (.lst (ys.map V.str)), inv2.laid (t' := tk) hk hp ⟨hlen, out, c, strs_each ho, hgt⟩, rfl, q ys p hperm (inv2.hok.fresh hp)⟩
end
end Gx
set_option maxRecDepth 100000
set_option maxHeartbeats 4000000
namespace Kl
open PySem PySem.Spec PyProof.Rows L2 Gx Mx LamX
def ntB (S : Bk) : Bool := S.st.all (fun x => decide (x.2 ∈ (["m", "p", "e"] : List Str))) && decide (S.st.length ≤ 10)
structure BkN (S : Bk) : Prop where
  st : ∀ x ∈ S.st, x.2 ∈ (["m", "p", "e"] : List Str)
  few : S.st.length ≤ 10
theorem ntB_ok {S : Bk} (h : ntB S = true) : BkN S := by
  unfold ntB at h
  simp only [Bool.and_eq_true, decide_eq_true_eq, List.all_eq_true] at h
  exact ⟨fun x m => h.1 x m, h.2⟩
theorem wbk_nt (k : Nat) : BkN (stOf (wbk k)) := by
  match k with
  | 0 => exact ntB_ok (by decide +kernel : ntB (stOf bkBin) = true)
  | 1 => exact ntB_ok (by decide +kernel : ntB (stOf bkTer) = true)
  | 2 => exact ntB_ok (by decide +kernel : ntB (stOf bkTwo) = true)
  | 3 => exact ntB_ok (by decide +kernel : ntB (stOf bkGui) = true)
  | 4 => exact ntB_ok (by decide +kernel : ntB (stOf bkTur) = true)
  | n + 5 => exact ntB_ok (by decide +kernel : ntB (stOf bkThr) = true)
theorem obk_nt (k : Nat) : BkN (stOf (obk k)) := by
  match k with
  | 0 => exact ntB_ok (by decide +kernel : ntB (stOf bkO0) = true)
  | 1 => exact ntB_ok (by decide +kernel : ntB (stOf bkO1) = true)
  | n + 2 => exact ntB_ok (by decide +kernel : ntB (stOf bkO2) = true)
theorem BkN.var {bk ls : List PLine} (h : BkN (stOf bk)) (v : VarL bk ls) : BkN (stOf ls) := by
  have b := v.bk
  exact ⟨by rw [b.st]; exact h.st, by rw [b.st]; exact h.few⟩
end Kl
set_option maxRecDepth 100000
namespace L2
open PySem PySem.Spec PyProof.Rows
set_option maxHeartbeats 4000000
theorem tuple_mul1 (l : Addr) (items : Array Value) (n : Nat) (dd : Option Addr) (sl : Array (Option Value)) (u : Tok) :
    Meets (Builtin.«tuple.__mul__» ⟨[.ref l, .int 1 u], []⟩) (fun _ R s => s.heap.get? l = some { cls := .type "tuple", dict := dd, data := .seq items n, slots := sl } ∧ R (.ok (.ret (.ref l))) s) :=
  .of_wp fun prog w A R s h => by
    obtain ⟨hp, g, d, tk, os⟩ := s
    obtain ⟨hl, h⟩ := h
    have f1 := AutoSeq1.idx_int
    wp_walk using wpAny_loadPart' hl
    repeat (first
      | (refine wpAny_ite_false (decide_eq_false (by decide)) ?_; wp_walk using wpAny_loadPart' hl)
      | (refine wpAny_ite_true (decide_eq_true (by simp)) ?_; wp_walk using wpAny_loadPart' hl))
    exact ⟨_, rfl, h⟩
theorem tuple_mul0 (l : Addr) (items : Array Value) (n : Nat) (dd : Option Addr) (sl : Array (Option Value)) (u : Tok) (c1 : items.isEmpty = false) :
    Meets (Builtin.«tuple.__mul__» ⟨[.ref l, .int 0 u], []⟩) (fun _ R s => s.heap.get? l = some { cls := .type "tuple", dict := dd, data := .seq items n, slots := sl } ∧
      R (.ok (.ret (.ref s.heap.objs.size))) { s with heap := s.heap.push { cls := .type "tuple", data := .seq #[] } }) :=
  .of_wp fun prog w A R s h => by
    obtain ⟨hp, g, d, tk, os⟩ := s
    obtain ⟨hl, h⟩ := h
    have f1 := AutoSeq1.idx_int
    wp_walk using wpAny_loadPart' hl
    repeat (first
      | (refine wpAny_ite_false (decide_eq_false (by decide)) ?_; wp_walk using wpAny_loadPart' hl)
      | (refine wpAny_ite_false (decide_eq_false (by rw [c1]; decide)) ?_; wp_walk using wpAny_loadPart' hl)
      | (refine wpAny_ite_true (decide_eq_true (by decide)) ?_; wp_walk using wpAny_loadPart' hl)
      | (refine wpAny_ite_true (decide_eq_true (by simp)) ?_; wp_walk using wpAny_loadPart' hl))
    exact ⟨_, rfl, h⟩
/-- t * k, 0 ≤ k: some object that holds t so many times -/
def rRepS (K : PySem.W.Frag) : R2 := fun x y H Q => ∃ (l : Addr) (k : Nat) (xs : List V), x = .ref l ∧ y = .int (k : Nat) ∧ SqT K H l xs ∧ xs ≠ [] ∧ k ≤ 1000 ∧ xs.length ≤ 1000 ∧ ∀ p G, Same H G → SqT K G p (List.replicate k xs).flatten → Q (.ref p) G
section
variable {X : Cx}
theorem op_repS : OpR X (binaryOp .Mult) (rRepS X.K) := by
  intro pins s σ H x y v u Q I rx ry h
  obtain ⟨l, k, xs, rfl, rfl, hT, hne, h1, hz, q⟩ := h
  by_cases c : 2 ≤ k
  · refine op_repT pins s σ H _ _ v u Q I rx ry ⟨l, _, xs, rfl, rfl, hT, hne, by omega, by omega, hz, fun p np => q p _ (fun b u e => by rw [upd_ne (fun z => by rw [z, np] at e; cases e)]; exact e) ?_⟩
    rw [Int.toNat_natCast]
    exact .inl (.inl upd_same)
  cases rx
  obtain ⟨t, rfl⟩ := ry
  obtain ⟨its, r, ⟨⟨cls, dd, data, sl⟩, ho, hc, n, hd⟩, hs⟩ := I.tuple hT
  simp only at hc hd
  subst hc hd
  have hn : its.toArray.isEmpty = false := by
    cases its with
    | nil => exact absurd (List.eq_nil_of_length_eq_zero (by rw [r.length]; rfl)) hne
    | cons a b => rfl
  by_cases c1 : k = 1
  · subst c1
    refine wpAny_binaryOp_repeat_ref (T := "tuple") (U := "int") (by decide) ⟨_, ho, rfl⟩ (fun s' => typeIs_int s' 1 t) noFill_tuple_mul F.fills_int_mul F.slot_int_rmul repeat_tuple F.slot_int_index.lookup
      (call_meets F.slot_int_rmul (typeIs_int s 1 t) F.entry_int_rmul (F.args_int_rmul_2 _ _) (int_rmul_tuple 1 t l its.toArray n dd sl)
        ⟨ho, rfl, ⟨_, ho, rfl⟩, call_meets F.slot_tuple_mul ⟨_, ho, rfl⟩ F.entry_tuple_mul (F.args_tuple_mul_2 _ _) (tuple_mul1 l its.toArray n dd sl t) ⟨ho, ?_⟩⟩)
    refine ⟨.ref l, H, I, rfl, q l H (Same.refl H) ?_⟩
    rw [List.replicate_one, List.flatten_singleton]
    exact hT
  · have c0 : k = 0 := by omega
    subst c0
    refine wpAny_binaryOp_repeat_ref (T := "tuple") (U := "int") (by decide) ⟨_, ho, rfl⟩ (fun s' => typeIs_int s' 0 t) noFill_tuple_mul F.fills_int_mul F.slot_int_rmul repeat_tuple F.slot_int_index.lookup
      (call_meets F.slot_int_rmul (typeIs_int s 0 t) F.entry_int_rmul (F.args_int_rmul_2 _ _) (int_rmul_tuple 0 t l its.toArray n dd sl)
        ⟨ho, rfl, ⟨_, ho, rfl⟩, call_meets F.slot_tuple_mul ⟨_, ho, rfl⟩ F.entry_tuple_mul (F.args_tuple_mul_2 _ _) (tuple_mul0 l its.toArray n dd sl t hn) ⟨ho, ?_⟩⟩)
    have hf := I.hok.fresh (Nat.le_refl s.heap.objs.size)
    refine ⟨.ref s.heap.objs.size, _, I.laid (t' := s.toks) (o := .tup []) (fun b ob e => Heap.get?_push_of_some _ e) (Nat.le_refl _) ?_, rfl, q _ _ (fun b u e => by rw [upd_ne (fun z => by rw [z, hf] at e; cases e)]; exact e) (.inl (.inl upd_same))⟩
    exact ⟨Nat.zero_le _, [], .nil, IsTup.new _ _⟩
end
end L2
set_option maxRecDepth 100000
set_option maxHeartbeats 4000000
namespace Kl
open PySem PySem.Spec PyProof.Rows L2 Gx Mx LamX
theorem RunR.small {st : Stp} {ns : List Str} {M : Mak} (hst : ∀ n pool, StepF ns M pool (st n pool)) {ds : List (List Str)} {c : List Str} {n : Str} {rs : List (List Str)} {ss : List StepT} (h : RunR st ds c n rs ss) :
    (∀ q ∈ ds, q.length ≤ 18) → c.length ≤ 2 → (∀ q ∈ rs, q.length ≤ 20) ∧ ∀ s ∈ ss, s.1.length ≤ 20 ∧ s.2.1.length ≤ 2 ∧ ∀ z ∈ s.2.1, z ∈ keysOf M := by
  induction h with
  | nil => intro _ _; exact ⟨nofun, nofun⟩
  | @step ds c n pool rs ss a p s t ih =>
    intro h1 h2
    have hf := hst n pool
    have hh : (ds.headD []).length ≤ 18 := by
      cases ds with
      | nil => exact Nat.zero_le _
      | cons q ds => exact h1 q List.mem_cons_self
    have lp : pool.length ≤ 20 := by
      have := p.length_eq
      rw [List.length_append] at this
      omega
    obtain ⟨i1, i2⟩ := ih (fun q mq => h1 q (List.mem_of_mem_tail mq)) hf.made
    refine ⟨fun q mq => ?_, fun x mx => ?_⟩
    · rcases List.mem_cons.mp mq with rfl | mq
      · exact Nat.le_trans hf.sub.length_le lp
      · exact i1 q mq
    · rcases List.mem_cons.mp mx with rfl | mx
      · exact ⟨lp, hf.made, hf.keys⟩
      · exact i2 x mx
theorem sm_names {n : Nat} {zs : List Str} (h : ∀ z ∈ zs, nameB z = true) (hn : zs.length ≤ n) : Sm (n * 9) 1 (.tuple (tD zs)) := sm_texts (B := 8) (fun z mz => ⟨names_low (h z mz), name_len (h z mz)⟩) hn
theorem NmsOk.sm {r : List (List Str)} {ss : List StepT} (h : NmsOk r ss) (lr : r.length ≤ 32) (ls : ss.length ≤ 32) (q20 : ∀ q ∈ r, q.length ≤ 20) (s20 : ∀ s ∈ ss, s.1.length ≤ 20 ∧ s.2.1.length ≤ 2) : Sm 100000 4 (resD r ss) := by
  have l1 : Sm 20000 3 (rD r) := Sm.tup (B := 180) (k := 1) (n := 32) (fun d hd => by
    obtain ⟨q, mq, rfl⟩ := List.mem_map.mp hd
    exact sm_names (n := 20) (h.row q mq) (q20 q mq)) (by rw [List.length_map]; exact lr) (by decide) (by decide)
  have l2 : Sm 20000 3 (.tuple (ss.map stepD)) := Sm.tup (B := 600) (k := 2) (n := 32) (fun d hd => by
    obtain ⟨s, ms, rfl⟩ := List.mem_map.mp hd
    obtain ⟨a, b, c⟩ := h.st s ms
    exact Sm.tup (B := 180) (k := 1) (n := 3) (sm_cons (sm_names (n := 20) a (s20 s ms).1) (sm_cons ((sm_names (n := 2) b (s20 s ms).2).up (by decide) (by decide)) (sm_cons (Sm.str (names_low c) (Nat.le_trans (name_len c) (by decide))) sm_nil))) (Nat.le_refl _) (by decide) (by decide)) (by rw [List.length_map]; exact ls) (by decide) (by decide)
  exact Sm.tup (B := 20000) (k := 3) (n := 2) (sm_cons l1 (sm_cons l2 sm_nil)) (Nat.le_refl _) (by decide) (by decide)
theorem kz_leaf (leaf : Str) (M : Mak) : ∀ k, kz leaf M 0 (List.replicate k leaf) = k
  | 0 => rfl
  | k + 1 => by
    show siz leaf M 0 leaf + kz leaf M 0 (List.replicate k leaf) = k + 1
    rw [siz_zero, kz_leaf leaf M k]
    omega
theorem set_zero (leaf : Str) (M : Mak) : setR leaf M 0 = [leaf] := rfl
theorem lessS_snoc {M : Mak} (ss : List StepT) (s : StepT) : lessS M (ss ++ [s]) = lessS M ss + lessF M s.2.1 := by
  unfold lessS
  rw [List.map_append, List.sum_append]
  rfl
theorem good_leaf {leaf : Str} (h : leaf ∈ POOL) {k : Nat} (hk : k ≤ 2) : goodM 20 (List.replicate k leaf) = true := by
  have e : ((List.range 3).all fun k => POOL.all fun z => goodM 20 (List.replicate k z)) = true := by decide +kernel
  exact List.all_eq_true.mp (List.all_eq_true.mp e k (List.mem_range.mpr (by omega))) leaf h
theorem note_m {z : Str} (h : z ∈ (["m", "p", "e"] : List Str)) : nameB z = true := by
  have e : ((["m", "p", "e"] : List Str).all nameB) = true := by decide +kernel
  exact List.all_eq_true.mp e z h
theorem no_neT {z : Str} {Q R : Prop} (r : R) : if (!decide (V.str z = V.str z)) = true then Q else R := by
  rw [decide_eq_true rfl]
  exact r
theorem ne_ints {a b : Int} (h : a = b) : ¬ ((!decide (V.int a = V.int b)) = true) := by
  subst h
  rw [decide_eq_true rfl]
  decide
theorem log2_by {t : Int} (h0 : 0 ≤ t) (h : t ≤ 100000) : t.natAbs.log2 < 9000 := by
  obtain ⟨n, rfl⟩ := Int.eq_ofNat_of_zero_le h0
  exact log2_small (by omega)
theorem ResAt.sq {K : PySem.W.Frag} {H H' : Hp} {t : Addr} {r : List (List Str)} {ss : List StepT} (h : ResAt K H t r ss) (sq : ∀ a xs, SqT K H a xs → SqT K H' a xs) : ResAt K H' t r ss := by
  obtain ⟨ra, ga, L2, xs, a, b, c, d, e⟩ := h
  exact ⟨ra, ga, L2, xs, sq _ _ a, b.sq sq, c, sq _ _ d, e.go sq⟩
section
variable {P : Program} {w : World} {K : PySem.W.Frag} {mg : Str → Option Value} {base : Heap}
/-- what stands while it goes on -/
structure RI (P : Program) (w : World) (K : PySem.W.Frag) (CM CP CK : Addr) (Tb : List (Addr × Str)) (m kx md sz d p : Addr) (S : Bk) (M : Mak) (nk : List Str) (gs' : List Pg) (ds : List Addr) (H G : Hp) : Prop where
  hM : MachAt P w K CM CP CK G m kx md S.leaf M nk S.pg gs'
  esz : G sz = some (.lst (ds.map V.ref))
  rows : RowsAt G S.leaf M ds
  hP : PlainAt P w K G p S
  x : ExtX d H G
  hd : DiceAt G d
  tb : Tabs Tb G
section
variable {CM CP CK m kx md sz d p : Addr} {Tb : List (Addr × Str)} {S : Bk} {M : Mak} {nk : List Str} {gs' : List Pg} {ds : List Addr} {H G G' : Hp}
theorem RI.same (h : RI P w K CM CP CK Tb m kx md sz d p S M nk gs' ds H G) (s : Same G G') : RI P w K CM CP CK Tb m kx md sz d p S M nk gs' ds H G' :=
  ⟨h.hM.same s, s _ _ h.esz, h.rows.same s, h.hP.same s, h.x.trans (.of s), dice_sm s h.hd, h.tb.ext s⟩
theorem RI.dice (h : RI P w K CM CP CK Tb m kx md sz d p S M nk gs' ds H G) (s : SameX d G G') (hd' : DiceAt G' d) (n : sz ≠ d) : RI P w K CM CP CK Tb m kx md sz d p S M nk gs' ds H G' :=
  ⟨h.hM.dice h.hd s, s _ _ n h.esz, fun i a e => by
    have h1 := h.rows i a e
    obtain ⟨x, y, z, e2⟩ := h.hd
    exact s _ _ (fun w => by rw [w, e2] at h1; cases h1) h1, h.hP.dice h.hd s, h.x.trans (ext_ofX s), hd', tabs_dice h.tb h.hd s⟩
end
theorem run_by {CM CP CK m kx md pd c0 : Addr} {leaf note : Str} {M : Mak} {ns cs0 : List Str} {gs gs' : List Pg} {C : List (Addr × List Str)} {G : Hp} {Q : VK} {E : XK} (hM : MachAt P w K CM CP CK G m kx md leaf M ns gs gs') (hOk : MOk ns M gs gs') (nsok : ∀ z ∈ ns, PyData.strOk z = true)
    (two : ∀ z ps, lookM M z = some ps → 2 ≤ ps.length) (hn : nameB note = true) (hR : RowAt K G pd C) (l402 : C.length ≤ 402) (hg : ∀ q ∈ C, goodB q.2 = true ∧ q.2.length ≤ 18 ∧ ∀ z ∈ q.2, z ∈ ns) (h0 : SqT K G c0 (cs0.map V.str)) (hc : goodM 20 cs0 = true) (lc : cs0.length ≤ 2) (hcn : ∀ z ∈ cs0, z ∈ ns)
    (q : ∀ t rs ss n H', Same G H' → ResAt K H' t (rs.take n) ss → IsEnd rs n → RunR (stepM M gs) (C.map (·.2)) cs0 note rs ss → ss.length ≤ C.length + 2 → Q (.ref t) H') : spMRun P w K CM CP CK [.ref m, .str note, .ref pd, .ref c0] G Q E :=
  ⟨m, kx, md, leaf, M, ns, gs, gs', note, pd, c0, cs0, C, rfl, hM, hOk, nsok, two, hn, hR, l402, hg, h0, hc, lc, hcn, fun t ra ga L2 xs rs ss n H' s h1 h2 h3 h4 h5 h6 h7 h8 => q t rs ss n H' s ⟨ra, ga, L2, xs, h1, h2, h3, h5, h6⟩ h4 h7 h8⟩
abbrev NRT : List Str := ["_law_dice_here", "_law_plain_here", "_law_machine", "_law_sizes_here", "_law_turn", "_law_digits", "_law_note", "_law_brought", "_law_told", "_law_due", "_law_less", "_law_pool", "_law_made", "_law_after", "_law_name"]
def spRT (P : Program) (w : World) (K : PySem.W.Frag) (CM CP CK : Addr) (Tb : List (Addr × Str)) : Sp := fun vs H Q _ => ∃ (d p : Addr) (S : Bk), vs = [V.ref d, V.ref p] ∧ DiceAt H d ∧ PlainAt P w K H p S ∧ BkV S ∧ BkN S ∧ Tabs Tb H ∧ ∀ H', ExtX d H H' → DiceAt H' d → PlainAt P w K H' p S → Tabs Tb H' → Q (.bl true) H'
theorem ok_rt {CM CP CK f : Addr} {fd : FuncData} {Tb : List (Addr × Str)} (F : Fun K "_law_right" "_law_right" s_law_right f fd) (T : Top K mg) (TM : Cl_Machine K mg CM) (TC : Cl_Page K mg CP) (TK : Cl_Kinds K mg CK)
    (kM : CalI P w K mg base CM 8 ["self", "kinds", "pages"] (spMInit P w K CM CP CK Tb)) : FnG P w K mg base CX0 12 f fd ["_law_dice_here", "_law_plain_here"] (spRT P w K CM CP CK Tb) := by
  have cp : Cal P w K mg base 11 "_law_pick" ["_law_dice_here", "_law_items"] (spPick K) := (T.d_law_pick.cal fun f fd F => ok_pick F T).mono (by decide)
  have cro : Cal P w K mg base 11 "_law_roll" ["_law_dice_here", "_law_total"] spRoll := (T.d_law_roll.cal fun f fd F => ok_roll F T).mono (by decide)
  have cdd : Cal P w K mg base 11 "_law_drawn_digits" ["_law_dice_here", "_law_plain_here", "_law_sizes_here"] (spDD K) := (T.d_law_drawn_digits.cal fun f fd F => ok_dd F T).mono (by decide)
  have cmm : Cal P w K mg base 11 "_law_made_machine" ["_law_plain_here"] (spMM P w K CM CP CK Tb) := (T.d_law_made_machine.cal fun f fd F => ok_mm F T TM TC TK kM).mono (by decide)
  have csz : Cal P w K mg base 11 "_law_sizes" ["_law_plain_here", "_law_bound"] spSizes := (T.d_law_sizes.cal fun f fd F => ok_sizes F T).mono (by decide)
  have clr : Cal P w K mg base 11 "_law_run" ["_law_plain_here", "_law_note", "_law_digits", "_law_brought"] (spLR P w K) := (T.d_law_run.cal fun f fd F => ok_lr F T).mono (by decide)
  have cip : Cal P w K mg base 11 "_law_in_parts" ["_law_machine", "_law_note", "_law_digits", "_law_brought", "_law_at"] (spIP P w K CM CP CK) := (T.d_law_in_parts.cal fun f fd F => ok_ip F T TM TC TK).mono (by decide)
  have ctr : Cal P w K mg base 11 "_law_trees" ["_law_digits"] (spTre K) := (T.d_law_trees.cal fun f fd F => ok_tre F T).mono (by decide)
  have ckn : Cal P w K mg base 11 "_law_keys_in" ["_law_digits", "_law_sizes_here"] (spKN K) := (T.d_law_keys_in.cal fun f fd F => ok_kn F T).mono (by decide)
  have kRun : CalMKK P w K mg base CM "run" 6 ["self", "note", "digits", "carried"] 3 "carried" (spMRun P w K CM CP CK) := TM.m_run.calK fun f fd F => ok_mrun F T TM TC TK
  have kRun0 : CalMK P w K mg base CM "run" 6 ["self", "note", "digits", "carried"] (spMRun P w K CM CP CK) := TM.m_run.dfl.cal fun f fd F => ok_mrun F T TM TC TK
  refine okG F sc_law_right (fun vs H Q E h => ?_) (fun cdv A outer s H vs Q E hgd hr h => ?_)
  · obtain ⟨d, p, S, rfl, _⟩ := h
    rfl
  · obtain ⟨d, p, S, rfl, hd, hP, hB, hN, tb, q⟩ := h
    have hu := hu_of hr
    refine ⟨_, pss_cut (ps_par (i := 2) (j := 3) rfl sc_law_right.nd rfl rfl (by decide) rfl rfl (pa_cons (pe_cal cmm hr (by rfl) (pa_cons (pv 1) pa_nil)) (pa_cons (pe_cal csz hr (by rfl) (pa_cons (pv 1) (pa_cons pe_int pa_nil))) pa_nil)) (by kernel_rfl))
      (pss_cut (ps_for PassesOwn.never rfl (pi_range1 (by rfl) T.b_range (pa_cons pe_int pa_nil)) (pg_name (i := 4) sc_law_right.nd rfl (.inl rfl))
        (pss_cut (ps_par (i := 5) (j := 6) rfl sc_law_right.nd rfl rfl (by decide) rfl rfl (pa_cons (pe_cal cdd hr (by rfl) (pa_cons (pv 0) (pa_cons (pv 1) (pa_cons (pv 3) pa_nil)))) (pa_cons (pe_cal cp hr (by rfl) (pa_cons (pv 0) (pa_cons (pe_op op_cat (pe_sortVals rfl hr.units (pe_dget hu (pv 1) pe_str (fun _ _ => rfl)) (by rfl) T.b_sorted (by decide +kernel)) (pe_lst (pa_cons pe_str pa_nil))) pa_nil))) pa_nil)) (by kernel_rfl))
        (pss_cut (ps_set (i := 7) sc_law_right.nd rfl (.inl rfl) (pe_cal cp hr (by rfl) (pa_cons (pv 0) (pa_cons (pe_lst (pa_cons (pe_tup pa_nil) (pa_cons (pe_tup (pa_cons (pe_dget hu (pv 1) pe_str (fun _ _ => rfl)) pa_nil)) (pa_cons (pe_op op_repS (pe_tup (pa_cons (pe_dget hu (pv 1) pe_str (fun _ _ => rfl)) pa_nil)) pe_int) pa_nil)))) pa_nil))))
        (pss_cut (ps_par (i := 8) (j := 9) rfl sc_law_right.nd rfl rfl (by decide) rfl rfl (pa_cons (pe_methKK (pl := _) (pv 2) TM.cl kRun (hr.mono (by decide)) (pa_cons (pv 6) (pa_cons (pv 5) pa_nil)) (pk_cons (pv 7) pk_nil)) (pa_cons (pe_cal clr hr (by rfl) (pa_cons (pv 1) (pa_cons (pv 6) (pa_cons (pv 5) (pa_cons (pv 7) pa_nil))))) pa_nil)) (by kernel_rfl))
        (pss_cut (ps_if (PW.pt (pw_or (pt_cmpR op_ne (pe_callB (call_reprE hgd hr.units) (by rfl) T.b_repr (by decide +kernel) (pa_cons (pv 8) pa_nil)) (pe_callB (call_reprE hgd hr.units) (by rfl) T.b_repr (by decide +kernel) (pa_cons (pv 9) pa_nil)) (by rfl))
            (pw_or1 (PW.pt (pw_and (pt_cmpR (op_eqD hr.units) (pv 7) (pe_tup pa_nil) (by rfl)) (pw_and1 (pt_cmpR (op_neD hr.units) (pe_methK (pl := _) (pv 2) TM.cl kRun0 (hr.mono (by decide)) (pa_cons (pv 6) (pa_cons (pv 5) pa_nil))) (pv 9) (by rfl)))))))) (pss_one (ps_ret pe_bl)) pss_nil)
        (pss_cut (ps_if (pt_cmpR (op_neD hr.units) (pe_cal cip hr (by rfl) (pa_cons (pv 2) (pa_cons (pv 6) (pa_cons (pv 5) (pa_cons (pv 7) (pa_cons (pe_cal cro hr (by rfl) (pa_cons (pv 0) (pa_cons (pe_op op_add (pe_callB call_len_seq (by rfl) T.b_len PySem.boot_len (pa_cons (pv 5) pa_nil)) pe_int) pa_nil))) pa_nil)))))) (pv 9) (by rfl)) (pss_one (ps_ret pe_bl)) pss_nil)
        (pss_cut (ps_set (i := 10) sc_law_right.nd rfl (.inl rfl) pe_int)
        (pss_cut (ps_for PassesOwn.never rfl (pi_tup (pe_ix ix_tup (pv 9) pe_int (fun _ _ => rfl))) (pg_tup rfl (pgs_cons (pg_name (i := 11) sc_law_right.nd rfl (.inl rfl)) (pgs_cons (pg_name (i := 12) sc_law_right.nd rfl (.inl rfl)) (pgs_cons (pg_name (i := 13) sc_law_right.nd rfl (.inl rfl)) pgs_nil))))
          (pss_one (ps_set (i := 10) sc_law_right.nd rfl (.inl rfl) (pe_op op_add (pv 10) (pe_callB (cr_sum rfl) (by rfl) T.b_sum (by decide +kernel) (pa_cons (pe_lc (own := [("_law_name", 14)]) (g := gName 14) (tt := tYes) rfl sc_law_right.nd (pi_tup (pv 12))
            (blkOk_by (N := NRT) (sc := defScope s_law_right) (by decide +kernel)) (fun _ _ _ _ _ => pg_name (i := 14) sc_law_right.nd rfl (.inl rfl)) (fun _ _ _ _ _ => pts_nil)
            (fun _ _ _ _ _ => pe_op op_sub (pe_callB (call_lenK (K := K) (by exact rfl)) (by rfl) T.b_len PySem.boot_len (pa_cons (pe_dget (by exact hu) (pe_dget (by exact hu) (pv 1) pe_str (fun _ _ => rfl)) (pv 14) (fun _ _ => rfl)) pa_nil)) pe_int)) pa_nil))))))
        (pss_cut (ps_if (pt_cmpR op_ne (pe_cal ctr hr (by rfl) (pa_cons (pe_ix ix_tup (pv 8) pe_int (fun _ _ => rfl)) pa_nil)) (pe_op op_sub (pe_op op_add (pe_cal ctr hr (by rfl) (pa_cons (pv 5) pa_nil)) (pe_callB call_len_seq (by rfl) T.b_len PySem.boot_len (pa_cons (pv 7) pa_nil))) (pv 10)) (by rfl)) (pss_one (ps_ret pe_bl)) pss_nil)
        (pss_one (ps_if (pt_cmpR op_ne (pe_cal ckn hr (by rfl) (pa_cons (pe_ix ix_tup (pv 8) pe_int (fun _ _ => rfl)) (pa_cons (pv 3) pa_nil))) (pe_op op_add (pe_cal ckn hr (by rfl) (pa_cons (pv 5) (pa_cons (pv 3) pa_nil))) (pe_callB call_len_seq (by rfl) T.b_len PySem.boot_len (pa_cons (pv 7) pa_nil))) (by rfl)) (pss_one (ps_ret pe_bl)) pss_nil)))))))))))
      (pss_one (ps_ret pe_bl))), ?_⟩
    have big : 100000 ≤ sizeLine := by decide
    -- the machine and the sizes
    refine ⟨fun σ' G => ∃ (m kx md sz : Addr) (M : Mak) (nk : List Str) (gs' : List Pg) (ds : List Addr), σ' = [some (.ref d), some (.ref p), some (.ref m), some (.ref sz), none, none, none, none, none, none, none, none, none, none, none] ∧ MOk nk M S.pg gs' ∧ OrdOf S.maks M ∧ IsNames S.leaf (keysOf S.maks) nk ∧ ds.length = 41 ∧ sz ≠ d ∧ RI P w K CM CP CK Tb m kx md sz d p S M nk gs' ds H G, ?_, ?_⟩
    · refine ⟨_, rfl, p, S, rfl, hP, hB, tb, fun m kx md M nk gs1 G1 hM hOk hO hNm sN tb1 => ?_⟩
      have hP1 := hP.exN sN
      obtain ⟨mk, e, r, s', g, hI⟩ := id hP1
      obtain ⟨kvs, em, hMk⟩ := hI.hm
      have hd1 := dice_exN sN hd
      refine ⟨_, rfl, p, mk, S.leaf, _, kvs, S.maks, M, 40, rfl, by omega, hI.hp, kvP_l, kvP_m, em, hMk, hB.vld, hO, fun sz ds G2 s2 nsz esz lds hRw => ⟨_, _, rfl, ?_⟩⟩
      exact ⟨m, kx, md, sz, M, nk, gs1, ds, rfl, hOk, hO, hNm, lds, dice_ne hd1 nsz, hM.same s2, esz, hRw, hP1.same s2, (ExtX.ofN sN).trans (.of s2), dice_sm s2 hd1, tb1.ext s2⟩
    rintro σ' G0 ⟨m, kx, md, sz, M, nk, gs', ds, rfl, hOk, hO, hNm, lds, nszd, r0⟩
    clear hP hd tb
    have vM : Vld S.leaf M := hO.vld hB.vld
    have two : ∀ z ps, lookM M z = some ps → 2 ≤ ps.length := fun z ps e => (bk_two vM z ps e).1
    have nkname : ∀ z ∈ nk, nameB z = true := fun z m => by
      rcases (hNm.mem z).mp m with h | h
      · rw [h]; exact pool_name hB.vld.lf
      · exact pool_name (hB.vld.keys z h)
    have nsok : ∀ z ∈ nk, PyData.strOk z = true := fun z m => names_low (nkname z m)
    have hst : ∀ n pool, StepF nk M pool (stepM M S.pg n pool) := fun n pool => stepM_f hOk.fit two n pool
    have est : stepM S.maks S.pg = stepM M S.pg := funext fun n => funext fun pool => (stepM_eq (fun z => hO.look z) (List.Perm.refl _) hOk.nd n pool).symm
    have okS : ∀ g ∈ S.pg, PgOk g := fun g m => (hB.fit g m).1
    have inn : ∀ r, ∀ z ∈ setR S.leaf M r, z ∈ nk := fun r z mz => (hNm.mem z).mpr (by
      rcases set_sub r z mz with h | h
      · exact .inl h
      · exact .inr ((hO.keys z).mp h))
    have nok : ∀ (kx ld pd : Addr), List.lookup ("run" : Str) (mf kx ld pd) = none := fun kx ld pd => mf_no _ _ _ (by decide +kernel) (by decide +kernel) (by decide +kernel)
    refine ⟨fun σ' G => (∃ t4 t5 t6 t7 t8 t9 t10 t11 t12 t13 : Option V, σ' = [some (.ref d), some (.ref p), some (.ref m), some (.ref sz), t4, t5, t6, t7, t8, t9, t10, t11, t12, t13, none]) ∧ RI P w K CM CP CK Tb m kx md sz d p S M nk gs' ds H G, ?_, ?_⟩
    rotate_left
    · rintro σ' G ⟨⟨t4, t5, t6, t7, t8, t9, t10, t11, t12, t13, rfl⟩, r⟩
      exact q G r.x r.hd r.hP r.tb
    refine ⟨_, rfl, by omega, by omega, ?_⟩
    refine for_range (lo := 0) (fun j σ' G => (∃ t4 t5 t6 t7 t8 t9 t10 t11 t12 t13 : Option V, σ' = [some (.ref d), some (.ref p), some (.ref m), some (.ref sz), t4, t5, t6, t7, t8, t9, t10, t11, t12, t13, none]) ∧ RI P w K CM CP CK Tb m kx md sz d p S M nk gs' ds H G)
      ⟨⟨_, _, _, _, _, _, _, _, _, _, rfl⟩, r0⟩ (fun j σ' G hj hP => ?_) (fun σ' G hP => hP)
    obtain ⟨⟨t4, t5, t6, t7, t8, t9, t10, t11, t12, t13, rfl⟩, r⟩ := hP
    clear r0 q hj
    -- digits and a note
    refine ⟨fun σ' G' => ∃ (pd : Addr) (LL : List (Addr × List Str)) (note : Str), σ' = [some (.ref d), some (.ref p), some (.ref m), some (.ref sz), some (.int (0 + (j : Nat))), some (.ref pd), some (.str note), t7, t8, t9, t10, t11, t12, t13, none] ∧ RowAt K G' pd LL ∧ DigsE S.leaf M LL ∧ LL.length ≤ 30 ∧ nameB note = true ∧ RI P w K CM CP CK Tb m kx md sz d p S M nk gs' ds H G', ?_, ?_⟩
    · refine ⟨_, rfl, _, rfl, _, rfl, d, p, sz, S.leaf, M, ds, rfl, r.hd, r.esz, nszd, lds, r.rows, vM, fun pd LL G1 sx1 hd1 hR hD l30 => ?_⟩
      have r1 := r.dice sx1 hd1 nszd
      obtain ⟨mk1, e1, q1, s1', g1, hI1⟩ := id r1.hP
      refine ⟨_, rfl, _, rfl, p, _, rfl, hI1.get kvP_s, s1', stK S.st, S.st.map (·.2), rfl, hI1.hs, ?_, fun ys l hperm nl => ?_⟩
      · rw [List.map_map, List.map_map]
        rfl
      have s2 := same_new (o := .lst (ys.map V.str)) (Same.refl G1) nl
      have el : (upd G1 l (.lst (ys.map V.str))) l = some (.lst (ys.map V.str)) := upd_same
      generalize upd G1 l (.lst (ys.map V.str)) = G2 at *
      have lys : ys.length ≤ 10 := by rw [hperm.length_eq, List.length_map]; exact hN.few
      refine ⟨by show 1 ≤ sizeLine; omega, fun l2 nl2 => ?_⟩
      have s3 := same_new (o := .lst [V.str "zz"]) (Same.refl G2) nl2
      have el2 : (upd G2 l2 (.lst [V.str "zz"])) l2 = some (.lst [V.str "zz"]) := upd_same
      generalize upd G2 l2 (.lst [V.str "zz"]) = G3 at *
      refine ⟨l, l2, _, _, rfl, rfl, s3 _ _ el, el2, by rw [List.length_map]; show _ + 1 ≤ _; omega, fun l3 nl3 => ?_⟩
      have r3 := r1.same (s2.trans s3)
      have nl3d : l3 ≠ d := dice_ne r3.hd nl3
      have s4 := same_new (o := .lst (ys.map V.str ++ [V.str "zz"])) (Same.refl G3) nl3
      have el3 : (upd G3 l3 (.lst (ys.map V.str ++ [V.str "zz"]))) l3 = some (.lst (ys.map V.str ++ [V.str "zz"])) := upd_same
      generalize upd G3 l3 (.lst (ys.map V.str ++ [V.str "zz"])) = G4 at *
      have r4 := r3.same s4
      refine ⟨d, .ref l3, _, rfl, r4.hd, .inl ⟨l3, rfl, nl3d, .inl (.inl (.inl el3))⟩, by simp, by rw [List.length_append, List.length_map]; show _ + 1 ≤ _; omega, fun v x b c hv => ?_⟩
      have sxd : SameX d G4 (upd G4 d (.lst [.int x, .int b, .int c])) := (SameX.refl d _).atd
      have r5 := r4.dice sxd (dice_new x b c) nszd
      have hnote : ∃ note, v = .str note ∧ nameB note = true := by
        rcases List.mem_append.mp hv with h | h
        · obtain ⟨z, mz, rfl⟩ := List.mem_map.mp h
          obtain ⟨y, my, rfl⟩ := List.mem_map.mp (hperm.mem_iff.mp mz)
          exact ⟨_, rfl, note_m (hN.st y my)⟩
        · rw [List.mem_singleton.mp h]
          exact ⟨_, rfl, by decide +kernel⟩
      obtain ⟨note, rfl, hn⟩ := hnote
      exact ⟨_, _, rfl, pd, LL, note, rfl, (hR.same (s2.trans (s3.trans s4))).sq (dice_but r4.hd sxd).sq, hD, l30, hn, r5⟩
    rintro σ' G1 ⟨pd, LL, note, rfl, hR1, hD, l30, hn, r1⟩
    clear r
    -- what is brought
    refine ⟨fun σ' G' => ∃ (c0 : Addr) (k : Nat), σ' = [some (.ref d), some (.ref p), some (.ref m), some (.ref sz), some (.int (0 + (j : Nat))), some (.ref pd), some (.str note), some (.ref c0), t8, t9, t10, t11, t12, t13, none] ∧ k ≤ 2 ∧ SqT K G' c0 ((List.replicate k S.leaf).map V.str) ∧ RowAt K G' pd LL ∧ RI P w K CM CP CK Tb m kx md sz d p S M nk gs' ds H G', ?_, ?_⟩
    · obtain ⟨mk1, e1, q1, s1', g1, hI1⟩ := id r1.hP
      refine ⟨_, rfl, Nat.zero_le _, fun e0 n0 => ?_⟩
      have s1 := same_new (o := .tup []) (Same.refl G1) n0
      have f0 : (upd G1 e0 (.tup [])) e0 = some (.tup []) := upd_same
      generalize upd G1 e0 (.tup []) = A1 at *
      refine ⟨_, rfl, p, _, rfl, (hI1.same s1).get kvP_l, by show 1 ≤ sizeLine; omega, fun e1 n1 => ?_⟩
      have s2 := same_new (o := .tup [V.str S.leaf]) (Same.refl A1) n1
      have f1 : (upd A1 e1 (.tup [V.str S.leaf])) e1 = some (.tup [V.str S.leaf]) := upd_same
      generalize upd A1 e1 (.tup [V.str S.leaf]) = A2 at *
      have s12 := s1.trans s2
      refine ⟨_, rfl, p, _, rfl, (hI1.same s12).get kvP_l, by show 1 ≤ sizeLine; omega, fun e2 n2 => ?_⟩
      have s3 := same_new (o := .tup [V.str S.leaf]) (Same.refl A2) n2
      have f2 : (upd A2 e2 (.tup [V.str S.leaf])) e2 = some (.tup [V.str S.leaf]) := upd_same
      generalize upd A2 e2 (.tup [V.str S.leaf]) = A3 at *
      refine ⟨e2, 2, [V.str S.leaf], rfl, rfl, .inl (.inl f2), List.cons_ne_nil _ _, by omega, by show 1 ≤ 1000; omega, fun e3 A4 s4 h3 => ?_⟩
      have h3 : SqT K A4 e3 ((List.replicate 2 S.leaf).map V.str) := h3
      refine ⟨by show 3 ≤ sizeLine; omega, fun l nl => ?_⟩
      have s14 := s12.trans (s3.trans s4)
      have r4 := r1.same s14
      have nld : l ≠ d := dice_ne r4.hd nl
      have s5 := same_new (o := .lst [V.ref e0, .ref e1, .ref e3]) (Same.refl A4) nl
      have el : (upd A4 l (.lst [V.ref e0, .ref e1, .ref e3])) l = some (.lst [V.ref e0, .ref e1, .ref e3]) := upd_same
      generalize upd A4 l (.lst [V.ref e0, .ref e1, .ref e3]) = A5 at *
      have r5 := r4.same s5
      refine ⟨d, .ref l, _, rfl, r5.hd, .inl ⟨l, rfl, nld, .inl (.inl (.inl el))⟩, by simp, by show 3 ≤ _; omega, fun v x b c hv => ?_⟩
      have sxd : SameX d A5 (upd A5 d (.lst [.int x, .int b, .int c])) := (SameX.refl d _).atd
      have r6 := r5.dice sxd (dice_new x b c) nszd
      have bu := dice_but r5.hd sxd
      have hv2 : ∃ (c0 : Addr) (k : Nat), v = .ref c0 ∧ k ≤ 2 ∧ SqT K A5 c0 ((List.replicate k S.leaf).map V.str) := by
        simp only [List.mem_cons, List.not_mem_nil, or_false] at hv
        rcases hv with rfl | rfl | rfl
        · exact ⟨e0, 0, rfl, by omega, .inl (.inl ((s2.trans (s3.trans (s4.trans s5))) _ _ f0))⟩
        · exact ⟨e1, 1, rfl, by omega, .inl (.inl ((s3.trans (s4.trans s5)) _ _ f1))⟩
        · exact ⟨e3, 2, rfl, by omega, sqT_same s5 h3⟩
      obtain ⟨c0, k, rfl, k2, hc0⟩ := hv2
      exact ⟨c0, k, rfl, k2, bu.sq _ _ hc0, (hR1.same (s14.trans s5)).sq bu.sq, r6⟩
    rintro σ' G2 ⟨c0, k, rfl, k2, hc0, hR2, r2⟩
    clear hR1 r1
    have gc : goodM 20 (List.replicate k S.leaf) = true := good_leaf hB.vld.lf k2
    have lc : (List.replicate k S.leaf).length ≤ 2 := by rw [List.length_replicate]; exact k2
    have inc : ∀ z ∈ List.replicate k S.leaf, z ∈ nk := fun z mz => (hNm.mem z).mpr (.inl (List.eq_of_mem_replicate mz))
    have cn : ∀ z ∈ List.replicate k S.leaf, nameB z = true := fun z mz => nkname z (inc z mz)
    have kk : (List.replicate k S.leaf).length = k := List.length_replicate
    have ck : kz S.leaf M 0 (List.replicate k S.leaf) = k := kz_leaf S.leaf M k
    have c0set : ∀ z ∈ List.replicate k S.leaf, z ∈ setR S.leaf M 0 := fun z mz => by rw [set_zero, List.eq_of_mem_replicate mz]; exact List.mem_cons_self
    generalize List.replicate k S.leaf = cs0 at *
    have hg : ∀ q ∈ LL, goodB q.2 = true ∧ q.2.length ≤ 18 ∧ ∀ z ∈ q.2, z ∈ nk := fun q mq => by
      obtain ⟨i, hi⟩ := List.getElem?_of_mem mq
      obtain ⟨a, b, c⟩ := hD i q hi
      have iN := fun z mz => inn i z (c z mz)
      refine ⟨?_, by omega, iN⟩
      unfold goodB
      rw [decide_eq_true (show q.2.length ≤ 20 by omega), List.all_eq_true.mpr fun z mz => nkname z (iN z mz), a]
      rfl
    have dsn : ∀ q ∈ LL.map (·.2), ∀ z ∈ q, nameB z = true := fun q mq z mz => by
      obtain ⟨x, mx, rfl⟩ := List.mem_map.mp mq
      exact nkname z ((hg x mx).2.2 z mz)
    -- what it tells, what is due
    refine ⟨fun σ' G' => ∃ (t u : Addr) (rs : List (List Str)) (ss : List StepT) (n : Nat), σ' = [some (.ref d), some (.ref p), some (.ref m), some (.ref sz), some (.int (0 + (j : Nat))), some (.ref pd), some (.str note), some (.ref c0), some (.ref t), some (.ref u), t10, t11, t12, t13, none] ∧ ResAt K G' t (rs.take n) ss ∧ ResAt K G' u (rs.take n) ss ∧ IsEnd rs n ∧ RunR (stepM M S.pg) (LL.map (·.2)) cs0 note rs ss ∧ ss.length ≤ 32 ∧ Same G2 G', ?_, ?_⟩
    · obtain ⟨dm, ld, pdm, hx, _⟩ := id r2.hM
      refine ⟨_, rfl, m, dm, _, rfl, hx, nok _ _ _, _, rfl, _, rfl, _, rfl, rfl, rfl, ?_⟩
      refine run_by r2.hM hOk nsok two hn hR2 (by omega) hg hc0 gc lc inc fun t rs ss n G3 s3 hres hE hrun lss => ?_
      refine ⟨_, rfl, _, rfl, _, rfl, _, rfl, ?_⟩
      refine ⟨p, note, pd, c0, S, cs0, LL, rfl, r2.hP.same s3, hB, hn, hR2.same s3, by omega, fun q mq => ⟨(hg q mq).1, (hg q mq).2.1⟩, sqT_same s3 hc0, gc, lc, fun u ra ga L2 xs rs2 ss2 n2 G4 s4 g1 g2 g3 hE2 g5 g6 hrun2 _ => ?_⟩
      have hres2 : ResAt K G4 u (rs2.take n2) ss2 := ⟨ra, ga, L2, xs, g1, g2, g3, g5, g6⟩
      rw [est] at hrun2
      obtain ⟨e1, e2⟩ := hrun.det hrun2
      subst e1 e2
      have e3 : rs2.take n2 = rs2.take n := end_same (fun _ => rfl) hE2 hE
      rw [e3] at hres2
      exact ⟨_, _, rfl, t, u, _, _, n, rfl, hres.same s4, hres2, hE, hrun, by omega, s3.trans s4⟩
    rintro σ' G3 ⟨t, u, rs, ss, n, rfl, ht3, hu3, hE, hrun, l32, s3⟩
    have r3 := r2.same s3
    have hR3 := hR2.same s3
    have hc3 := sqT_same s3 hc0
    clear r2 hR2 hc0 s3
    have nms := hrun.names (fun n pool => stepM_names okS) dsn cn hn
    have nmsT : NmsOk (rs.take n) ss := ⟨fun q mq => nms.row q (List.mem_of_mem_take mq), nms.st⟩
    have shp := nmsT.shaped
    have lrs : rs.length ≤ 32 := by rw [← hrun.lens]; exact l32
    have ltk : (rs.take n).length ≤ 32 := by rw [List.length_take]; omega
    obtain ⟨q20, s20⟩ := hrun.small hst (fun q mq => by
      obtain ⟨x, mx, rfl⟩ := List.mem_map.mp mq
      exact (hg x mx).2.1) lc
    have rp := (nmsT.sm ltk l32 (fun q mq => q20 q (List.mem_of_mem_take mq)) fun s ms => ⟨(s20 s ms).1, (s20 s ms).2.1⟩).repr (by decide) (by decide)
    obtain ⟨Sx, hSx⟩ : ∃ Sx, (resD (rs.take n) ss).shown = Sx := ⟨_, rfl⟩
    -- told is due
    refine ⟨fun σ' G' => σ' = [some (.ref d), some (.ref p), some (.ref m), some (.ref sz), some (.int (0 + (j : Nat))), some (.ref pd), some (.str note), some (.ref c0), some (.ref t), some (.ref u), t10, t11, t12, t13, none] ∧ Same G3 G', ?_, ?_⟩
    · refine ⟨_, rfl, .ref t, _, Sx, rfl, ht3.dp, rp, hSx, _, rfl, .ref u, _, Sx, rfl, hu3.dp, rp, hSx, rfl, _, rfl, no_neT ?_⟩
      refine ⟨_, rfl, Nat.zero_le _, fun e0 n0 => ?_⟩
      have s4 := same_new (o := .tup []) (Same.refl G3) n0
      have f0 : (upd G3 e0 (.tup [])) e0 = some (.tup []) := upd_same
      generalize upd G3 e0 (.tup []) = G4 at *
      refine ⟨.tuple (tD cs0), .tuple (tD []), .tup (sqT_same s4 hc3) (dp_texts _), .tup (.inl (.inl f0)) (dp_texts []), shaped_textsT (fun z mz => names_low (cn z mz)), shaped_textsT (fun z hz => nomatch hz), ?_⟩
      rw [PyData.eqv, eqv_texts]
      refine ⟨_, rfl, ?_⟩
      by_cases c2 : cs0 = []
      · rw [decide_eq_true c2]
        refine iteT (by decide) ?_
        have r4 := r3.same s4
        obtain ⟨dm, ld, pdm, hx, _⟩ := id r4.hM
        refine ⟨_, rfl, m, dm, _, rfl, hx, nok _ _ _, _, rfl, _, rfl, fun c1 h1 => ?_⟩
        refine run_by (cs0 := []) r4.hM hOk nsok two hn (hR3.same s4) (by omega) hg (h1 G4) (by decide +kernel) (Nat.zero_le _) nofun fun v rs2 ss2 n2 G5 s5 hres2 hE2 hrun2 lss => ?_
        rw [← c2] at hrun2
        obtain ⟨e1, e2⟩ := hrun.det hrun2
        subst e1 e2
        have e3 : rs2.take n2 = rs2.take n := end_same (fun _ => rfl) hE2 hE
        rw [e3] at hres2
        refine ⟨_, rfl, _, _, hres2.dp, (hu3.same (s4.trans s5)).dp, shp, shp, ?_⟩
        rw [PySem.SeqAt.eqv_refl _ (PySem.SeqAt.canLay_of_shaped shp)]
        exact ⟨_, rfl, iteF (by decide) ⟨rfl, s4.trans s5⟩⟩
      · rw [decide_eq_false c2]
        refine iteF (by decide) ?_
        exact iteF (by decide) ⟨rfl, s4⟩
    rintro σ' G4 ⟨rfl, s4⟩
    have r4 := r3.same s4
    have hR4 := hR3.same s4
    have hc4 := sqT_same s4 hc3
    have ht4 := ht3.same s4
    have hu4 := hu3.same s4
    clear r3 hR3 hc3 ht3 hu3 s4
    -- in parts
    refine ⟨fun σ' G' => σ' = [some (.ref d), some (.ref p), some (.ref m), some (.ref sz), some (.int (0 + (j : Nat))), some (.ref pd), some (.str note), some (.ref c0), some (.ref t), some (.ref u), t10, t11, t12, t13, none] ∧ RowAt K G' pd LL ∧ SqT K G' c0 (cs0.map V.str) ∧ ResAt K G' t (rs.take n) ss ∧ ResAt K G' u (rs.take n) ss ∧ RI P w K CM CP CK Tb m kx md sz d p S M nk gs' ds H G', ?_, ?_⟩
    · refine ⟨_, rfl, _, rfl, _, rfl, _, rfl, _, rfl, _, rfl, pd, _, rfl, .inr hR4.e, _, _, rfl, rfl, ?_⟩
      rw [List.length_map]
      refine ⟨d, _, rfl, r4.hd, by omega, log2_by (by omega) (by omega), fun r x b c h0 h1 => ?_⟩
      obtain ⟨at_, rfl⟩ := Int.eq_ofNat_of_zero_le h0
      have sxd : SameX d G4 (upd G4 d (.lst [.int x, .int b, .int c])) := (SameX.refl d _).atd
      have r5 := r4.dice sxd (dice_new x b c) nszd
      have bu := dice_but r4.hd sxd
      generalize upd G4 d (.lst [.int x, .int b, .int c]) = G5 at *
      have hR5 := hR4.sq bu.sq
      have hc5 := bu.sq _ _ hc4
      refine ⟨m, kx, md, S.leaf, M, nk, S.pg, gs', note, pd, c0, at_, cs0, LL, rs, ss, n, rfl, r5.hM, hOk, nsok, two, hn, hR5, by omega, hg, hc5, gc, lc, inc, by omega, hrun, hE, nms, by omega, fun v G6 s6 hv => ?_⟩
      have hu6 := (hu4.sq bu.sq).same s6
      refine ⟨_, rfl, _, _, hv.dp, hu6.dp, shp, shp, ?_⟩
      rw [PySem.SeqAt.eqv_refl _ (PySem.SeqAt.canLay_of_shaped shp)]
      exact ⟨_, rfl, iteF (by decide) ⟨rfl, hR5.same s6, sqT_same s6 hc5, (ht4.sq bu.sq).same s6, hu6, r5.same s6⟩⟩
    rintro σ' G5 ⟨rfl, hR5, hc5, ht5, hu5, r5⟩
    clear r4 hR4 hc4 ht4 hu4
    -- what is less
    refine ⟨fun σ' G' => σ' = [some (.ref d), some (.ref p), some (.ref m), some (.ref sz), some (.int (0 + (j : Nat))), some (.ref pd), some (.str note), some (.ref c0), some (.ref t), some (.ref u), some (.int 0), t11, t12, t13, none] ∧ G' = G5, ⟨rfl, rfl⟩, ?_⟩
    rintro σ' G ⟨rfl, rfl⟩
    refine ⟨fun σ' G' => ∃ t11 t12 t13 : Option V, σ' = [some (.ref d), some (.ref p), some (.ref m), some (.ref sz), some (.int (0 + (j : Nat))), some (.ref pd), some (.str note), some (.ref c0), some (.ref t), some (.ref u), some (.int (lessS M ss : Nat)), t11, t12, t13, none] ∧ Same G G', ?_, ?_⟩
    · obtain ⟨ra, ga, L2, xs, hu1, hu2, hu3, hu4, hu5'⟩ := id hu5
      refine ⟨_, rfl, u, _, 1, .ref ga, rfl, rfl, hu1, rfl, ga, rfl, ⟨_, hu4⟩, ?_⟩
      refine for_it (walk_tup (K := K) (a := ga) (xs := xs.map V.ref)) (fun i σ' G' => ∃ t11 t12 t13 : Option V, σ' = [some (.ref d), some (.ref p), some (.ref m), some (.ref sz), some (.int (0 + (j : Nat))), some (.ref pd), some (.str note), some (.ref c0), some (.ref t), some (.ref u), some (.int (lessS M (ss.take i) : Nat)), t11, t12, t13, none] ∧ Same G G')
        ⟨_, _, _, rfl, Same.refl _⟩ (fun i σ' G' _ h => by obtain ⟨_, _, _, _, s⟩ := h; exact sqT_same s hu4) (fun i v σ' Gx G' hi h hy => ?_) (fun σ' G' h => ?_)
      rotate_left
      · obtain ⟨t11, t12, t13, rfl, sm⟩ := h
        rw [List.length_map, show xs.length = ss.length from Paired.length hu5', List.take_length]
        exact ⟨_, _, _, rfl, sm⟩
      obtain ⟨t11, t12, t13, rfl, sm⟩ := h
      obtain ⟨rfl, hv⟩ := hy
      have hv : (xs.map V.ref)[i]? = some v := hv
      rw [List.getElem?_map] at hv
      obtain ⟨xa, hxa, rfl⟩ := Option.map_eq_some_iff.mp hv
      obtain ⟨s0, hs0, pp, mp, h1, h2, h3⟩ := paired_at hu5' hxa
      have ms0 := List.mem_of_getElem? hs0
      obtain ⟨_, lm2, mkeys⟩ := s20 s0 ms0
      have hmp := sqT_same sm h3
      have r6 := r5.same sm
      obtain ⟨mk1, e1, q1, s1', g1, hI1⟩ := id r6.hP
      obtain ⟨kvs, em, hMk⟩ := hI1.hm
      refine ⟨_, _, rfl, sqT_same sm h1, rfl, _, _, rfl, _, _, rfl, _, _, rfl, rfl, ?_⟩
      refine ⟨_, rfl, _, rfl, mp, rfl, ⟨_, hmp⟩, fun D hD => ?_⟩
      refine lc_it (g := gName 14) (tt := tYes) (vs := [14]) (walk_tup (K := K) (a := mp) (xs := s0.2.1.map V.str)) (fun k G3 => G3 D = some (.lst (((s0.2.1.take k).map fun z => ((((lookM M z).getD []).length - 1 : Nat) : Int)).map V.int)) ∧ Same G' G3)
        ⟨upd_same, same_new (Same.refl G') hD⟩ (fun k G3 _ h => sqT_same h.2 hmp) (fun k y Gy G3 hk h hy => ?_) (fun G3 h => ?_)
      · obtain ⟨eD, s3⟩ := h
        obtain ⟨rfl, hy2⟩ := hy
        obtain ⟨z, hz, rfl⟩ := at_texts hy2
        have mz := List.mem_of_getElem? hz
        have kzm : z ∈ keysOf S.maks := (hO.keys z).mp (mkeys z mz)
        obtain ⟨ps, ta, hps, hval, htz⟩ := hMk.key kzm
        have hps2 : lookM M z = some ps := by rw [hO.look]; exact hps
        have l2 := two z ps hps2
        have dg : DGet G3 mk1 (.str z) (some (.ref ta)) := by
          have := DGet.k (k := Sum.inr z) (s3 _ _ em)
          rw [hval] at this
          exact this
        have hta : SqT K G3 ta (ps.map V.str) := sqT_same s3 htz.sq
        refine ⟨rfl, _, rfl, p, _, rfl, (hI1.same s3).get kvP_m, _, rfl, mk1, _, rfl, dg, ta, _, rfl, .inr hta, _, _, rfl, rfl, _, eD, ?_, ?_, fun b o e => by rw [upd_ne (ne_of_none e hD)]; exact s3 _ _ e⟩
        · rw [List.length_map, List.length_map, List.length_take]
          omega
        · rw [upd_same, take_snoc hz, List.map_append, List.map_append]
          have e2 : V.int ((((ps.map V.str).length : Nat) : Int) - 1) = V.int ((((lookM M z).getD []).length - 1 : Nat) : Int) := by
            rw [hps2, List.length_map]
            show V.int (((ps.length : Nat) : Int) - 1) = V.int ((ps.length - 1 : Nat) : Int)
            exact congrArg V.int (by omega)
          show some (HO.lst (_ ++ [V.int ((((ps.map V.str).length : Nat) : Int) - 1)])) = _
          rw [e2]
          rfl
      · obtain ⟨eD, s3⟩ := h
        rw [List.length_map, List.take_length] at eD
        refine ⟨D, _, rfl, .inl (.inl eD), _, _, rfl, rfl, ?_⟩
        rw [cast_sum (fun z => ((lookM M z).getD []).length - 1) s0.2.1]
        have e2 : ((lessS M (ss.take i) : Nat) : Int) + (((s0.2.1.map fun z => ((lookM M z).getD []).length - 1).sum : Nat) : Int) = ((lessS M (ss.take (i + 1)) : Nat) : Int) := by
          rw [List.take_add_one, hs0]
          show _ = ((lessS M (ss.take i ++ [s0]) : Nat) : Int)
          rw [lessS_snoc]
          exact (Int.natCast_add _ _).symm
        exact ⟨_, _, _, congrArg (fun v => [some (V.ref d), some (.ref p), some (.ref m), some (.ref sz), some (.int (0 + (j : Nat))), some (.ref pd), some (.str note), some (.ref c0), some (.ref t), some (.ref u), some (V.int v), some (V.ref pp), some (.ref mp), some (.str s0.2.2), none]) e2, sm.trans s3⟩
    rintro σ' G6 ⟨t11', t12', t13', rfl, s6⟩
    have r6 := r5.same s6
    have hR6 := hR5.same s6
    have hc6 := sqT_same s6 hc5
    have ht6 := ht5.same s6
    clear r5 hR5 hc5 ht5 hu5 s6
    -- the trees
    have hT := hrun.trees two hst
    have hS1 := sum_end (q := rs) (n := n) hE.2.1
    obtain ⟨ra, ga, L2, xs, hu1, hu2, hu3, hu4, hu5'⟩ := id ht6
    have lL2 : L2.length ≤ 32 := by rw [← List.length_map (f := (·.2)), hu3]; exact ltk
    refine ⟨fun σ' G' => σ' = [some (.ref d), some (.ref p), some (.ref m), some (.ref sz), some (.int (0 + (j : Nat))), some (.ref pd), some (.str note), some (.ref c0), some (.ref t), some (.ref u), some (.int (lessS M ss : Nat)), t11', t12', t13', none] ∧ Same G6 G', ?_, ?_⟩
    · refine ⟨_, rfl, t, _, 0, .ref ra, rfl, rfl, hu1, rfl, ra, L2, rfl, hu2, by omega, fun G7 s7 => ?_⟩
      refine ⟨_, rfl, pd, LL, rfl, hR6.same s7, by omega, fun G8 s8 => ?_⟩
      refine ⟨_, rfl, c0, _, rfl, .inr (sqT_same (s7.trans s8) hc6), _, _, rfl, rfl, _, rfl, _, _, rfl, rfl, ?_⟩
      rw [hu3, hS1, List.length_map]
      refine ⟨rfl, _, rfl, ?_⟩
      exact iteF (ne_ints (by omega)) ⟨rfl, s7.trans s8⟩
    rintro σ' G7 ⟨rfl, s7⟩
    have r7 := r6.same s7
    have hR7 := hR6.same s7
    have hc7 := sqT_same s7 hc6
    have ht7 := ht6.same s7
    -- the keys
    have dsSet : ∀ i, ∀ z ∈ dg (LL.map (·.2)) i, z ∈ setR S.leaf M i := fun i z mz => by
      unfold dg at mz
      rw [List.getElem?_map] at mz
      cases e : LL[i]? with
      | none =>
        rw [e] at mz
        cases mz
      | some q =>
        rw [e] at mz
        exact (hD i q e).2.2 z mz
    obtain ⟨hK1, hK2⟩ := hrun.keys (leaf := S.leaf) hO.nd hst 0 (fun i z mz => by rw [Nat.zero_add]; exact dsSet i z mz) c0set
    have hS2 := sumK_end (leaf := S.leaf) (M := M) (q := rs) (n := n) (r := 0) hE.2.1
    obtain ⟨ra, ga, L2, xs, hu1, hu2, hu3, hu4, hu5'⟩ := ht7
    have lL2 : L2.length ≤ 32 := by rw [← List.length_map (f := (·.2)), hu3]; exact ltk
    refine ⟨_, rfl, t, _, 0, .ref ra, rfl, rfl, hu1, rfl, _, rfl, ra, sz, S.leaf, M, ds, L2, rfl, hu2, r7.esz, by omega, r7.rows, fun i z mz => ?_, fun x mx => ?_, by omega, fun G8 s8 => ?_⟩
    · rw [hu3, dg_end hE] at mz
      have h := hK1 i z mz
      rwa [Nat.zero_add] at h
    · have h : x.2 ∈ rs.take n := by rw [← hu3]; exact List.mem_map.mpr ⟨x, mx, rfl⟩
      exact Nat.le_trans (q20 _ (List.mem_of_mem_take h)) (by decide)
    have r8 := r7.same s8
    refine ⟨_, rfl, _, rfl, pd, sz, S.leaf, M, ds, LL, rfl, hR7.same s8, r8.esz, by omega, r8.rows, dsSet, fun x mx => Nat.le_trans (hg x mx).2.1 (by decide), by omega, fun G9 s9 => ?_⟩
    refine ⟨_, rfl, c0, _, rfl, .inr (sqT_same (s8.trans s9) hc7), _, _, rfl, rfl, ?_⟩
    rw [hu3, hS2, hK2, ck, List.length_map, kk]
    exact ⟨rfl, _, rfl, iteF (ne_ints (Int.natCast_add _ _)) ⟨⟨_, _, _, _, _, _, _, _, _, _, rfl⟩, r8.same s9⟩⟩
end
end Kl
set_option maxRecDepth 100000
set_option maxHeartbeats 4000000
namespace Kl
open PySem PySem.Spec PyProof.Rows L2 Gx Mx LamX
abbrev manyR : List (List Str) := List.replicate 300 ([] : List Str) ++ [(["a"] : List Str)]
abbrev manyS : List StepT := List.replicate 300 ((["a", "a"], ["a"], "m") : StepT) ++ [((["a"], [], "m") : StepT)]
abbrev twoS : List StepT := [([], [], "m"), ([], [], "m")]
abbrev toldD : PyData := .list [.int 301, .tuple (tD ["a"]), .bool true, .int 301, resD [] [], resD [] twoS]
theorem told_shaped : SeqAt.shaped toldD = true := by decide +kernel
theorem rep_shaped : SeqAt.shaped (.tuple (List.replicate 300 (.tuple []))) = true := by decide +kernel
theorem bin_steps : stepM (stOf bkBin).maks (stOf bkBin).pg "m" ["a", "a"] = (([], ["a"], "m") : StepT) ∧ stepM (stOf bkBin).maks (stOf bkBin).pg "m" ["a"] = ((["a"], [], "m") : StepT) ∧ stepM (stOf bkBin).maks (stOf bkBin).pg "m" [] = (([], [], "m") : StepT) := by decide +kernel
theorem bin_leaf : ("a" : Str) = (stOf bkBin).leaf := by decide +kernel
theorem run_many {st : Stp} (h2 : st "m" ["a", "a"] = (([], ["a"], "m") : StepT)) (h1 : st "m" ["a"] = ((["a"], [], "m") : StepT)) : ∀ k : Nat, RunR st (List.replicate k ["a"]) ["a"] "m" (List.replicate k ([] : List Str) ++ [(["a"] : List Str)]) (List.replicate k ((["a", "a"], ["a"], "m") : StepT) ++ [((["a"], [], "m") : StepT)])
  | 0 => by
    have h := RunR.step (st := st) (ds := []) (c := ["a"]) (n := "m") (pool := ["a"]) (rs := []) (ss := []) (.inr (List.cons_ne_nil _ _)) (List.Perm.refl _) (by decide +kernel) (by rw [h1]; exact .nil)
    rw [h1] at h
    exact h
  | k + 1 => by
    have h := RunR.step (st := st) (ds := List.replicate (k + 1) ["a"]) (c := ["a"]) (n := "m") (pool := ["a", "a"]) (.inl (List.cons_ne_nil _ _)) (List.Perm.refl _) (by decide +kernel) (by rw [h2]; exact run_many h2 h1 k)
    rw [h2] at h
    exact h
theorem run_two {st : Stp} (h0 : st "m" [] = (([], [], "m") : StepT)) : RunR st [[], []] [] "m" [[], []] twoS := by
  have a := RunR.step (st := st) (ds := [[]]) (c := []) (n := "m") (pool := []) (rs := []) (ss := []) (.inl (List.cons_ne_nil _ _)) (List.Perm.refl _) (by decide +kernel) (by rw [h0]; exact .nil)
  rw [h0] at a
  have b := RunR.step (st := st) (ds := [[], []]) (c := []) (n := "m") (pool := []) (.inl (List.cons_ne_nil _ _)) (List.Perm.refl _) (by decide +kernel) (by rw [h0]; exact a)
  rw [h0] at b
  exact b
theorem many_len : manyR.length = 301 := by
  show (List.replicate 300 ([] : List Str) ++ [(["a"] : List Str)]).length = 301
  rw [List.length_append, List.length_replicate]
  rfl
theorem many_end : IsEnd manyR 301 := by
  refine ⟨by rw [many_len]; omega, fun i hi => ?_, .inr ?_⟩
  · unfold dg
    rw [List.getElem?_eq_none (by rw [many_len]; exact hi)]
    rfl
  · unfold dg
    show ((List.replicate 300 ([] : List Str) ++ [(["a"] : List Str)])[300]?).getD [] ≠ []
    rw [List.getElem?_append_right (by rw [List.length_replicate]; omega), List.length_replicate]
    exact List.cons_ne_nil _ _
theorem two_end : IsEnd [[], []] 0 := by
  refine ⟨by omega, fun i _ => ?_, .inl rfl⟩
  match i with
  | 0 => rfl
  | 1 => rfl
  | i + 2 => rfl
theorem flat_rep {α : Type} (x : α) : ∀ k : Nat, (List.replicate k [x]).flatten = List.replicate k x
  | 0 => rfl
  | k + 1 => congrArg (List.cons x) (flat_rep x k)
theorem dp_reps {K : PySem.W.Frag} {H : Hp} {v : V} {d : PyData} (h : Dp K H v d) : ∀ k : Nat, DpAll K H (List.replicate k v) (List.replicate k d)
  | 0 => .nil
  | k + 1 => .cons h (dp_reps h k)
theorem atI_end {α : Type} {l : List α} {x : α} : atI (l ++ [x]) (-1) = some x := by
  unfold atI ixN
  rw [if_neg (by omega), List.length_append, List.length_singleton, if_pos (by omega)]
  show (l ++ [x])[((-1 : Int) + ((l.length + 1 : Nat) : Int)).toNat]? = some x
  rw [show ((-1 : Int) + ((l.length + 1 : Nat) : Int)).toNat = l.length by omega, List.getElem?_append_right (Nat.le_refl _), Nat.sub_self]
  rfl
section
variable {P : Program} {w : World} {K : PySem.W.Frag} {mg : Str → Option Value} {base : Heap}
def spLaw (K : PySem.W.Frag) (Tb : List (Addr × Str)) : Sp := fun vs H Q _ => ∃ (a : Addr) (ns : List Int), vs = [.ref a] ∧ SqL K H a (ns.map V.int) ∧ ns.length ≤ 63 ∧ Tabs Tb H ∧ ∀ H', Q (.bl true) H'
theorem ok_law0 {CM CP CK f : Addr} {fd : FuncData} {Tb : List (Addr × Str)} (F : Fun K "law" "law" s_law f fd) (T : Top K mg) (TM : Cl_Machine K mg CM) (TC : Cl_Page K mg CP) (TK : Cl_Kinds K mg CK)
    (kM : CalI P w K mg base CM 8 ["self", "kinds", "pages"] (spMInit P w K CM CP CK Tb)) : FnG P w K mg base CX0 40 f fd ["_law_script"] (spLaw K Tb) := by
  have ci : Cal P w K mg base 39 "_law_dice" ["_law_script", "_law_spot"] (spDice K) := (T.d_law_dice.cal fun f fd F => ok_dice F T).mono (by decide)
  have cr : Cal P w K mg base 39 "_law_roll" ["_law_dice_here", "_law_total"] spRoll := (T.d_law_roll.cal fun f fd F => ok_roll F T).mono (by decide)
  have cdl : Cal P w K mg base 39 "_law_drawn_lines" ["_law_dice_here"] spDl := (T.d_law_drawn_lines.cal fun f fd F => ok_dl F T).mono (by decide)
  have cob : Cal P w K mg base 39 "_law_other_book" ["_law_way"] spOB := (T.d_law_other_book.cal fun f fd F => ok_ob F T).mono (by decide)
  have cpl : Cal P w K mg base 39 "_law_plain" ["_law_lines"] (spPlain P w K) := (T.d_law_plain.cal fun f fd F => ok_plain F T).mono (by decide)
  have cbn : Cal P w K mg base 39 "_law_binomial" [] (spBk (bkBin.map showL)) := (T.d_law_binomial.cal fun f fd F => ok_bin F T).mono (by decide)
  have cmm : Cal P w K mg base 39 "_law_made_machine" ["_law_plain_here"] (spMM P w K CM CP CK Tb) := (T.d_law_made_machine.cal fun f fd F => ok_mm F T TM TC TK kM).mono (by decide)
  have crt : CalG P w K mg base 39 "_law_right" ["_law_dice_here", "_law_plain_here"] (spRT P w K CM CP CK Tb) := CalG.up (T.d_law_right.calG fun f fd F => ok_rt F T TM TC TK kM) (by decide)
  have kRun : CalMKK P w K mg base CM "run" 6 ["self", "note", "digits", "carried"] 3 "carried" (spMRun P w K CM CP CK) := TM.m_run.calK fun f fd F => ok_mrun F T TM TC TK
  have kRun0 : CalMK P w K mg base CM "run" 6 ["self", "note", "digits", "carried"] (spMRun P w K CM CP CK) := TM.m_run.dfl.cal fun f fd F => ok_mrun F T TM TC TK
  refine okG F sc_law (fun vs H Q E h => ?_) (fun cdv A outer s H vs Q E hg hr h => ?_)
  · obtain ⟨a, ns, rfl, _⟩ := h
    rfl
  · obtain ⟨a, ns, rfl, hS, hlen, hTb, q⟩ := h
    have hu := hu_of hr
    refine ⟨_, pss_cut (ps_for PassesOwn.never rfl (pi_range1 (by rfl) T.b_range (pa_cons (pe_callB (call_max2 rfl) (by rfl) T.b_max (by decide +kernel) (pa_cons pe_int (pa_cons
          (pe_callB (call_min2 rfl) (by rfl) T.b_min (by decide +kernel) (pa_cons pe_int (pa_cons (pe_callB call_len_seq (by rfl) T.b_len PySem.boot_len (pa_cons (pv 0) pa_nil)) pa_nil))) pa_nil))) pa_nil))
          (pg_name (i := 1) sc_law.nd rfl (.inl rfl))
        (pss_cut (ps_set (i := 2) sc_law.nd rfl (.inl rfl) (pe_cal ci hr (by rfl) (pa_cons (pv 0) (pa_cons (pv 1) pa_nil))))
        (pss_cut (ps_set (i := 3) sc_law.nd rfl (.inl rfl) (pe_ifExp (pt_cmpR op_gt (pe_cal cr hr (by rfl) (pa_cons (pv 2) (pa_cons pe_int pa_nil))) pe_int (nomark _)) (pe_cal cdl hr (by rfl) (pa_cons (pv 2) pa_nil)) (pe_cal cob hr (by rfl) (pa_cons (pe_cal cr hr (by rfl) (pa_cons (pv 2) (pa_cons pe_int pa_nil))) pa_nil))))
        (pss_one (ps_if (pt_not (pt_val (pe_calG crt hg hr (by rfl) (pa_cons (pv 2) (pa_cons (pe_cal cpl hr (by rfl) (pa_cons (pv 3) pa_nil)) pa_nil))))) (pss_one (ps_ret pe_bl)) pss_nil)))))
      (pss_cut (ps_set (i := 4) sc_law.nd rfl (.inl rfl) (pe_cal cmm hr (by rfl) (pa_cons (pe_cal cpl hr (by rfl) (pa_cons (pe_cal0 cbn hr (by rfl)) pa_nil)) pa_nil)))
      (pss_cut (ps_set (i := 5) sc_law.nd rfl (.inl rfl) (pe_op op_repS (pe_tup (pa_cons (pe_tup (pa_cons pe_str pa_nil)) pa_nil)) pe_int))
      (pss_cut (ps_asg (pe_methKK (pl := _) (pv 4) TM.cl kRun (hr.mono (by decide)) (pa_cons pe_str (pa_cons (pv 5) pa_nil)) (pk_cons (pe_tup (pa_cons pe_str pa_nil)) pk_nil)) (pg_tup rfl (pgs_cons (pg_name (i := 6) sc_law.nd rfl (.inl rfl)) (pgs_cons (pg_name (i := 7) sc_law.nd rfl (.inl rfl)) pgs_nil))))
      (pss_cut (ps_set (i := 8) sc_law.nd rfl (.inl rfl) (pe_lst (pa_cons (pe_callB call_len_seq (by rfl) T.b_len PySem.boot_len (pa_cons (pv 6) pa_nil)) (pa_cons (pe_ix ix_tup (pv 6) (pe_un un_neg pe_int) (fun _ _ => rfl))
          (pa_cons (pe_cmpR (op_eqD hr.units) (pe_slice sl_tupS (pv 6) po_none (po_some pe_int)) (pe_op op_repS (pe_tup (pa_cons (pe_tup pa_nil) pa_nil)) pe_int) (by rfl))
          (pa_cons (pe_callB call_len_seq (by rfl) T.b_len PySem.boot_len (pa_cons (pv 7) pa_nil))
          (pa_cons (pe_methK (pl := _) (pv 4) TM.cl kRun0 (hr.mono (by decide)) (pa_cons pe_str (pa_cons (pe_tup pa_nil) pa_nil)))
          (pa_cons (pe_methK (pl := _) (pv 4) TM.cl kRun0 (hr.mono (by decide)) (pa_cons pe_str (pa_cons (pe_tup (pa_cons (pe_tup pa_nil) (pa_cons (pe_tup pa_nil) pa_nil))) pa_nil))) pa_nil))))))))
      (pss_one (ps_ret (pe_cmpR (op_eqD hr.units) (pv 8) (pe_lst (pa_cons pe_int (pa_cons (pe_tup (pa_cons pe_str pa_nil)) (pa_cons pe_bl (pa_cons pe_int (pa_cons (pe_tup (pa_cons (pe_tup pa_nil) (pa_cons (pe_tup pa_nil) pa_nil)))
          (pa_cons (pe_tup (pa_cons (pe_tup pa_nil) (pa_cons (pe_op op_repS (pe_tup (pa_cons (pe_tup (pa_cons (pe_tup pa_nil) (pa_cons (pe_tup pa_nil) (pa_cons pe_str pa_nil)))) pa_nil)) pe_int) pa_nil))) pa_nil))))))) (by rfl)))))))), ?_⟩
    have big : 100000 ≤ sizeLine := by decide
    refine ⟨fun σ' G => (∃ t1 t2 t3 : Option V, σ' = [some (.ref a), t1, t2, t3, none, none, none, none, none]) ∧ Tabs Tb G, ?_, ?_⟩
    · refine ⟨_, rfl, a, _, rfl, .inl hS, _, _, rfl, _, _, rfl, _, rfl, ?_, ?_, ?_⟩
      · split <;> split <;> omega
      · split <;> split <;> omega
      refine for_range (lo := 0) (fun i σ' G => (∃ t1 t2 t3 : Option V, σ' = [some (.ref a), t1, t2, t3, none, none, none, none, none]) ∧ SqL K G a (ns.map V.int) ∧ Tabs Tb G) ⟨⟨_, _, _, rfl⟩, hS, hTb⟩ (fun i σ' G hi hP => ?_) (fun σ' G hP => ⟨hP.1, hP.2.2⟩)
      obtain ⟨⟨t1, t2, t3, rfl⟩, hSG, tG⟩ := hP
      have i6 : i ≤ 1000 := by
        have : i < 6 := by
          revert hi
          split <;> split <;> omega
        omega
      clear hi
      -- the dice
      refine ⟨fun σ' G' => ∃ (t1 : Option V) (d : Addr), σ' = [some (.ref a), t1, some (.ref d), t3, none, none, none, none, none] ∧ G d = none ∧ ExtX d G G' ∧ DiceAt G' d ∧ Tabs Tb G', ?_, ?_⟩
      · refine ⟨_, rfl, _, rfl, a, ns, i, ?_, hSG, hlen, i6, fun d x0 b0 nd => ⟨_, d, rfl, nd, .of (same_new (Same.refl G) nd), ⟨x0, b0, 0, upd_same⟩, tG.ext (same_new (Same.refl G) nd)⟩⟩
        show [V.ref a, V.int (0 + (i : Int))] = _
        rw [Int.zero_add]
      rintro σ' G1 ⟨t1, d, rfl, nd, x1, hd1, tb1⟩
      -- the lines
      refine ⟨fun σ' G' => ∃ (l : Addr) (bk ls : List PLine), σ' = [some (.ref a), t1, some (.ref d), some (.ref l), none, none, none, none, none] ∧ BkF bk ∧ BkN (stOf bk) ∧ VarL bk ls ∧ G' l = some (.lst ((ls.map showL).map V.str)) ∧ ExtX d G G' ∧ DiceAt G' d ∧ Tabs Tb G', ?_, ?_⟩
      · refine ⟨_, rfl, d, 3, rfl, hd1, by omega, by decide, fun r x b c h0 h1 => ?_⟩
        have sx : SameX d G1 (upd G1 d (.lst [.int x, .int b, .int c])) := (SameX.refl d G1).atd
        have hd2 : DiceAt (upd G1 d (.lst [.int x, .int b, .int c])) d := dice_new x b c
        have tb2 := tabs_dice tb1 hd1 sx
        have x2 := x1.trans (ext_ofX sx)
        generalize upd G1 d (.lst [.int x, .int b, .int c]) = G2 at *
        refine ⟨_, _, rfl, rfl, _, rfl, ite2 (fun c => ?_) (fun c => ?_)⟩
        · exact ⟨_, rfl, d, rfl, hd2, fun k p ls G3 sx3 hd3 hV npd e3 => ⟨p, _, ls, rfl, wbk_ok k, wbk_nt k, hV, e3, x2.trans (ext_ofX sx3), hd3, tabs_dice tb2 hd2 sx3⟩⟩
        · refine ⟨_, rfl, d, 3, rfl, hd2, by omega, by decide, fun r x b c h0 h1 => ?_⟩
          obtain ⟨k, rfl⟩ := Int.eq_ofNat_of_zero_le h0
          have sx3 : SameX d G2 (upd G2 d (.lst [.int x, .int b, .int c])) := (SameX.refl d G2).atd
          have hd3 : DiceAt (upd G2 d (.lst [.int x, .int b, .int c])) d := dice_new x b c
          have tb3 := tabs_dice tb2 hd2 sx3
          refine ⟨k, rfl, by omega, fun l G4 s4 e4 => ⟨l, _, _, rfl, obk_ok k, obk_nt k, VarL.refl _, e4, x2.trans ((ext_ofX sx3).trans (.of s4)), dice_exN (.of s4) hd3, tb3.ext s4⟩⟩
      rintro σ' G2 ⟨l, bk, ls, rfl, hBk, hBn, hVar, el2, x2, hd2, tb2⟩
      have hB := hBk.var hVar
      have hN := hBn.var hVar
      -- what they tell, and all is right
      refine ⟨_, rfl, _, rfl, l, ls, rfl, .inl (.inl el2), fun y m => ?_, Nat.le_trans hVar.len hBk.few, hB.nd, fun p G3 np s3 hP => ?_⟩
      · obtain ⟨y0, m0, v⟩ := hVar.mem m
        exact v.ok (hBk.ok y0 m0)
      exact ⟨d, p, _, rfl, dice_exN (.of s3) hd2, hP, hB, hN, tb2.ext s3, fun G4 x4 hd4 hP4 tb4 => ⟨_, rfl, iteF (by decide) ⟨⟨_, _, _, rfl⟩, sqL_xnew nd (x2.trans ((ExtX.of s3).trans x4)) hSG, tb4⟩⟩⟩
    rintro σ' G0 ⟨⟨t1, t2, t3, rfl⟩, t0⟩
    -- a written machine
    refine ⟨fun σ' G => ∃ (m kx md : Addr) (M : Mak) (nk : List Str) (gs' : List Pg), σ' = [some (.ref a), t1, t2, t3, some (.ref m), none, none, none, none] ∧ MachAt P w K CM CP CK G m kx md (stOf bkBin).leaf M nk (stOf bkBin).pg gs' ∧ MOk nk M (stOf bkBin).pg gs' ∧ OrdOf (stOf bkBin).maks M ∧ IsNames (stOf bkBin).leaf (keysOf (stOf bkBin).maks) nk, ?_, ?_⟩
    · have hBk : BkF bkBin := wbk_ok 0
      have hB := hBk.var (VarL.refl bkBin)
      refine ⟨rfl, fun l G1 s1 e1 => ?_⟩
      refine ⟨l, bkBin, rfl, .inl (.inl e1), hBk.ok, hBk.few, hBk.nd, fun p G2 np s2 hP => ?_⟩
      exact ⟨p, stOf bkBin, rfl, hP, hB, t0.ext (s1.trans s2), fun m kx md M nk gs1 G4 hM hOk hO hNm sN tb4 => ⟨m, kx, md, M, nk, gs1, rfl, hM, hOk, hO, hNm⟩⟩
    rintro σ' G1 ⟨m, kx, md, M, nk, gs', rfl, hM1, hOk, hO, hNm⟩
    have hB := (wbk_ok 0).var (VarL.refl bkBin)
    have vM : Vld (stOf bkBin).leaf M := hO.vld hB.vld
    have two : ∀ z ps, lookM M z = some ps → 2 ≤ ps.length := fun z ps e => (bk_two vM z ps e).1
    have nkok : ∀ z ∈ nk, PyData.strOk z = true := fun z m => by
      rcases (hNm.mem z).mp m with h | h
      · rw [h]; exact names_low (pool_name hB.vld.lf)
      · exact names_low (pool_name (hB.vld.keys z h))
    have inA : ("a" : Str) ∈ nk := (hNm.mem _).mpr (.inl bin_leaf)
    have inA1 : ∀ z ∈ (["a"] : List Str), z ∈ nk := fun z mz => by rw [List.mem_singleton.mp mz]; exact inA
    have est : ∀ n pool, stepM M (stOf bkBin).pg n pool = stepM (stOf bkBin).maks (stOf bkBin).pg n pool := fun n pool => stepM_eq (fun z => hO.look z) (List.Perm.refl _) hOk.nd n pool
    obtain ⟨es1, es2, es3⟩ := bin_steps
    rw [← est] at es1 es2 es3
    have nok : ∀ (kx ld pd : Addr), List.lookup ("run" : Str) (mf kx ld pd) = none := fun kx ld pd => mf_no _ _ _ (by decide +kernel) (by decide +kernel) (by decide +kernel)
    have nmM : nameB "m" = true := by decide +kernel
    have gA : goodM 20 ["a"] = true := by decide +kernel
    -- three hundred digits
    refine ⟨fun σ' G => ∃ (mp e : Addr), σ' = [some (.ref a), t1, t2, t3, some (.ref m), some (.ref mp), none, none, none] ∧ RowAt K G mp (List.replicate 300 (e, ["a"])) ∧ Same G1 G, ?_, ?_⟩
    · refine ⟨by show 1 ≤ sizeLine; omega, fun e n1 => ?_⟩
      have s1 := same_new (o := .tup [V.str "a"]) (Same.refl G1) n1
      have f1 : (upd G1 e (.tup [V.str "a"])) e = some (.tup [V.str "a"]) := upd_same
      generalize upd G1 e (.tup [V.str "a"]) = A1 at *
      refine ⟨by show 1 ≤ sizeLine; omega, fun e2 n2 => ?_⟩
      have s2 := same_new (o := .tup [V.ref e]) (Same.refl A1) n2
      have f2 : (upd A1 e2 (.tup [V.ref e])) e2 = some (.tup [V.ref e]) := upd_same
      generalize upd A1 e2 (.tup [V.ref e]) = A2 at *
      refine ⟨e2, 300, [V.ref e], rfl, rfl, .inl (.inl f2), List.cons_ne_nil _ _, by omega, by show 1 ≤ 1000; omega, fun mp A3 s3 h3 => ?_⟩
      rw [flat_rep] at h3
      refine ⟨mp, e, rfl, ⟨by rw [List.map_replicate]; exact h3, fun x mx => ?_⟩, s1.trans (s2.trans s3)⟩
      rw [List.eq_of_mem_replicate mx]
      exact .inl (.inl ((s2.trans s3) _ _ f1))
    rintro σ' G2 ⟨mp, e, rfl, hR2, s2⟩
    have hM2 := hM1.same s2
    -- they run
    refine ⟨fun σ' G => ∃ (ra ga : Addr) (L2 : List (Addr × List Str)) (xs : List Addr), σ' = [some (.ref a), t1, t2, t3, some (.ref m), some (.ref mp), some (.ref ra), some (.ref ga), none] ∧ RowAt K G ra L2 ∧ L2.map (·.2) = manyR ∧ SqT K G ga (xs.map V.ref) ∧ xs.length = 301 ∧ Same G2 G, ?_, ?_⟩
    · obtain ⟨dm, ld, pd, hx, _⟩ := id hM2
      refine ⟨_, rfl, m, dm, _, rfl, hx, nok _ _ _, _, rfl, by show 1 ≤ sizeLine; omega, fun c0 n0 => ⟨rfl, rfl, ?_⟩⟩
      have s3 := same_new (o := .tup [V.str "a"]) (Same.refl G2) n0
      have f0 : (upd G2 c0 (.tup [V.str "a"])) c0 = some (.tup [V.str "a"]) := upd_same
      generalize upd G2 c0 (.tup [V.str "a"]) = G3 at *
      have eLL : (List.replicate 300 (e, (["a"] : List Str))).map (·.2) = List.replicate 300 (["a"] : List Str) := by rw [List.map_replicate]
      refine ⟨m, kx, md, _, M, nk, _, gs', "m", mp, c0, ["a"], List.replicate 300 (e, ["a"]), rfl, hM2.same s3, hOk, nkok, two, nmM, hR2.same s3, by rw [List.length_replicate]; omega, fun x mx => ?_, .inl (.inl f0), gA, by show 1 ≤ 2; omega, inA1, fun t ra ga L2 xs rs ss n G4 s4 h1 h2 h3 h4 h5 h6 h7 h8 => ?_⟩
      · rw [List.eq_of_mem_replicate mx]
        exact ⟨gA, by show 1 ≤ 18; omega, inA1⟩
      rw [eLL] at h7
      obtain ⟨e1, e2⟩ := (run_many es1 es2 300).det h7
      subst e1 e2
      have e3 : manyR.take n = manyR.take 301 := end_same (fun _ => rfl) h4 many_end
      rw [e3, List.take_of_length_le (by rw [many_len]; exact Nat.le_refl _)] at h3
      have lx : xs.length = 301 := by
        rw [show xs.length = manyS.length from Paired.length h6, List.length_append, List.length_replicate]
        rfl
      exact ⟨_, _, rfl, h1, rfl, _, _, rfl, _, _, rfl, rfl, ra, ga, L2, xs, rfl, h2, h3, h5, lx, s3.trans s4⟩
    rintro σ' G3 ⟨ra, ga, L2, xs, rfl, hRA, eL2, hGA, lx, s3⟩
    have hM3 := hM2.same s3
    obtain ⟨L3, L4, rfl, e3, e4⟩ := List.map_eq_append_iff.mp eL2
    obtain ⟨q1, rfl, e5⟩ := List.map_eq_singleton_iff.mp e4
    have l3 : L3.length = 300 := by rw [← List.length_map (f := (·.2)), e3, List.length_replicate]
    have emap : (L3 ++ [q1]).map (fun q => V.ref q.1) = L3.map (fun q => V.ref q.1) ++ [V.ref q1.1] := by rw [List.map_append]; rfl
    have l4 : ((L3 ++ [q1]).map (fun q => V.ref q.1)).length = 301 := by rw [List.length_map, List.length_append, l3]; rfl
    have hq1 : SqT K G3 q1.1 ((["a"] : List Str).map V.str) := by rw [← e5]; exact hRA.t q1 (List.mem_append_right _ List.mem_cons_self)
    have row0 : ∀ {G : Hp} {c1 pd : Addr} {LL : List (Addr × List Str)} {Q : VK}, MachAt P w K CM CP CK G m kx md (stOf bkBin).leaf M nk (stOf bkBin).pg gs' → RowAt K G pd LL → LL.length ≤ 2 → (∀ x ∈ LL, x.2 = []) → (∀ H' : Hp, SqT K H' c1 []) → (∀ t rs ss n H', Same G H' → ResAt K H' t (rs.take n) ss → IsEnd rs n → RunR (stepM M (stOf bkBin).pg) (LL.map (·.2)) [] "m" rs ss → Q (.ref t) H') → spMRun P w K CM CP CK [.ref m, .str "m", .ref pd, .ref c1] G Q E0 := fun {G c1 pd LL Q} hM hR hl he h1 q =>
      run_by (cs0 := []) hM hOk nkok two nmM hR (by omega) (fun x mx => by rw [he x mx]; exact ⟨by decide +kernel, by show 0 ≤ 18; omega, nofun⟩) (h1 G) (by decide +kernel) (Nat.zero_le _) nofun fun t rs ss n H' s a b c _ => q t rs ss n H' s a b c
    refine ⟨fun σ' G => ∃ (l : Addr), σ' = [some (.ref a), t1, t2, t3, some (.ref m), some (.ref mp), some (.ref ra), some (.ref ga), some (.ref l)] ∧ Dp K G (.ref l) toldD, ?_, ?_⟩
    · refine ⟨_, rfl, ra, _, rfl, .inr hRA.e, _, rfl, 1, rfl, ra, _, -1, .ref q1.1, rfl, rfl, hRA.e, by rw [emap]; exact atI_end, ?_⟩
      refine ⟨_, rfl, 300, rfl, ra, _, rfl, hRA.e, fun p2 A1 u1 hp2 => ?_⟩
      have hp2 : SqT K A1 p2 (L3.map fun q => V.ref q.1) := by
        have h : SqT K A1 p2 (cutV ((L3 ++ [q1]).map fun q => V.ref q.1) none (some ((300 : Nat) : Int))) := hp2
        rw [cut_to0, emap, List.take_append_of_le_length (by rw [List.length_map, l3]; omega), List.take_of_length_le (by rw [List.length_map, l3]; omega)] at h
        exact h
      refine ⟨Nat.zero_le _, fun e0 n0 => ?_⟩
      have u2 := same_new (o := .tup []) (Same.refl A1) n0
      have f0 : (upd A1 e0 (.tup [])) e0 = some (.tup []) := upd_same
      generalize upd A1 e0 (.tup []) = A2 at *
      refine ⟨by show 1 ≤ sizeLine; omega, fun e6 n6 => ?_⟩
      have u3 := same_new (o := .tup [V.ref e0]) (Same.refl A2) n6
      have f6 : (upd A2 e6 (.tup [V.ref e0])) e6 = some (.tup [V.ref e0]) := upd_same
      generalize upd A2 e6 (.tup [V.ref e0]) = A3 at *
      refine ⟨e6, 300, [V.ref e0], rfl, rfl, .inl (.inl f6), List.cons_ne_nil _ _, by omega, by show 1 ≤ 1000; omega, fun e7 A4 u4 h7 => ?_⟩
      rw [flat_rep] at h7
      have u13 := u1.trans (u2.trans (u3.trans u4))
      have dl : Dp K A4 (.ref p2) (.tuple (List.replicate 300 (.tuple []))) := by
        have h : Dp K A4 (.ref p2) (rD (L3.map (·.2))) := RowAt.dp ⟨sqT_same (u2.trans (u3.trans u4)) hp2, fun x mx => sqT_same u13 (hRA.t x (List.mem_append_left _ mx))⟩
        rw [e3] at h
        have e8 : rD (List.replicate 300 []) = .tuple (List.replicate 300 (.tuple [])) := by
          show PyData.tuple ((List.replicate 300 []).map _) = _
          rw [List.map_replicate]
          rfl
        rw [e8] at h
        exact h
      have dr : Dp K A4 (.ref e7) (.tuple (List.replicate 300 (.tuple []))) := .tup h7 (dp_reps (.tup (.inl (.inl ((u3.trans u4) _ _ f0))) .nil) 300)
      refine ⟨_, _, dl, dr, rep_shaped, rep_shaped, ?_⟩
      rw [PySem.SeqAt.eqv_refl _ (PySem.SeqAt.canLay_of_shaped rep_shaped)]
      refine ⟨_, rfl, ga, _, rfl, .inr (sqT_same u13 hGA), ?_⟩
      -- no digits
      have hM4 := hM3.same u13
      obtain ⟨dm, ld, pd, hx, _⟩ := id hM4
      refine ⟨_, rfl, m, dm, _, rfl, hx, nok _ _ _, Nat.zero_le _, fun z0 nz0 => ?_⟩
      have u5 := same_new (o := .tup []) (Same.refl A4) nz0
      have fz0 : (upd A4 z0 (.tup [])) z0 = some (.tup []) := upd_same
      generalize upd A4 z0 (.tup []) = A5 at *
      refine fun c1 hc1 => row0 (hM4.same u5) (LL := []) ⟨.inl (.inl fz0), nofun⟩ (Nat.zero_le _) nofun hc1 fun v0 rs0 ss0 n00 A6 u6 hv0 hE0 hr0 => ?_
      have ers0 : rs0 = [] ∧ ss0 = [] := RunR.nil.det hr0
      obtain ⟨rfl, rfl⟩ := ers0
      rw [List.take_nil] at hv0
      -- two empty digits
      have hM6 := hM4.same (u5.trans u6)
      refine ⟨_, rfl, m, dm, _, rfl, (u5.trans u6) _ _ hx, nok _ _ _, Nat.zero_le _, fun z1 nz1 => ?_⟩
      have u7 := same_new (o := .tup []) (Same.refl A6) nz1
      have fz1 : (upd A6 z1 (.tup [])) z1 = some (.tup []) := upd_same
      generalize upd A6 z1 (.tup []) = A7 at *
      refine ⟨Nat.zero_le _, fun z2 nz2 => ?_⟩
      have u8 := same_new (o := .tup []) (Same.refl A7) nz2
      have fz2 : (upd A7 z2 (.tup [])) z2 = some (.tup []) := upd_same
      generalize upd A7 z2 (.tup []) = A8 at *
      refine ⟨by show 2 ≤ sizeLine; omega, fun z3 nz3 => ?_⟩
      have u9 := same_new (o := .tup [V.ref z1, .ref z2]) (Same.refl A8) nz3
      have fz3 : (upd A8 z3 (.tup [V.ref z1, .ref z2])) z3 = some (.tup [V.ref z1, .ref z2]) := upd_same
      generalize upd A8 z3 (.tup [V.ref z1, .ref z2]) = A9 at *
      refine fun c2 hc2 => row0 (hM6.same (u7.trans (u8.trans u9))) (LL := [(z1, []), (z2, [])]) ⟨.inl (.inl fz3), fun x mx => ?_⟩ (Nat.le_refl _) (fun x mx => ?_) hc2 fun v1 rs1 ss1 n11 A10 u10 hv1 hE1 hr1 => ?_
      · simp only [List.mem_cons, List.not_mem_nil, or_false] at mx
        rcases mx with rfl | rfl
        · exact .inl (.inl ((u8.trans u9) _ _ fz1))
        · exact .inl (.inl (u9 _ _ fz2))
      · simp only [List.mem_cons, List.not_mem_nil, or_false] at mx
        rcases mx with rfl | rfl <;> rfl
      obtain ⟨rfl, rfl⟩ := (run_two es3).det hr1
      have e9 : ([[], []] : List (List Str)).take n11 = ([[], []] : List (List Str)).take 0 := end_same (fun _ => rfl) hE1 two_end
      rw [e9, List.take_zero] at hv1
      refine ⟨by show 6 ≤ sizeLine; omega, fun l nl => ⟨l, rfl, ?_⟩⟩
      rw [l4, List.length_map, lx]
      have u11 := same_new (o := .lst [V.int ((301 : Nat) : Int), .ref q1.1, .bl true, .int ((301 : Nat) : Int), .ref v0, .ref v1]) (Same.refl A10) nl
      have el : (upd A10 l (.lst [V.int ((301 : Nat) : Int), .ref q1.1, .bl true, .int ((301 : Nat) : Int), .ref v0, .ref v1])) l = some (.lst [V.int ((301 : Nat) : Int), .ref q1.1, .bl true, .int ((301 : Nat) : Int), .ref v0, .ref v1]) := upd_same
      have w6 := (u7.trans (u8.trans u9)).trans (u10.trans u11)
      have w3 := u13.trans ((u5.trans u6).trans w6)
      exact .lst (.inl (.inl el)) (.cons (.int _) (.cons (.tup (sqT_same w3 hq1) (dp_texts _)) (.cons (.bl _) (.cons (.int _) (.cons ((hv0.same w6).dp) (.cons ((hv1.same u11).dp) .nil))))))
    rintro σ' G4 ⟨l, rfl, hD⟩
    refine ⟨_, rfl, ?_⟩
    refine ⟨by show 1 ≤ sizeLine; omega, fun q1 n1 => ?_⟩
    have u1 := same_new (o := .tup [V.str "a"]) (Same.refl G4) n1
    have f1 : (upd G4 q1 (.tup [V.str "a"])) q1 = some (.tup [V.str "a"]) := upd_same
    generalize upd G4 q1 (.tup [V.str "a"]) = B1 at *
    refine ⟨Nat.zero_le _, fun q2 n2 => ?_⟩
    have u2 := same_new (o := .tup []) (Same.refl B1) n2
    have f2 : (upd B1 q2 (.tup [])) q2 = some (.tup []) := upd_same
    generalize upd B1 q2 (.tup []) = B2 at *
    refine ⟨Nat.zero_le _, fun q3 n3 => ?_⟩
    have u3 := same_new (o := .tup []) (Same.refl B2) n3
    have f3 : (upd B2 q3 (.tup [])) q3 = some (.tup []) := upd_same
    generalize upd B2 q3 (.tup []) = B3 at *
    refine ⟨by show 2 ≤ sizeLine; omega, fun q4 n4 => ?_⟩
    have u4 := same_new (o := .tup [V.ref q2, .ref q3]) (Same.refl B3) n4
    have f4 : (upd B3 q4 (.tup [V.ref q2, .ref q3])) q4 = some (.tup [V.ref q2, .ref q3]) := upd_same
    generalize upd B3 q4 (.tup [V.ref q2, .ref q3]) = B4 at *
    refine ⟨Nat.zero_le _, fun q5 n5 => ?_⟩
    have u5 := same_new (o := .tup []) (Same.refl B4) n5
    have f5 : (upd B4 q5 (.tup [])) q5 = some (.tup []) := upd_same
    generalize upd B4 q5 (.tup []) = B5 at *
    refine ⟨Nat.zero_le _, fun q6 n6 => ?_⟩
    have u6 := same_new (o := .tup []) (Same.refl B5) n6
    have f6 : (upd B5 q6 (.tup [])) q6 = some (.tup []) := upd_same
    generalize upd B5 q6 (.tup []) = B6 at *
    refine ⟨Nat.zero_le _, fun q7 n7 => ?_⟩
    have u7 := same_new (o := .tup []) (Same.refl B6) n7
    have f7 : (upd B6 q7 (.tup [])) q7 = some (.tup []) := upd_same
    generalize upd B6 q7 (.tup []) = B7 at *
    refine ⟨by show 3 ≤ sizeLine; omega, fun q8 n8 => ?_⟩
    have u8 := same_new (o := .tup [V.ref q6, .ref q7, .str "m"]) (Same.refl B7) n8
    have f8 : (upd B7 q8 (.tup [V.ref q6, .ref q7, .str "m"])) q8 = some (.tup [V.ref q6, .ref q7, .str "m"]) := upd_same
    generalize upd B7 q8 (.tup [V.ref q6, .ref q7, .str "m"]) = B8 at *
    refine ⟨by show 1 ≤ sizeLine; omega, fun q9 n9 => ?_⟩
    have u9 := same_new (o := .tup [V.ref q8]) (Same.refl B8) n9
    have f9 : (upd B8 q9 (.tup [V.ref q8])) q9 = some (.tup [V.ref q8]) := upd_same
    generalize upd B8 q9 (.tup [V.ref q8]) = B9 at *
    refine ⟨q9, 2, [V.ref q8], rfl, rfl, .inl (.inl f9), List.cons_ne_nil _ _, by omega, by show 1 ≤ 1000; omega, fun q10 B10 u10 f10 => ?_⟩
    have f10 : SqT K B10 q10 [V.ref q8, .ref q8] := f10
    refine ⟨by show 2 ≤ sizeLine; omega, fun q11 n11 => ?_⟩
    have u11 := same_new (o := .tup [V.ref q5, .ref q10]) (Same.refl B10) n11
    have f11 : (upd B10 q11 (.tup [V.ref q5, .ref q10])) q11 = some (.tup [V.ref q5, .ref q10]) := upd_same
    generalize upd B10 q11 (.tup [V.ref q5, .ref q10]) = B11 at *
    refine ⟨by show 6 ≤ sizeLine; omega, fun q12 n12 => ?_⟩
    have u12 := same_new (o := .lst [V.int 301, .ref q1, .bl true, .int 301, .ref q4, .ref q11]) (Same.refl B11) n12
    have f12 : (upd B11 q12 (.lst [V.int 301, .ref q1, .bl true, .int 301, .ref q4, .ref q11])) q12 = some (.lst [V.int 301, .ref q1, .bl true, .int 301, .ref q4, .ref q11]) := upd_same
    generalize upd B11 q12 (.lst [V.int 301, .ref q1, .bl true, .int 301, .ref q4, .ref q11]) = B12 at *
    have w12 := Same.refl B12
    have w11 : Same B11 B12 := u12.trans w12
    have w10 : Same B10 B12 := u11.trans w11
    have w9 : Same B9 B12 := u10.trans w10
    have w8 : Same B8 B12 := u9.trans w9
    have w7 : Same B7 B12 := u8.trans w8
    have w6 : Same B6 B12 := u7.trans w7
    have w5 : Same B5 B12 := u6.trans w6
    have w4 : Same B4 B12 := u5.trans w5
    have w3 : Same B3 B12 := u4.trans w4
    have w2 : Same B2 B12 := u3.trans w3
    have w1 : Same B1 B12 := u2.trans w2
    have em : ∀ {q : Addr}, B12 q = some (.tup []) → Dp K B12 (.ref q) (.tuple []) := fun h => .tup (.inl (.inl h)) .nil
    have ds : Dp K B12 (.ref q8) (stepD ([], [], "m")) := .tup (.inl (.inl (w8 _ _ f8))) (.cons (em (w6 _ _ f6)) (.cons (em (w7 _ _ f7)) (.cons (.str _) .nil)))
    have hD2 : Dp K B12 (.ref q12) toldD := .lst (.inl (.inl f12)) (.cons (.int _) (.cons (.tup (.inl (.inl (w1 _ _ f1))) (dp_texts ["a"])) (.cons (.bl _) (.cons (.int _) (.cons (.tup (.inl (.inl (w4 _ _ f4))) (.cons (em (w2 _ _ f2)) (.cons (em (w3 _ _ f3)) .nil)))
      (.cons (.tup (.inl (.inl (w11 _ _ f11))) (.cons (em (w5 _ _ f5)) (.cons (.tup (sqT_same w10 f10) (.cons ds (.cons ds .nil))) .nil))) .nil))))))
    refine ⟨toldD, toldD, hD.st (u1.trans w1), hD2, told_shaped, told_shaped, ?_⟩
    rw [PySem.SeqAt.eqv_refl _ (PySem.SeqAt.canLay_of_shaped told_shaped)]
    exact q _
theorem ok_law {f c1 P1 : Addr} {fd : FuncData} {Tb : List (Addr × Str)} (F : Fun K "law" "law" s_law f fd) (gl : mg "law" = some (.ref f))
    (hB : ∀ C, mg "Machine" = some (.ref C) → (∃ (f : Addr) (fd : FuncData), Mk K C f ∧ Fun K "__init__" "Machine.__init__" s_Machine_init f fd ∧ Binds K fd ["self", "kinds", "pages"] [] ∧ fd.code = .ref c1) ∧ TabB base mg c1 P1 ∧ (P1, ln "Machine.__init__") ∈ Tb ∧ ∀ p ∈ Tb, p.1 = P1 → p.2 = ln "Machine.__init__")
    (T : Top K mg) : FnG P w K mg base CX0 40 f fd ["_law_script"] (spLaw K Tb) := by
  obtain ⟨CM, TM⟩ := T.c_Machine
  obtain ⟨CP, TC⟩ := T.c_Page
  obtain ⟨CK, TK⟩ := T.c_Kinds
  obtain ⟨Co, XO, XC, te⟩ := T.p_InvalidOperation
  obtain ⟨⟨fb, fdb, mk, Fb, bb, hc⟩, tb, mem, one⟩ := hB _ TM.gC
  exact ok_law0 F T TM TC TK ⟨fb, fdb, mk, (ok_minit Fb hc tb mem one T TM TC TK XO XC).mono (by decide), bb⟩
end
end Kl
set_option maxRecDepth 100000
set_option maxHeartbeats 4000000
namespace Gx
open PySem PySem.Spec PyProof.Rows L2
theorem walkGM {l : PySem.W.OpenLaw} {n k : Nat} {q : Program} {loose : List Str} {XP : (Str → Option Value) → Heap → Prop} {YP : World → Heap → Prop} {d : DefRec} {K : Params → PySem.W.Frag} {CX : World → CXT} {x : Str} {ts : List Addr}
    (most : l.most = some n) (small : n ≤ sizeLine) (plain : d.params.defaults = []) (room : Room k callerA) (hY : ∀ (w : World) (h : Heap), YP w h → (K w.params).In h)
    (hT : ∀ (w : World) (h : Heap), YP w h → ∀ P ∈ ts, h.get? P = some (PySem.W.tabObj #[]))
    (F : ∀ (w : World) (mg : Str → Option Value) (fa : Addr) (h : Heap), (K w.params).In h → h.Ns mainGlobals mg → mg d.name = some (.ref fa) →
      ∃ (fd : FuncData) (cs : List (Addr × Addr)) (sp : Sp), (∀ c ∈ cs, (PySem.W.codeHdIn (K w.params) c.1 c.2 = true ∧ c.2 ∈ ts) ∧ (K w.params).lookup c.2 = none) ∧
        (∀ (s : Shared) (u : Value), BindsTo s fd ⟨[u], []⟩ [(x, u)]) ∧
        (∀ (H : Hp) (a : Addr) (ns : List Int), ns.length ≤ n → (∀ c ∈ cs, H c.2 = some (.tbl #[])) → SqL (K w.params) H a (ns.map V.int) → sp [.ref a] H (fun v _ => v = .bl true) fun _ _ _ => False) ∧
        ∀ base : Heap, (K w.params).In base → base.Ns mainGlobals mg → (∀ c ∈ cs, LamX.TabB base mg c.1 c.2) → FnG l.prog w (K w.params) mg base (CX w) k fa fd [x] sp)
    (noErr : ∀ (w : World) (H : Hp) (s : Shared) (e : Value) (s' : Shared), CX w [] H s (fun _ _ _ => False) e s' → False) :
    PySem.W.WalkO q loose XP YP l.row.toRowW d [] (fun f vs => PySem.call f vs) := by
  refine Att.attach_call most plain fun w s₀ t mg mb fa o pm cd doc a vs ns G Y ho hd hcd hmg scr hints hlen gens => ?_
  obtain ⟨fd, cs, sp, tabs, bind, want, body⟩ := F w mg fa _ (hY w _ Y) G.T.g hmg
  have th : ∀ c ∈ cs, PySem.W.CodeHd t.heap c.1 c.2 ∧ t.heap.get? c.2 = some (PySem.W.tabObj #[]) := fun c hc => by
    obtain ⟨⟨h1, h2⟩, _⟩ := tabs c hc
    exact ⟨PySem.W.codeHd_of_K (hY w _ Y) h1, hT w _ Y _ h2⟩
  exact lawGT (hY w _ Y) G.T.g G.T.b G.T.builtins G.T.nolimit gens ⟨fun c hc => (th c hc).1, fun c hc => (th c hc).2, fun c hc => (tabs c hc).2⟩ G.T.bmain scr hints (Nat.le_trans hlen small) room body bind
    (fun H hO hS => want H a ns hlen hO hS) fun H e s' => noErr w H t e s'
end Gx
set_option maxRecDepth 100000
set_option maxHeartbeats 4000000
namespace Kl
open PySem PySem.Spec PyProof.Rows L2 Gx LamX
theorem all_mk {l : PySem.W.OpenLaw} {w : World} {K : PySem.W.Frag} {h : Heap} {mg : Str → Option Value} {fa : Addr} (X : K.In h) (G : h.Ns mainGlobals mg) (hfa : mg "law" = some (.ref fa))
    {Cy0 : Addr} {nmy0 qny0 : Str} {Ny0 : Addr} {bsy0 bmy0 : List Value} {hdy0 : Bool} {sny0 : List Str} {suby0 : List Value} {aby0 : Bool} {coly0 : Option Bool} {ddy0 : Option Addr} {k0y0 k1y0 k2y0 k3y0 k5y0 : Option Value}
    {f0 : Addr} {od0 an0 : Option Addr} {sl0 : Array (Option Value)} {oc0 kV0 dc0 pm0 cd0 ct0 : Value}
    {f1 : Addr} {od1 an1 : Option Addr} {sl1 : Array (Option Value)} {oc1 kV1 dc1 pm1 cd1 ct1 : Value}
    {f2 : Addr} {od2 an2 : Option Addr} {sl2 : Array (Option Value)} {oc2 kV2 dc2 pm2 cd2 ct2 : Value}
    {f3 : Addr} {od3 an3 : Option Addr} {sl3 : Array (Option Value)} {oc3 kV3 dc3 pm3 cd3 ct3 : Value}
    {f4 : Addr} {od4 an4 : Option Addr} {sl4 : Array (Option Value)} {oc4 kV4 dc4 pm4 cd4 ct4 : Value}
    {f5 : Addr} {od5 an5 : Option Addr} {sl5 : Array (Option Value)} {oc5 kV5 dc5 pm5 cd5 ct5 : Value}
    {f6 : Addr} {od6 an6 : Option Addr} {sl6 : Array (Option Value)} {oc6 kV6 dc6 pm6 cd6 ct6 : Value}
    {f7 : Addr} {od7 an7 : Option Addr} {sl7 : Array (Option Value)} {oc7 kV7 dc7 pm7 cd7 ct7 : Value}
    {f8 : Addr} {od8 an8 : Option Addr} {sl8 : Array (Option Value)} {oc8 kV8 dc8 pm8 cd8 ct8 : Value}
    {f9 : Addr} {od9 an9 : Option Addr} {sl9 : Array (Option Value)} {oc9 kV9 dc9 pm9 cd9 ct9 : Value}
    {f10 : Addr} {od10 an10 : Option Addr} {sl10 : Array (Option Value)} {oc10 kV10 dc10 pm10 cd10 ct10 : Value}
    {f11 : Addr} {od11 an11 : Option Addr} {sl11 : Array (Option Value)} {oc11 kV11 dc11 pm11 cd11 ct11 : Value}
    {f12 : Addr} {od12 an12 : Option Addr} {sl12 : Array (Option Value)} {oc12 kV12 dc12 pm12 cd12 ct12 : Value}
    {f13 : Addr} {od13 an13 : Option Addr} {sl13 : Array (Option Value)} {oc13 kV13 dc13 pm13 cd13 ct13 : Value}
    {f14 : Addr} {od14 an14 : Option Addr} {sl14 : Array (Option Value)} {oc14 kV14 dc14 pm14 cd14 ct14 : Value}
    {f15 : Addr} {od15 an15 : Option Addr} {sl15 : Array (Option Value)} {oc15 kV15 dc15 pm15 cd15 ct15 : Value}
    {f16 : Addr} {od16 an16 : Option Addr} {sl16 : Array (Option Value)} {oc16 kV16 dc16 pm16 cd16 ct16 : Value}
    {f17 : Addr} {od17 an17 : Option Addr} {sl17 : Array (Option Value)} {oc17 kV17 dc17 pm17 cd17 ct17 : Value}
    {f18 : Addr} {od18 an18 : Option Addr} {sl18 : Array (Option Value)} {oc18 kV18 dc18 pm18 cd18 ct18 : Value}
    {f19 : Addr} {od19 an19 : Option Addr} {sl19 : Array (Option Value)} {oc19 kV19 dc19 pm19 cd19 ct19 : Value}
    {f20 : Addr} {od20 an20 : Option Addr} {sl20 : Array (Option Value)} {oc20 kV20 dc20 pm20 cd20 ct20 : Value}
    {f21 : Addr} {od21 an21 : Option Addr} {sl21 : Array (Option Value)} {oc21 kV21 dc21 pm21 cd21 ct21 : Value}
    {f22 : Addr} {od22 an22 : Option Addr} {sl22 : Array (Option Value)} {oc22 kV22 dc22 pm22 cd22 ct22 : Value}
    {f23 : Addr} {od23 an23 : Option Addr} {sl23 : Array (Option Value)} {oc23 kV23 dc23 pm23 cd23 ct23 : Value}
    {f24 : Addr} {od24 an24 : Option Addr} {sl24 : Array (Option Value)} {oc24 kV24 dc24 pm24 cd24 ct24 : Value}
    {f25 : Addr} {od25 an25 : Option Addr} {sl25 : Array (Option Value)} {oc25 kV25 dc25 pm25 cd25 ct25 : Value}
    {f26 : Addr} {od26 an26 : Option Addr} {sl26 : Array (Option Value)} {oc26 kV26 dc26 pm26 cd26 ct26 : Value}
    {f27 : Addr} {od27 an27 : Option Addr} {sl27 : Array (Option Value)} {oc27 kV27 dc27 pm27 cd27 ct27 : Value}
    {f28 : Addr} {od28 an28 : Option Addr} {sl28 : Array (Option Value)} {oc28 kV28 dc28 pm28 cd28 ct28 : Value}
    {f29 : Addr} {od29 an29 : Option Addr} {sl29 : Array (Option Value)} {oc29 kV29 dc29 pm29 cd29 ct29 : Value}
    {f30 : Addr} {od30 an30 : Option Addr} {sl30 : Array (Option Value)} {oc30 kV30 dc30 pm30 cd30 ct30 : Value}
    {f31 : Addr} {od31 an31 : Option Addr} {sl31 : Array (Option Value)} {oc31 kV31 dc31 pm31 cd31 ct31 : Value}
    {f32 : Addr} {od32 an32 : Option Addr} {sl32 : Array (Option Value)} {oc32 kV32 dc32 pm32 cd32 ct32 : Value}
    {f33 : Addr} {od33 an33 : Option Addr} {sl33 : Array (Option Value)} {oc33 kV33 dc33 pm33 cd33 ct33 : Value}
    {f34 : Addr} {od34 an34 : Option Addr} {sl34 : Array (Option Value)} {oc34 kV34 dc34 pm34 cd34 ct34 : Value}
    {f35 : Addr} {od35 an35 : Option Addr} {sl35 : Array (Option Value)} {oc35 kV35 dc35 pm35 cd35 ct35 : Value}
    {f36 : Addr} {od36 an36 : Option Addr} {sl36 : Array (Option Value)} {oc36 kV36 dc36 pm36 cd36 ct36 : Value}
    {f37 : Addr} {od37 an37 : Option Addr} {sl37 : Array (Option Value)} {oc37 kV37 dc37 pm37 cd37 ct37 : Value}
    {f38 : Addr} {od38 an38 : Option Addr} {sl38 : Array (Option Value)} {oc38 kV38 dc38 pm38 cd38 ct38 : Value}
    {f39 : Addr} {od39 an39 : Option Addr} {sl39 : Array (Option Value)} {oc39 kV39 dc39 pm39 cd39 ct39 : Value}
    {f40 : Addr} {od40 an40 : Option Addr} {sl40 : Array (Option Value)} {oc40 kV40 dc40 pm40 cd40 ct40 : Value}
    {f41 : Addr} {od41 an41 : Option Addr} {sl41 : Array (Option Value)} {oc41 kV41 dc41 pm41 cd41 ct41 : Value}
    {f42 : Addr} {od42 an42 : Option Addr} {sl42 : Array (Option Value)} {oc42 kV42 dc42 pm42 cd42 ct42 : Value}
    {f43 : Addr} {od43 an43 : Option Addr} {sl43 : Array (Option Value)} {oc43 kV43 dc43 pm43 cd43 ct43 : Value}
    {f44 : Addr} {od44 an44 : Option Addr} {sl44 : Array (Option Value)} {oc44 kV44 dc44 pm44 cd44 ct44 : Value}
    {f45 : Addr} {od45 an45 : Option Addr} {sl45 : Array (Option Value)} {oc45 kV45 dc45 pm45 cd45 ct45 : Value}
    {f46 : Addr} {od46 an46 : Option Addr} {sl46 : Array (Option Value)} {oc46 kV46 dc46 pm46 cd46 ct46 : Value}
    {f47 : Addr} {od47 an47 : Option Addr} {sl47 : Array (Option Value)} {oc47 kV47 dc47 pm47 cd47 ct47 : Value}
    {CoKinds : Addr}
    {fM0Kinds : Addr} {odM0Kinds anM0Kinds : Option Addr} {slM0Kinds : Array (Option Value)} {ocM0Kinds kVM0Kinds dcM0Kinds pmM0Kinds cdM0Kinds ctM0Kinds : Value}
    {fM9Kinds : Addr} {odM9Kinds anM9Kinds : Option Addr} {slM9Kinds : Array (Option Value)} {ocM9Kinds kVM9Kinds dcM9Kinds pmM9Kinds cdM9Kinds ctM9Kinds : Value}
    {fM10Kinds : Addr} {odM10Kinds anM10Kinds : Option Addr} {slM10Kinds : Array (Option Value)} {ocM10Kinds kVM10Kinds dcM10Kinds pmM10Kinds cdM10Kinds ctM10Kinds : Value}
    {CoPage : Addr}
    {fM0Page : Addr} {odM0Page anM0Page : Option Addr} {slM0Page : Array (Option Value)} {ocM0Page kVM0Page dcM0Page pmM0Page cdM0Page ctM0Page : Value}
    {fM4Page : Addr} {odM4Page anM4Page : Option Addr} {slM4Page : Array (Option Value)} {ocM4Page kVM4Page dcM4Page pmM4Page cdM4Page ctM4Page : Value}
    {qM4Page : Addr} {rsM4Page : List Value}
    {fM5Page : Addr} {odM5Page anM5Page : Option Addr} {slM5Page : Array (Option Value)} {ocM5Page kVM5Page dcM5Page pmM5Page cdM5Page ctM5Page : Value}
    {qM5Page : Addr} {rsM5Page : List Value}
    {fM6Page : Addr} {odM6Page anM6Page : Option Addr} {slM6Page : Array (Option Value)} {ocM6Page kVM6Page dcM6Page pmM6Page cdM6Page ctM6Page : Value}
    {qM6Page : Addr} {rsM6Page : List Value}
    {fM7Page : Addr} {odM7Page anM7Page : Option Addr} {slM7Page : Array (Option Value)} {ocM7Page kVM7Page dcM7Page pmM7Page cdM7Page ctM7Page : Value}
    {qM7Page : Addr} {rsM7Page : List Value}
    {fM8Page : Addr} {odM8Page anM8Page : Option Addr} {slM8Page : Array (Option Value)} {ocM8Page kVM8Page dcM8Page pmM8Page cdM8Page ctM8Page : Value}
    {CoMachine : Addr}
    {fM0Machine : Addr} {odM0Machine anM0Machine : Option Addr} {slM0Machine : Array (Option Value)} {ocM0Machine kVM0Machine dcM0Machine pmM0Machine cdM0Machine ctM0Machine : Value}
    {fM1Machine : Addr} {odM1Machine anM1Machine : Option Addr} {slM1Machine : Array (Option Value)} {ocM1Machine kVM1Machine dcM1Machine pmM1Machine cdM1Machine ctM1Machine : Value}
    {qM1Machine : Addr} {rsM1Machine : List Value}
    {fM4Machine : Addr} {odM4Machine anM4Machine : Option Addr} {slM4Machine : Array (Option Value)} {ocM4Machine kVM4Machine dcM4Machine pmM4Machine cdM4Machine ctM4Machine : Value}
    {fM5Machine : Addr} {odM5Machine anM5Machine : Option Addr} {slM5Machine : Array (Option Value)} {ocM5Machine kVM5Machine dcM5Machine pmM5Machine cdM5Machine ctM5Machine : Value}
    {fM6Machine : Addr} {odM6Machine anM6Machine : Option Addr} {slM6Machine : Array (Option Value)} {ocM6Machine kVM6Machine dcM6Machine pmM6Machine cdM6Machine ctM6Machine : Value}
    {fM7Machine : Addr} {odM7Machine anM7Machine : Option Addr} {slM7Machine : Array (Option Value)} {ocM7Machine dcM7Machine pmM7Machine cdM7Machine ctM7Machine : Value}
    {DM7Machine TM7Machine : Addr} {odTM7Machine : Option Addr} {nTM7Machine : Nat} {slTM7Machine : Array (Option Value)}
    {t0 : Tok}
    {t1 : Tok}
    {t2 : Tok}
    {t3 : Tok}
    {t4 : Tok}
    {t5 : Tok}
    {t6 : Tok}
    {t7 : Tok}
    {t8 : Tok}
    {ts : List Addr}
    {cT0 PT0 : Addr} {ucT0 : Value} {odT0 : Option Addr} {vsT0 : Array Value} {slT0 : Array (Option Value)}
    (gy0 : PySem.W.nsIn K mainGlobals "InvalidOperation" = some (some (.ref Cy0))) (hy0 : K.lookup Cy0 = some (excClassObj nmy0 qny0 Cy0 Ny0 bsy0 bmy0 hdy0 sny0 suby0 aby0 coly0 ddy0 k0y0 k1y0 k2y0 k3y0 k5y0 "ValueError.__new__")) (ty0 : PySem.W.excTail [.type "ValueError", .type "Exception", .type "BaseException", .type "object"] bmy0 = true) (iy0 : PySem.W.findIn K (.ref Cy0) "__init__" = some (some (.builtin "ValueError.__init__"))) (ky0 : PySem.W.keepIn K (.ref Cy0) = true) (by0 : PySem.W.subIn K (.ref Cy0) (.type "BaseException") = some true) (wy0 : PySem.W.typeIn K (.ref Cy0) = some (.type "type")) (xy0 : PySem.W.isClsIn K Cy0 = true) (ry0 : PySem.W.subIn K (.ref Cy0) (.ref Cy0) = some true) (zy0 : xclsB K Cy0 = true)
    (a0 : PySem.W.nsIn K mainGlobals "_wall" = some (some (.ref f0))) (l0 : K.lookup f0 = some ⟨oc0, od0, .func (PySem.W.fnOf "_wall" "_wall" (defArgs s_wall) (defBody s_wall) (defScope s_wall) .none kV0 dc0 pm0 an0 cd0 ct0), sl0⟩) (c0 : PySem.W.codeIn K cd0 "_wall" = true) (k0 : PySem.W.keepIn K (.ref f0) = true)
    (a1 : PySem.W.nsIn K mainGlobals "is_integer" = some (some (.ref f1))) (l1 : K.lookup f1 = some ⟨oc1, od1, .func (PySem.W.fnOf "is_integer" "is_integer" (defArgs s_is_integer) (defBody s_is_integer) (defScope s_is_integer) .none kV1 dc1 pm1 an1 cd1 ct1), sl1⟩) (c1 : PySem.W.codeIn K cd1 "is_integer" = true) (k1 : PySem.W.keepIn K (.ref f1) = true)
    (a2 : PySem.W.nsIn K mainGlobals "is_count" = some (some (.ref f2))) (l2 : K.lookup f2 = some ⟨oc2, od2, .func (PySem.W.fnOf "is_count" "is_count" (defArgs s_is_count) (defBody s_is_count) (defScope s_is_count) .none kV2 dc2 pm2 an2 cd2 ct2), sl2⟩) (c2 : PySem.W.codeIn K cd2 "is_count" = true) (k2 : PySem.W.keepIn K (.ref f2) = true)
    (a3 : PySem.W.nsIn K mainGlobals "is_name" = some (some (.ref f3))) (l3 : K.lookup f3 = some ⟨oc3, od3, .func (PySem.W.fnOf "is_name" "is_name" (defArgs s_is_name) (defBody s_is_name) (defScope s_is_name) .none kV3 dc3 pm3 an3 cd3 ct3), sl3⟩) (c3 : PySem.W.codeIn K cd3 "is_name" = true) (k3 : PySem.W.keepIn K (.ref f3) = true)
    (a4 : PySem.W.nsIn K mainGlobals "is_sorted" = some (some (.ref f4))) (l4 : K.lookup f4 = some ⟨oc4, od4, .func (PySem.W.fnOf "is_sorted" "is_sorted" (defArgs s_is_sorted) (defBody s_is_sorted) (defScope s_is_sorted) .none kV4 dc4 pm4 an4 cd4 ct4), sl4⟩) (c4 : PySem.W.codeIn K cd4 "is_sorted" = true) (k4 : PySem.W.keepIn K (.ref f4) = true)
    (a5 : PySem.W.nsIn K mainGlobals "text_of" = some (some (.ref f5))) (l5 : K.lookup f5 = some ⟨oc5, od5, .func (PySem.W.fnOf "text_of" "text_of" (defArgs s_text_of) (defBody s_text_of) (defScope s_text_of) .none kV5 dc5 pm5 an5 cd5 ct5), sl5⟩) (c5 : PySem.W.codeIn K cd5 "text_of" = true) (k5 : PySem.W.keepIn K (.ref f5) = true)
    (a6 : PySem.W.nsIn K mainGlobals "_is_making" = some (some (.ref f6))) (l6 : K.lookup f6 = some ⟨oc6, od6, .func (PySem.W.fnOf "_is_making" "_is_making" (defArgs s_is_making) (defBody s_is_making) (defScope s_is_making) .none kV6 dc6 pm6 an6 cd6 ct6), sl6⟩) (c6 : PySem.W.codeIn K cd6 "_is_making" = true) (k6 : PySem.W.keepIn K (.ref f6) = true)
    (a7 : PySem.W.nsIn K mainGlobals "_all_names" = some (some (.ref f7))) (l7 : K.lookup f7 = some ⟨oc7, od7, .func (PySem.W.fnOf "_all_names" "_all_names" (defArgs s_all_names) (defBody s_all_names) (defScope s_all_names) .none kV7 dc7 pm7 an7 cd7 ct7), sl7⟩) (c7 : PySem.W.codeIn K cd7 "_all_names" = true) (k7 : PySem.W.keepIn K (.ref f7) = true)
    (a8 : PySem.W.nsIn K mainGlobals "_are_kinds" = some (some (.ref f8))) (l8 : K.lookup f8 = some ⟨oc8, od8, .func (PySem.W.fnOf "_are_kinds" "_are_kinds" (defArgs s_are_kinds) (defBody s_are_kinds) (defScope s_are_kinds) .none kV8 dc8 pm8 an8 cd8 ct8), sl8⟩) (c8 : PySem.W.codeIn K cd8 "_are_kinds" = true) (k8 : PySem.W.keepIn K (.ref f8) = true)
    (a9 : PySem.W.nsIn K mainGlobals "are_digits" = some (some (.ref f9))) (l9 : K.lookup f9 = some ⟨oc9, od9, .func (PySem.W.fnOf "are_digits" "are_digits" (defArgs s_are_digits) (defBody s_are_digits) (defScope s_are_digits) .none kV9 dc9 pm9 an9 cd9 ct9), sl9⟩) (c9 : PySem.W.codeIn K cd9 "are_digits" = true) (k9 : PySem.W.keepIn K (.ref f9) = true)
    (a10 : PySem.W.nsIn K mainGlobals "are_loose_digits" = some (some (.ref f10))) (l10 : K.lookup f10 = some ⟨oc10, od10, .func (PySem.W.fnOf "are_loose_digits" "are_loose_digits" (defArgs s_are_loose_digits) (defBody s_are_loose_digits) (defScope s_are_loose_digits) .none kV10 dc10 pm10 an10 cd10 ct10), sl10⟩) (c10 : PySem.W.codeIn K cd10 "are_loose_digits" = true) (k10 : PySem.W.keepIn K (.ref f10) = true)
    (a11 : PySem.W.nsIn K mainGlobals "digit_at" = some (some (.ref f11))) (l11 : K.lookup f11 = some ⟨oc11, od11, .func (PySem.W.fnOf "digit_at" "digit_at" (defArgs s_digit_at) (defBody s_digit_at) (defScope s_digit_at) .none kV11 dc11 pm11 an11 cd11 ct11), sl11⟩) (c11 : PySem.W.codeIn K cd11 "digit_at" = true) (k11 : PySem.W.keepIn K (.ref f11) = true)
    (a12 : PySem.W.nsIn K mainGlobals "merged" = some (some (.ref f12))) (l12 : K.lookup f12 = some ⟨oc12, od12, .func (PySem.W.fnOf "merged" "merged" (defArgs s_merged) (defBody s_merged) (defScope s_merged) .none kV12 dc12 pm12 an12 cd12 ct12), sl12⟩) (c12 : PySem.W.codeIn K cd12 "merged" = true) (k12 : PySem.W.keepIn K (.ref f12) = true)
    (a13 : PySem.W.nsIn K mainGlobals "trimmed" = some (some (.ref f13))) (l13 : K.lookup f13 = some ⟨oc13, od13, .func (PySem.W.fnOf "trimmed" "trimmed" (defArgs s_trimmed) (defBody s_trimmed) (defScope s_trimmed) .none kV13 dc13 pm13 an13 cd13 ct13), sl13⟩) (c13 : PySem.W.codeIn K cd13 "trimmed" = true) (k13 : PySem.W.keepIn K (.ref f13) = true)
    (a14 : PySem.W.nsIn K mainGlobals "_is_place" = some (some (.ref f14))) (l14 : K.lookup f14 = some ⟨oc14, od14, .func (PySem.W.fnOf "_is_place" "_is_place" (defArgs s_is_place) (defBody s_is_place) (defScope s_is_place) .none kV14 dc14 pm14 an14 cd14 ct14), sl14⟩) (c14 : PySem.W.codeIn K cd14 "_is_place" = true) (k14 : PySem.W.keepIn K (.ref f14) = true)
    (a15 : PySem.W.nsIn K mainGlobals "_left" = some (some (.ref f15))) (l15 : K.lookup f15 = some ⟨oc15, od15, .func (PySem.W.fnOf "_left" "_left" (defArgs s_left) (defBody s_left) (defScope s_left) .none kV15 dc15 pm15 an15 cd15 ct15), sl15⟩) (c15 : PySem.W.codeIn K cd15 "_left" = true) (k15 : PySem.W.keepIn K (.ref f15) = true)
    (a16 : PySem.W.nsIn K mainGlobals "_are_pages" = some (some (.ref f16))) (l16 : K.lookup f16 = some ⟨oc16, od16, .func (PySem.W.fnOf "_are_pages" "_are_pages" (defArgs s_are_pages) (defBody s_are_pages) (defScope s_are_pages) .none kV16 dc16 pm16 an16 cd16 ct16), sl16⟩) (c16 : PySem.W.codeIn K cd16 "_are_pages" = true) (k16 : PySem.W.keepIn K (.ref f16) = true)
    (a17 : PySem.W.nsIn K mainGlobals "_left_by_place" = some (some (.ref f17))) (l17 : K.lookup f17 = some ⟨oc17, od17, .func (PySem.W.fnOf "_left_by_place" "_left_by_place" (defArgs s_left_by_place) (defBody s_left_by_place) (defScope s_left_by_place) .none kV17 dc17 pm17 an17 cd17 ct17), sl17⟩) (c17 : PySem.W.codeIn K cd17 "_left_by_place" = true) (k17 : PySem.W.keepIn K (.ref f17) = true)
    (a18 : PySem.W.nsIn K mainGlobals "_law_dice" = some (some (.ref f18))) (l18 : K.lookup f18 = some ⟨oc18, od18, .func (PySem.W.fnOf "_law_dice" "_law_dice" (defArgs s_law_dice) (defBody s_law_dice) (defScope s_law_dice) .none kV18 dc18 pm18 an18 cd18 ct18), sl18⟩) (c18 : PySem.W.codeIn K cd18 "_law_dice" = true) (k18 : PySem.W.keepIn K (.ref f18) = true)
    (a19 : PySem.W.nsIn K mainGlobals "_law_roll" = some (some (.ref f19))) (l19 : K.lookup f19 = some ⟨oc19, od19, .func (PySem.W.fnOf "_law_roll" "_law_roll" (defArgs s_law_roll) (defBody s_law_roll) (defScope s_law_roll) .none kV19 dc19 pm19 an19 cd19 ct19), sl19⟩) (c19 : PySem.W.codeIn K cd19 "_law_roll" = true) (k19 : PySem.W.keepIn K (.ref f19) = true)
    (a20 : PySem.W.nsIn K mainGlobals "_law_pick" = some (some (.ref f20))) (l20 : K.lookup f20 = some ⟨oc20, od20, .func (PySem.W.fnOf "_law_pick" "_law_pick" (defArgs s_law_pick) (defBody s_law_pick) (defScope s_law_pick) .none kV20 dc20 pm20 an20 cd20 ct20), sl20⟩) (c20 : PySem.W.codeIn K cd20 "_law_pick" = true) (k20 : PySem.W.keepIn K (.ref f20) = true)
    (a21 : PySem.W.nsIn K mainGlobals "_law_digit" = some (some (.ref f21))) (l21 : K.lookup f21 = some ⟨oc21, od21, .func (PySem.W.fnOf "_law_digit" "_law_digit" (defArgs s_law_digit) (defBody s_law_digit) (defScope s_law_digit) .none kV21 dc21 pm21 an21 cd21 ct21), sl21⟩) (c21 : PySem.W.codeIn K cd21 "_law_digit" = true) (k21 : PySem.W.keepIn K (.ref f21) = true)
    (a22 : PySem.W.nsIn K mainGlobals "_law_plain" = some (some (.ref f22))) (l22 : K.lookup f22 = some ⟨oc22, od22, .func (PySem.W.fnOf "_law_plain" "_law_plain" (defArgs s_law_plain) (defBody s_law_plain) (defScope s_law_plain) .none kV22 dc22 pm22 an22 cd22 ct22), sl22⟩) (c22 : PySem.W.codeIn K cd22 "_law_plain" = true) (k22 : PySem.W.keepIn K (.ref f22) = true)
    (a23 : PySem.W.nsIn K mainGlobals "_law_made_kinds" = some (some (.ref f23))) (l23 : K.lookup f23 = some ⟨oc23, od23, .func (PySem.W.fnOf "_law_made_kinds" "_law_made_kinds" (defArgs s_law_made_kinds) (defBody s_law_made_kinds) (defScope s_law_made_kinds) .none kV23 dc23 pm23 an23 cd23 ct23), sl23⟩) (c23 : PySem.W.codeIn K cd23 "_law_made_kinds" = true) (k23 : PySem.W.keepIn K (.ref f23) = true)
    (a24 : PySem.W.nsIn K mainGlobals "_law_free_reads" = some (some (.ref f24))) (l24 : K.lookup f24 = some ⟨oc24, od24, .func (PySem.W.fnOf "_law_free_reads" "_law_free_reads" (defArgs s_law_free_reads) (defBody s_law_free_reads) (defScope s_law_free_reads) .none kV24 dc24 pm24 an24 cd24 ct24), sl24⟩) (c24 : PySem.W.codeIn K cd24 "_law_free_reads" = true) (k24 : PySem.W.keepIn K (.ref f24) = true)
    (a25 : PySem.W.nsIn K mainGlobals "_law_starts" = some (some (.ref f25))) (l25 : K.lookup f25 = some ⟨oc25, od25, .func (PySem.W.fnOf "_law_starts" "_law_starts" (defArgs s_law_starts) (defBody s_law_starts) (defScope s_law_starts) .none kV25 dc25 pm25 an25 cd25 ct25), sl25⟩) (c25 : PySem.W.codeIn K cd25 "_law_starts" = true) (k25 : PySem.W.keepIn K (.ref f25) = true)
    (a26 : PySem.W.nsIn K mainGlobals "_law_binomial" = some (some (.ref f26))) (l26 : K.lookup f26 = some ⟨oc26, od26, .func (PySem.W.fnOf "_law_binomial" "_law_binomial" (defArgs s_law_binomial) (defBody s_law_binomial) (defScope s_law_binomial) .none kV26 dc26 pm26 an26 cd26 ct26), sl26⟩) (c26 : PySem.W.codeIn K cd26 "_law_binomial" = true) (k26 : PySem.W.keepIn K (.ref f26) = true)
    (a27 : PySem.W.nsIn K mainGlobals "_law_ternary" = some (some (.ref f27))) (l27 : K.lookup f27 = some ⟨oc27, od27, .func (PySem.W.fnOf "_law_ternary" "_law_ternary" (defArgs s_law_ternary) (defBody s_law_ternary) (defScope s_law_ternary) .none kV27 dc27 pm27 an27 cd27 ct27), sl27⟩) (c27 : PySem.W.codeIn K cd27 "_law_ternary" = true) (k27 : PySem.W.keepIn K (.ref f27) = true)
    (a28 : PySem.W.nsIn K mainGlobals "_law_twofold" = some (some (.ref f28))) (l28 : K.lookup f28 = some ⟨oc28, od28, .func (PySem.W.fnOf "_law_twofold" "_law_twofold" (defArgs s_law_twofold) (defBody s_law_twofold) (defScope s_law_twofold) .none kV28 dc28 pm28 an28 cd28 ct28), sl28⟩) (c28 : PySem.W.codeIn K cd28 "_law_twofold" = true) (k28 : PySem.W.keepIn K (.ref f28) = true)
    (a29 : PySem.W.nsIn K mainGlobals "_law_guided" = some (some (.ref f29))) (l29 : K.lookup f29 = some ⟨oc29, od29, .func (PySem.W.fnOf "_law_guided" "_law_guided" (defArgs s_law_guided) (defBody s_law_guided) (defScope s_law_guided) .none kV29 dc29 pm29 an29 cd29 ct29), sl29⟩) (c29 : PySem.W.codeIn K cd29 "_law_guided" = true) (k29 : PySem.W.keepIn K (.ref f29) = true)
    (a30 : PySem.W.nsIn K mainGlobals "_law_turnabout" = some (some (.ref f30))) (l30 : K.lookup f30 = some ⟨oc30, od30, .func (PySem.W.fnOf "_law_turnabout" "_law_turnabout" (defArgs s_law_turnabout) (defBody s_law_turnabout) (defScope s_law_turnabout) .none kV30 dc30 pm30 an30 cd30 ct30), sl30⟩) (c30 : PySem.W.codeIn K cd30 "_law_turnabout" = true) (k30 : PySem.W.keepIn K (.ref f30) = true)
    (a31 : PySem.W.nsIn K mainGlobals "_law_threesome" = some (some (.ref f31))) (l31 : K.lookup f31 = some ⟨oc31, od31, .func (PySem.W.fnOf "_law_threesome" "_law_threesome" (defArgs s_law_threesome) (defBody s_law_threesome) (defScope s_law_threesome) .none kV31 dc31 pm31 an31 cd31 ct31), sl31⟩) (c31 : PySem.W.codeIn K cd31 "_law_threesome" = true) (k31 : PySem.W.keepIn K (.ref f31) = true)
    (a32 : PySem.W.nsIn K mainGlobals "_law_sizes" = some (some (.ref f32))) (l32 : K.lookup f32 = some ⟨oc32, od32, .func (PySem.W.fnOf "_law_sizes" "_law_sizes" (defArgs s_law_sizes) (defBody s_law_sizes) (defScope s_law_sizes) .none kV32 dc32 pm32 an32 cd32 ct32), sl32⟩) (c32 : PySem.W.codeIn K cd32 "_law_sizes" = true) (k32 : PySem.W.keepIn K (.ref f32) = true)
    (a33 : PySem.W.nsIn K mainGlobals "_law_without" = some (some (.ref f33))) (l33 : K.lookup f33 = some ⟨oc33, od33, .func (PySem.W.fnOf "_law_without" "_law_without" (defArgs s_law_without) (defBody s_law_without) (defScope s_law_without) .none kV33 dc33 pm33 an33 cd33 ct33), sl33⟩) (c33 : PySem.W.codeIn K cd33 "_law_without" = true) (k33 : PySem.W.keepIn K (.ref f33) = true)
    (a34 : PySem.W.nsIn K mainGlobals "_law_step" = some (some (.ref f34))) (l34 : K.lookup f34 = some ⟨oc34, od34, .func (PySem.W.fnOf "_law_step" "_law_step" (defArgs s_law_step) (defBody s_law_step) (defScope s_law_step) .none kV34 dc34 pm34 an34 cd34 ct34), sl34⟩) (c34 : PySem.W.codeIn K cd34 "_law_step" = true) (k34 : PySem.W.keepIn K (.ref f34) = true)
    (a35 : PySem.W.nsIn K mainGlobals "_law_cut" = some (some (.ref f35))) (l35 : K.lookup f35 = some ⟨oc35, od35, .func (PySem.W.fnOf "_law_cut" "_law_cut" (defArgs s_law_cut) (defBody s_law_cut) (defScope s_law_cut) .none kV35 dc35 pm35 an35 cd35 ct35), sl35⟩) (c35 : PySem.W.codeIn K cd35 "_law_cut" = true) (k35 : PySem.W.keepIn K (.ref f35) = true)
    (a36 : PySem.W.nsIn K mainGlobals "_law_run" = some (some (.ref f36))) (l36 : K.lookup f36 = some ⟨oc36, od36, .func (PySem.W.fnOf "_law_run" "_law_run" (defArgs s_law_run) (defBody s_law_run) (defScope s_law_run) .none kV36 dc36 pm36 an36 cd36 ct36), sl36⟩) (c36 : PySem.W.codeIn K cd36 "_law_run" = true) (k36 : PySem.W.keepIn K (.ref f36) = true)
    (a37 : PySem.W.nsIn K mainGlobals "_law_changed" = some (some (.ref f37))) (l37 : K.lookup f37 = some ⟨oc37, od37, .func (PySem.W.fnOf "_law_changed" "_law_changed" (defArgs s_law_changed) (defBody s_law_changed) (defScope s_law_changed) .none kV37 dc37 pm37 an37 cd37 ct37), sl37⟩) (c37 : PySem.W.codeIn K cd37 "_law_changed" = true) (k37 : PySem.W.keepIn K (.ref f37) = true)
    (a38 : PySem.W.nsIn K mainGlobals "_law_written_book" = some (some (.ref f38))) (l38 : K.lookup f38 = some ⟨oc38, od38, .func (PySem.W.fnOf "_law_written_book" "_law_written_book" (defArgs s_law_written_book) (defBody s_law_written_book) (defScope s_law_written_book) .none kV38 dc38 pm38 an38 cd38 ct38), sl38⟩) (c38 : PySem.W.codeIn K cd38 "_law_written_book" = true) (k38 : PySem.W.keepIn K (.ref f38) = true)
    (a39 : PySem.W.nsIn K mainGlobals "_law_drawn_lines" = some (some (.ref f39))) (l39 : K.lookup f39 = some ⟨oc39, od39, .func (PySem.W.fnOf "_law_drawn_lines" "_law_drawn_lines" (defArgs s_law_drawn_lines) (defBody s_law_drawn_lines) (defScope s_law_drawn_lines) .none kV39 dc39 pm39 an39 cd39 ct39), sl39⟩) (c39 : PySem.W.codeIn K cd39 "_law_drawn_lines" = true) (k39 : PySem.W.keepIn K (.ref f39) = true)
    (a40 : PySem.W.nsIn K mainGlobals "_law_other_book" = some (some (.ref f40))) (l40 : K.lookup f40 = some ⟨oc40, od40, .func (PySem.W.fnOf "_law_other_book" "_law_other_book" (defArgs s_law_other_book) (defBody s_law_other_book) (defScope s_law_other_book) .none kV40 dc40 pm40 an40 cd40 ct40), sl40⟩) (c40 : PySem.W.codeIn K cd40 "_law_other_book" = true) (k40 : PySem.W.keepIn K (.ref f40) = true)
    (a41 : PySem.W.nsIn K mainGlobals "_law_made_machine" = some (some (.ref f41))) (l41 : K.lookup f41 = some ⟨oc41, od41, .func (PySem.W.fnOf "_law_made_machine" "_law_made_machine" (defArgs s_law_made_machine) (defBody s_law_made_machine) (defScope s_law_made_machine) .none kV41 dc41 pm41 an41 cd41 ct41), sl41⟩) (c41 : PySem.W.codeIn K cd41 "_law_made_machine" = true) (k41 : PySem.W.keepIn K (.ref f41) = true)
    (a42 : PySem.W.nsIn K mainGlobals "_law_drawn_digits" = some (some (.ref f42))) (l42 : K.lookup f42 = some ⟨oc42, od42, .func (PySem.W.fnOf "_law_drawn_digits" "_law_drawn_digits" (defArgs s_law_drawn_digits) (defBody s_law_drawn_digits) (defScope s_law_drawn_digits) .none kV42 dc42 pm42 an42 cd42 ct42), sl42⟩) (c42 : PySem.W.codeIn K cd42 "_law_drawn_digits" = true) (k42 : PySem.W.keepIn K (.ref f42) = true)
    (a43 : PySem.W.nsIn K mainGlobals "_law_keys_in" = some (some (.ref f43))) (l43 : K.lookup f43 = some ⟨oc43, od43, .func (PySem.W.fnOf "_law_keys_in" "_law_keys_in" (defArgs s_law_keys_in) (defBody s_law_keys_in) (defScope s_law_keys_in) .none kV43 dc43 pm43 an43 cd43 ct43), sl43⟩) (c43 : PySem.W.codeIn K cd43 "_law_keys_in" = true) (k43 : PySem.W.keepIn K (.ref f43) = true)
    (a44 : PySem.W.nsIn K mainGlobals "_law_in_parts" = some (some (.ref f44))) (l44 : K.lookup f44 = some ⟨oc44, od44, .func (PySem.W.fnOf "_law_in_parts" "_law_in_parts" (defArgs s_law_in_parts) (defBody s_law_in_parts) (defScope s_law_in_parts) .none kV44 dc44 pm44 an44 cd44 ct44), sl44⟩) (c44 : PySem.W.codeIn K cd44 "_law_in_parts" = true) (k44 : PySem.W.keepIn K (.ref f44) = true)
    (a45 : PySem.W.nsIn K mainGlobals "_law_trees" = some (some (.ref f45))) (l45 : K.lookup f45 = some ⟨oc45, od45, .func (PySem.W.fnOf "_law_trees" "_law_trees" (defArgs s_law_trees) (defBody s_law_trees) (defScope s_law_trees) .none kV45 dc45 pm45 an45 cd45 ct45), sl45⟩) (c45 : PySem.W.codeIn K cd45 "_law_trees" = true) (k45 : PySem.W.keepIn K (.ref f45) = true)
    (a46 : PySem.W.nsIn K mainGlobals "_law_right" = some (some (.ref f46))) (l46 : K.lookup f46 = some ⟨oc46, od46, .func (PySem.W.fnOf "_law_right" "_law_right" (defArgs s_law_right) (defBody s_law_right) (defScope s_law_right) .none kV46 dc46 pm46 an46 cd46 ct46), sl46⟩) (c46 : PySem.W.codeIn K cd46 "_law_right" = true) (k46 : PySem.W.keepIn K (.ref f46) = true)
    (a47 : PySem.W.nsIn K mainGlobals "law" = some (some (.ref f47))) (l47 : K.lookup f47 = some ⟨oc47, od47, .func (PySem.W.fnOf "law" "law" (defArgs s_law) (defBody s_law) (defScope s_law) .none kV47 dc47 pm47 an47 cd47 ct47), sl47⟩) (c47 : PySem.W.codeIn K cd47 "law" = true) (k47 : PySem.W.keepIn K (.ref f47) = true)
    (goKinds : PySem.W.nsIn K mainGlobals "Kinds" = some (some (.ref CoKinds)))
    (pgoKinds : PySem.W.plainGet K CoKinds Str.empty = true)
    (hdoKinds : PySem.W.hasDictIn K CoKinds = true)
    (pooKinds : PySem.W.plainOver K CoKinds = true)
    (saoKinds : PySem.W.findIn K (.ref CoKinds) "__setattr__" = some (some (.builtin "object.__setattr__")))
    (mkoKinds : PySem.W.makesIn K CoKinds = true)
    (kcoKinds : PySem.W.keepIn K (.ref CoKinds) = true)
    (neoKinds : PySem.W.findIn K (.ref CoKinds) "__ne__" = some (some (.builtin "object.__ne__")))
    (oboKinds : PySem.W.mroIn K CoKinds (.type "object") = some true)
    (kioKinds : PySem.W.kitOne K (.ref CoKinds) (.ref CoKinds) = some true)
    (ktoKinds : PySem.W.kitOne K (.type "tuple") (.ref CoKinds) = some false)
    (kdoKinds : PySem.W.kitOne K (.type "dict") (.ref CoKinds) = some false)
    (caoKinds : PySem.W.findIn K (.ref CoKinds) "__class__" = some (some (.builtin "object.__class__")))
    (cgoKinds : PySem.W.specialIn K (.builtin "object.__class__") "__get__" = some (some (.builtin "getset_descriptor.__get__")))
    (ctoKinds : PySem.W.takesIn K (.builtin "object.__class__") = some true)
    (n_leafoKinds : PySem.W.findIn K (.ref CoKinds) "_leaf" = some none)
    (n_makingsoKinds : PySem.W.findIn K (.ref CoKinds) "_makings" = some none)
    (n_namesoKinds : PySem.W.findIn K (.ref CoKinds) "_names" = some none)
    (atM0Kinds : PySem.W.findIn K (.ref CoKinds) "__init__" = some (some (.ref fM0Kinds)))
    (ifM0Kinds : PySem.W.isFn K (.ref fM0Kinds) = true)
    (lM0Kinds : K.lookup fM0Kinds = some ⟨ocM0Kinds, odM0Kinds, .func (PySem.W.fnOf "__init__" "Kinds.__init__" (defArgs s_Kinds_init) (defBody s_Kinds_init) (defScope s_Kinds_init) .none kVM0Kinds dcM0Kinds pmM0Kinds anM0Kinds cdM0Kinds ctM0Kinds), slM0Kinds⟩)
    (cM0Kinds : PySem.W.codeIn K cdM0Kinds "Kinds.__init__" = true)
    (kM0Kinds : PySem.W.keepIn K (.ref fM0Kinds) = true)
    (atM9Kinds : PySem.W.findIn K (.ref CoKinds) "__contains__" = some (some (.ref fM9Kinds)))
    (ifM9Kinds : PySem.W.isFn K (.ref fM9Kinds) = true)
    (lM9Kinds : K.lookup fM9Kinds = some ⟨ocM9Kinds, odM9Kinds, .func (PySem.W.fnOf "__contains__" "Kinds.__contains__" (defArgs s_Kinds_contains) (defBody s_Kinds_contains) (defScope s_Kinds_contains) .none kVM9Kinds dcM9Kinds pmM9Kinds anM9Kinds cdM9Kinds ctM9Kinds), slM9Kinds⟩)
    (cM9Kinds : PySem.W.codeIn K cdM9Kinds "Kinds.__contains__" = true)
    (kM9Kinds : PySem.W.keepIn K (.ref fM9Kinds) = true)
    (atM10Kinds : PySem.W.findIn K (.ref CoKinds) "__getitem__" = some (some (.ref fM10Kinds)))
    (ifM10Kinds : PySem.W.isFn K (.ref fM10Kinds) = true)
    (lM10Kinds : K.lookup fM10Kinds = some ⟨ocM10Kinds, odM10Kinds, .func (PySem.W.fnOf "__getitem__" "Kinds.__getitem__" (defArgs s_Kinds_getitem) (defBody s_Kinds_getitem) (defScope s_Kinds_getitem) .none kVM10Kinds dcM10Kinds pmM10Kinds anM10Kinds cdM10Kinds ctM10Kinds), slM10Kinds⟩)
    (cM10Kinds : PySem.W.codeIn K cdM10Kinds "Kinds.__getitem__" = true)
    (kM10Kinds : PySem.W.keepIn K (.ref fM10Kinds) = true)
    (goPage : PySem.W.nsIn K mainGlobals "Page" = some (some (.ref CoPage)))
    (pgoPage : PySem.W.plainGet K CoPage Str.empty = true)
    (hdoPage : PySem.W.hasDictIn K CoPage = true)
    (pooPage : PySem.W.plainOver K CoPage = true)
    (saoPage : PySem.W.findIn K (.ref CoPage) "__setattr__" = some (some (.builtin "object.__setattr__")))
    (mkoPage : PySem.W.makesIn K CoPage = true)
    (kcoPage : PySem.W.keepIn K (.ref CoPage) = true)
    (neoPage : PySem.W.findIn K (.ref CoPage) "__ne__" = some (some (.builtin "object.__ne__")))
    (oboPage : PySem.W.mroIn K CoPage (.type "object") = some true)
    (kioPage : PySem.W.kitOne K (.ref CoPage) (.ref CoPage) = some true)
    (ktoPage : PySem.W.kitOne K (.type "tuple") (.ref CoPage) = some false)
    (kdoPage : PySem.W.kitOne K (.type "dict") (.ref CoPage) = some false)
    (caoPage : PySem.W.findIn K (.ref CoPage) "__class__" = some (some (.builtin "object.__class__")))
    (cgoPage : PySem.W.specialIn K (.builtin "object.__class__") "__get__" = some (some (.builtin "getset_descriptor.__get__")))
    (ctoPage : PySem.W.takesIn K (.builtin "object.__class__") = some true)
    (n_noteoPage : PySem.W.findIn K (.ref CoPage) "_note" = some none)
    (n_pooloPage : PySem.W.findIn K (.ref CoPage) "_pool" = some none)
    (n_madeoPage : PySem.W.findIn K (.ref CoPage) "_made" = some none)
    (n_afteroPage : PySem.W.findIn K (.ref CoPage) "_after" = some none)
    (atM0Page : PySem.W.findIn K (.ref CoPage) "__init__" = some (some (.ref fM0Page)))
    (ifM0Page : PySem.W.isFn K (.ref fM0Page) = true)
    (lM0Page : K.lookup fM0Page = some ⟨ocM0Page, odM0Page, .func (PySem.W.fnOf "__init__" "Page.__init__" (defArgs s_Page_init) (defBody s_Page_init) (defScope s_Page_init) .none kVM0Page dcM0Page pmM0Page anM0Page cdM0Page ctM0Page), slM0Page⟩)
    (cM0Page : PySem.W.codeIn K cdM0Page "Page.__init__" = true)
    (kM0Page : PySem.W.keepIn K (.ref fM0Page) = true)
    (atM4Page : PySem.W.findIn K (.ref CoPage) "made" = some (some (.ref qM4Page)))
    (geM4Page : PySem.W.specialIn K (.ref qM4Page) "__get__" = some (some (.builtin "property.__get__")))
    (taM4Page : PySem.W.takesIn K (.ref qM4Page) = some true)
    (reM4Page : PySem.W.recIn K qM4Page "property" = some (.ref fM4Page :: rsM4Page))
    (lM4Page : K.lookup fM4Page = some ⟨ocM4Page, odM4Page, .func (PySem.W.fnOf "made" "Page.made" (defArgs s_Page_made) (defBody s_Page_made) (defScope s_Page_made) .none kVM4Page dcM4Page pmM4Page anM4Page cdM4Page ctM4Page), slM4Page⟩)
    (cM4Page : PySem.W.codeIn K cdM4Page "Page.made" = true)
    (kM4Page : PySem.W.keepIn K (.ref fM4Page) = true)
    (atM5Page : PySem.W.findIn K (.ref CoPage) "after" = some (some (.ref qM5Page)))
    (geM5Page : PySem.W.specialIn K (.ref qM5Page) "__get__" = some (some (.builtin "property.__get__")))
    (taM5Page : PySem.W.takesIn K (.ref qM5Page) = some true)
    (reM5Page : PySem.W.recIn K qM5Page "property" = some (.ref fM5Page :: rsM5Page))
    (lM5Page : K.lookup fM5Page = some ⟨ocM5Page, odM5Page, .func (PySem.W.fnOf "after" "Page.after" (defArgs s_Page_after) (defBody s_Page_after) (defScope s_Page_after) .none kVM5Page dcM5Page pmM5Page anM5Page cdM5Page ctM5Page), slM5Page⟩)
    (cM5Page : PySem.W.codeIn K cdM5Page "Page.after" = true)
    (kM5Page : PySem.W.keepIn K (.ref fM5Page) = true)
    (atM6Page : PySem.W.findIn K (.ref CoPage) "line" = some (some (.ref qM6Page)))
    (geM6Page : PySem.W.specialIn K (.ref qM6Page) "__get__" = some (some (.builtin "property.__get__")))
    (taM6Page : PySem.W.takesIn K (.ref qM6Page) = some true)
    (reM6Page : PySem.W.recIn K qM6Page "property" = some (.ref fM6Page :: rsM6Page))
    (lM6Page : K.lookup fM6Page = some ⟨ocM6Page, odM6Page, .func (PySem.W.fnOf "line" "Page.line" (defArgs s_Page_line) (defBody s_Page_line) (defScope s_Page_line) .none kVM6Page dcM6Page pmM6Page anM6Page cdM6Page ctM6Page), slM6Page⟩)
    (cM6Page : PySem.W.codeIn K cdM6Page "Page.line" = true)
    (kM6Page : PySem.W.keepIn K (.ref fM6Page) = true)
    (atM7Page : PySem.W.findIn K (.ref CoPage) "place" = some (some (.ref qM7Page)))
    (geM7Page : PySem.W.specialIn K (.ref qM7Page) "__get__" = some (some (.builtin "property.__get__")))
    (taM7Page : PySem.W.takesIn K (.ref qM7Page) = some true)
    (reM7Page : PySem.W.recIn K qM7Page "property" = some (.ref fM7Page :: rsM7Page))
    (lM7Page : K.lookup fM7Page = some ⟨ocM7Page, odM7Page, .func (PySem.W.fnOf "place" "Page.place" (defArgs s_Page_place) (defBody s_Page_place) (defScope s_Page_place) .none kVM7Page dcM7Page pmM7Page anM7Page cdM7Page ctM7Page), slM7Page⟩)
    (cM7Page : PySem.W.codeIn K cdM7Page "Page.place" = true)
    (kM7Page : PySem.W.keepIn K (.ref fM7Page) = true)
    (atM8Page : PySem.W.findIn K (.ref CoPage) "left" = some (some (.ref fM8Page)))
    (ifM8Page : PySem.W.isFn K (.ref fM8Page) = true)
    (lM8Page : K.lookup fM8Page = some ⟨ocM8Page, odM8Page, .func (PySem.W.fnOf "left" "Page.left" (defArgs s_Page_left) (defBody s_Page_left) (defScope s_Page_left) .none kVM8Page dcM8Page pmM8Page anM8Page cdM8Page ctM8Page), slM8Page⟩)
    (cM8Page : PySem.W.codeIn K cdM8Page "Page.left" = true)
    (kM8Page : PySem.W.keepIn K (.ref fM8Page) = true)
    (goMachine : PySem.W.nsIn K mainGlobals "Machine" = some (some (.ref CoMachine)))
    (pgoMachine : PySem.W.plainGet K CoMachine Str.empty = true)
    (hdoMachine : PySem.W.hasDictIn K CoMachine = true)
    (pooMachine : PySem.W.plainOver K CoMachine = true)
    (saoMachine : PySem.W.findIn K (.ref CoMachine) "__setattr__" = some (some (.builtin "object.__setattr__")))
    (mkoMachine : PySem.W.makesIn K CoMachine = true)
    (kcoMachine : PySem.W.keepIn K (.ref CoMachine) = true)
    (neoMachine : PySem.W.findIn K (.ref CoMachine) "__ne__" = some (some (.builtin "object.__ne__")))
    (oboMachine : PySem.W.mroIn K CoMachine (.type "object") = some true)
    (kioMachine : PySem.W.kitOne K (.ref CoMachine) (.ref CoMachine) = some true)
    (ktoMachine : PySem.W.kitOne K (.type "tuple") (.ref CoMachine) = some false)
    (kdoMachine : PySem.W.kitOne K (.type "dict") (.ref CoMachine) = some false)
    (caoMachine : PySem.W.findIn K (.ref CoMachine) "__class__" = some (some (.builtin "object.__class__")))
    (cgoMachine : PySem.W.specialIn K (.builtin "object.__class__") "__get__" = some (some (.builtin "getset_descriptor.__get__")))
    (ctoMachine : PySem.W.takesIn K (.builtin "object.__class__") = some true)
    (n_kindsoMachine : PySem.W.findIn K (.ref CoMachine) "_kinds" = some none)
    (n_leftoMachine : PySem.W.findIn K (.ref CoMachine) "_left" = some none)
    (n_pagesoMachine : PySem.W.findIn K (.ref CoMachine) "_pages" = some none)
    (atM0Machine : PySem.W.findIn K (.ref CoMachine) "__init__" = some (some (.ref fM0Machine)))
    (ifM0Machine : PySem.W.isFn K (.ref fM0Machine) = true)
    (lM0Machine : K.lookup fM0Machine = some ⟨ocM0Machine, odM0Machine, .func (PySem.W.fnOf "__init__" "Machine.__init__" (defArgs s_Machine_init) (defBody s_Machine_init) (defScope s_Machine_init) .none kVM0Machine dcM0Machine pmM0Machine anM0Machine cdM0Machine ctM0Machine), slM0Machine⟩)
    (cM0Machine : PySem.W.codeIn K cdM0Machine "Machine.__init__" = true)
    (kM0Machine : PySem.W.keepIn K (.ref fM0Machine) = true)
    (atM1Machine : PySem.W.findIn K (.ref CoMachine) "kinds" = some (some (.ref qM1Machine)))
    (geM1Machine : PySem.W.specialIn K (.ref qM1Machine) "__get__" = some (some (.builtin "property.__get__")))
    (taM1Machine : PySem.W.takesIn K (.ref qM1Machine) = some true)
    (reM1Machine : PySem.W.recIn K qM1Machine "property" = some (.ref fM1Machine :: rsM1Machine))
    (lM1Machine : K.lookup fM1Machine = some ⟨ocM1Machine, odM1Machine, .func (PySem.W.fnOf "kinds" "Machine.kinds" (defArgs s_Machine_kinds) (defBody s_Machine_kinds) (defScope s_Machine_kinds) .none kVM1Machine dcM1Machine pmM1Machine anM1Machine cdM1Machine ctM1Machine), slM1Machine⟩)
    (cM1Machine : PySem.W.codeIn K cdM1Machine "Machine.kinds" = true)
    (kM1Machine : PySem.W.keepIn K (.ref fM1Machine) = true)
    (atM4Machine : PySem.W.findIn K (.ref CoMachine) "_is_pool" = some (some (.ref fM4Machine)))
    (ifM4Machine : PySem.W.isFn K (.ref fM4Machine) = true)
    (lM4Machine : K.lookup fM4Machine = some ⟨ocM4Machine, odM4Machine, .func (PySem.W.fnOf "_is_pool" "Machine._is_pool" (defArgs s_Machine_is_pool) (defBody s_Machine_is_pool) (defScope s_Machine_is_pool) .none kVM4Machine dcM4Machine pmM4Machine anM4Machine cdM4Machine ctM4Machine), slM4Machine⟩)
    (cM4Machine : PySem.W.codeIn K cdM4Machine "Machine._is_pool" = true)
    (kM4Machine : PySem.W.keepIn K (.ref fM4Machine) = true)
    (atM5Machine : PySem.W.findIn K (.ref CoMachine) "_at_rank" = some (some (.ref fM5Machine)))
    (ifM5Machine : PySem.W.isFn K (.ref fM5Machine) = true)
    (lM5Machine : K.lookup fM5Machine = some ⟨ocM5Machine, odM5Machine, .func (PySem.W.fnOf "_at_rank" "Machine._at_rank" (defArgs s_Machine_at_rank) (defBody s_Machine_at_rank) (defScope s_Machine_at_rank) .none kVM5Machine dcM5Machine pmM5Machine anM5Machine cdM5Machine ctM5Machine), slM5Machine⟩)
    (cM5Machine : PySem.W.codeIn K cdM5Machine "Machine._at_rank" = true)
    (kM5Machine : PySem.W.keepIn K (.ref fM5Machine) = true)
    (atM6Machine : PySem.W.findIn K (.ref CoMachine) "step" = some (some (.ref fM6Machine)))
    (ifM6Machine : PySem.W.isFn K (.ref fM6Machine) = true)
    (lM6Machine : K.lookup fM6Machine = some ⟨ocM6Machine, odM6Machine, .func (PySem.W.fnOf "step" "Machine.step" (defArgs s_Machine_step) (defBody s_Machine_step) (defScope s_Machine_step) .none kVM6Machine dcM6Machine pmM6Machine anM6Machine cdM6Machine ctM6Machine), slM6Machine⟩)
    (cM6Machine : PySem.W.codeIn K cdM6Machine "Machine.step" = true)
    (kM6Machine : PySem.W.keepIn K (.ref fM6Machine) = true)
    (atM7Machine : PySem.W.findIn K (.ref CoMachine) "run" = some (some (.ref fM7Machine)))
    (ifM7Machine : PySem.W.isFn K (.ref fM7Machine) = true)
    (lM7Machine : K.lookup fM7Machine = some ⟨ocM7Machine, odM7Machine, .func (PySem.W.fnOf "run" "Machine.run" (defArgs s_Machine_run) (defBody s_Machine_run) (defScope s_Machine_run) .none (.ref DM7Machine) dcM7Machine pmM7Machine anM7Machine cdM7Machine ctM7Machine), slM7Machine⟩)
    (cM7Machine : PySem.W.codeIn K cdM7Machine "Machine.run" = true)
    (kM7Machine : PySem.W.keepIn K (.ref fM7Machine) = true)
    (kdM7Machine : PySem.W.nsIn K DM7Machine "carried" = some (some (.ref TM7Machine)))
    (ktM7Machine : K.lookup TM7Machine = some ⟨.type "tuple", odTM7Machine, .seq #[] nTM7Machine, slTM7Machine⟩)
    (m0 : PySem.W.nsIn K mainGlobals "MAX_LETTERS" = some (some (.int 8 t0)))
    (m1 : PySem.W.nsIn K mainGlobals "_TOO_LONG" = some (some (.int 1000000000000000000000000000000000000000000000000000000000000 t1)))
    (m2 : PySem.W.nsIn K mainGlobals "MAX_KINDS" = some (some (.int 6 t2)))
    (m3 : PySem.W.nsIn K mainGlobals "MAX_PARTS" = some (some (.int 3 t3)))
    (m4 : PySem.W.nsIn K mainGlobals "LOOSE_DIGIT" = some (some (.int 20 t4)))
    (m5 : PySem.W.nsIn K mainGlobals "_LOOSE_RANKS" = some (some (.int 402 t5)))
    (m6 : PySem.W.nsIn K mainGlobals "MAX_POOL" = some (some (.int 8 t6)))
    (m7 : PySem.W.nsIn K mainGlobals "MAX_MADE" = some (some (.int 2 t7)))
    (m8 : PySem.W.nsIn K mainGlobals "_MAX_PAGES" = some (some (.int 80 t8)))
    (z0 : PySem.W.nsIn K mainGlobals "IndexError" = some none)
    (z1 : PySem.W.nsIn K mainGlobals "KeyError" = some none)
    (z2 : PySem.W.nsIn K mainGlobals "OverflowError" = some none)
    (z3 : PySem.W.nsIn K mainGlobals "TypeError" = some none)
    (z4 : PySem.W.nsIn K mainGlobals "ValueError" = some none)
    (z5 : PySem.W.nsIn K mainGlobals "abs" = some none)
    (z6 : PySem.W.nsIn K mainGlobals "all" = some none)
    (z7 : PySem.W.nsIn K mainGlobals "bool" = some none)
    (z8 : PySem.W.nsIn K mainGlobals "classmethod" = some none)
    (z9 : PySem.W.nsIn K mainGlobals "dict" = some none)
    (z10 : PySem.W.nsIn K mainGlobals "enumerate" = some none)
    (z11 : PySem.W.nsIn K mainGlobals "int" = some none)
    (z12 : PySem.W.nsIn K mainGlobals "isinstance" = some none)
    (z13 : PySem.W.nsIn K mainGlobals "len" = some none)
    (z14 : PySem.W.nsIn K mainGlobals "list" = some none)
    (z15 : PySem.W.nsIn K mainGlobals "max" = some none)
    (z16 : PySem.W.nsIn K mainGlobals "min" = some none)
    (z17 : PySem.W.nsIn K mainGlobals "property" = some none)
    (z18 : PySem.W.nsIn K mainGlobals "range" = some none)
    (z19 : PySem.W.nsIn K mainGlobals "repr" = some none)
    (z20 : PySem.W.nsIn K mainGlobals "set" = some none)
    (z21 : PySem.W.nsIn K mainGlobals "sorted" = some none)
    (z22 : PySem.W.nsIn K mainGlobals "str" = some none)
    (z23 : PySem.W.nsIn K mainGlobals "sum" = some none)
    (z24 : PySem.W.nsIn K mainGlobals "tuple" = some none)
    (tc0 : cdM0Machine = .ref cT0) (tl0 : K.lookup cT0 = some ⟨ucT0, odT0, .fields vsT0, slT0⟩) (tp0 : vsT0[11]? = some (.ref PT0)) (tn0 : K.lookup PT0 = none) (th0 : PySem.W.codeHdIn K cT0 PT0 = true) (tm0 : PT0 ∈ ts)
    (tdd : ([PT0] : List Addr).Nodup) :
    ∃ (fd : FuncData) (cs : List (Addr × Addr)) (sp : Sp), (∀ c ∈ cs, (PySem.W.codeHdIn K c.1 c.2 = true ∧ c.2 ∈ ts) ∧ K.lookup c.2 = none) ∧ (∀ (s : Shared) (u : Value), BindsTo s fd ⟨[u], []⟩ [("_law_script", u)]) ∧ (∀ (H : Hp) (a : Addr) (ns : List Int), ns.length ≤ 63 → (∀ c ∈ cs, H c.2 = some (.tbl #[])) → SqL K H a (ns.map V.int) → sp [.ref a] H (fun v _ => v = .bl true) fun _ _ _ => False) ∧ ∀ base : Heap, K.In base → base.Ns mainGlobals mg → (∀ c ∈ cs, LamX.TabB base mg c.1 c.2) → FnG l.prog w K mg base CX0 40 fa fd ["_law_script"] sp := by
  have e := hfa.symm.trans (PySem.W.mg_of X G a47)
  cases e
  have T : Top K mg := {
    p_InvalidOperation := ⟨Cy0, ⟨PySem.W.mg_of X G gy0, ⟨_, _, _, _, _, _, _, _, _, _, _, _, _, _, _, _, hy0, ty0⟩, iy0, ky0⟩, xclsB_ok zy0, exm_own by0 xy0 wy0 ry0⟩
    d_wall := ⟨_, _, fun_mk l0 c0 k0, (fun_mk (st := s_wall) l0 c0 k0).binds (ps := ["k"]) fun _ _ _ _ _ _ us hl => match us, hl with | [_], _ => rfl, PySem.W.mg_of X G a0⟩
    d_is_integer := ⟨_, _, fun_mk l1 c1 k1, (fun_mk (st := s_is_integer) l1 c1 k1).binds (ps := ["value"]) fun _ _ _ _ _ _ us hl => match us, hl with | [_], _ => rfl, PySem.W.mg_of X G a1⟩
    d_is_count := ⟨_, _, fun_mk l2 c2 k2, (fun_mk (st := s_is_count) l2 c2 k2).binds (ps := ["value"]) fun _ _ _ _ _ _ us hl => match us, hl with | [_], _ => rfl, PySem.W.mg_of X G a2⟩
    d_is_name := ⟨_, _, fun_mk l3 c3 k3, (fun_mk (st := s_is_name) l3 c3 k3).binds (ps := ["value"]) fun _ _ _ _ _ _ us hl => match us, hl with | [_], _ => rfl, PySem.W.mg_of X G a3⟩
    d_is_sorted := ⟨_, _, fun_mk l4 c4 k4, kbn_of fun us ws h1 h2 => match us, ws, h1, h2 with | [_], [_], _, _ => by first | rfl | with_unfolding_all rfl, PySem.W.mg_of X G a4⟩
    d_text_of := ⟨_, _, fun_mk l5 c5 k5, (fun_mk (st := s_text_of) l5 c5 k5).binds (ps := ["names"]) fun _ _ _ _ _ _ us hl => match us, hl with | [_], _ => rfl, PySem.W.mg_of X G a5⟩
    d_is_making := ⟨_, _, fun_mk l6 c6 k6, (fun_mk (st := s_is_making) l6 c6 k6).binds (ps := ["value"]) fun _ _ _ _ _ _ us hl => match us, hl with | [_], _ => rfl, PySem.W.mg_of X G a6⟩
    d_all_names := ⟨_, _, fun_mk l7 c7 k7, (fun_mk (st := s_all_names) l7 c7 k7).binds (ps := ["leaf", "makings"]) fun _ _ _ _ _ _ us hl => match us, hl with | [_, _], _ => rfl, PySem.W.mg_of X G a7⟩
    d_are_kinds := ⟨_, _, fun_mk l8 c8 k8, (fun_mk (st := s_are_kinds) l8 c8 k8).binds (ps := ["leaf", "makings"]) fun _ _ _ _ _ _ us hl => match us, hl with | [_, _], _ => rfl, PySem.W.mg_of X G a8⟩
    d_are_digits := ⟨_, _, fun_mk l9 c9 k9, (fun_mk (st := s_are_digits) l9 c9 k9).binds (ps := ["value"]) fun _ _ _ _ _ _ us hl => match us, hl with | [_], _ => rfl, PySem.W.mg_of X G a9⟩
    d_are_loose_digits := ⟨_, _, fun_mk l10 c10 k10, (fun_mk (st := s_are_loose_digits) l10 c10 k10).binds (ps := ["value"]) fun _ _ _ _ _ _ us hl => match us, hl with | [_], _ => rfl, PySem.W.mg_of X G a10⟩
    d_digit_at := ⟨_, _, fun_mk l11 c11 k11, (fun_mk (st := s_digit_at) l11 c11 k11).binds (ps := ["digits", "rank"]) fun _ _ _ _ _ _ us hl => match us, hl with | [_, _], _ => rfl, PySem.W.mg_of X G a11⟩
    d_merged := ⟨_, _, fun_mk l12 c12 k12, (fun_mk (st := s_merged) l12 c12 k12).binds (ps := ["one", "other"]) fun _ _ _ _ _ _ us hl => match us, hl with | [_, _], _ => rfl, PySem.W.mg_of X G a12⟩
    d_trimmed := ⟨_, _, fun_mk l13 c13 k13, (fun_mk (st := s_trimmed) l13 c13 k13).binds (ps := ["digits"]) fun _ _ _ _ _ _ us hl => match us, hl with | [_], _ => rfl, PySem.W.mg_of X G a13⟩
    d_is_place := ⟨_, _, fun_mk l14 c14 k14, (fun_mk (st := s_is_place) l14 c14 k14).binds (ps := ["value"]) fun _ _ _ _ _ _ us hl => match us, hl with | [_], _ => rfl, PySem.W.mg_of X G a14⟩
    d_left := ⟨_, _, fun_mk l15 c15 k15, (fun_mk (st := s_left) l15 c15 k15).binds (ps := ["pool", "makings"]) fun _ _ _ _ _ _ us hl => match us, hl with | [_, _], _ => rfl, PySem.W.mg_of X G a15⟩
    d_are_pages := ⟨_, _, fun_mk l16 c16 k16, (fun_mk (st := s_are_pages) l16 c16 k16).binds (ps := ["value"]) fun _ _ _ _ _ _ us hl => match us, hl with | [_], _ => rfl, PySem.W.mg_of X G a16⟩
    d_left_by_place := ⟨_, _, fun_mk l17 c17 k17, (fun_mk (st := s_left_by_place) l17 c17 k17).binds (ps := ["kinds", "pages"]) fun _ _ _ _ _ _ us hl => match us, hl with | [_, _], _ => rfl, PySem.W.mg_of X G a17⟩
    d_law_dice := ⟨_, _, fun_mk l18 c18 k18, (fun_mk (st := s_law_dice) l18 c18 k18).binds (ps := ["_law_script", "_law_spot"]) fun _ _ _ _ _ _ us hl => match us, hl with | [_, _], _ => rfl, PySem.W.mg_of X G a18⟩
    d_law_roll := ⟨_, _, fun_mk l19 c19 k19, (fun_mk (st := s_law_roll) l19 c19 k19).binds (ps := ["_law_dice_here", "_law_total"]) fun _ _ _ _ _ _ us hl => match us, hl with | [_, _], _ => rfl, PySem.W.mg_of X G a19⟩
    d_law_pick := ⟨_, _, fun_mk l20 c20 k20, (fun_mk (st := s_law_pick) l20 c20 k20).binds (ps := ["_law_dice_here", "_law_items"]) fun _ _ _ _ _ _ us hl => match us, hl with | [_, _], _ => rfl, PySem.W.mg_of X G a20⟩
    d_law_digit := ⟨_, _, fun_mk l21 c21 k21, (fun_mk (st := s_law_digit) l21 c21 k21).binds (ps := ["_law_text"]) fun _ _ _ _ _ _ us hl => match us, hl with | [_], _ => rfl, PySem.W.mg_of X G a21⟩
    d_law_plain := ⟨_, _, fun_mk l22 c22 k22, (fun_mk (st := s_law_plain) l22 c22 k22).binds (ps := ["_law_lines"]) fun _ _ _ _ _ _ us hl => match us, hl with | [_], _ => rfl, PySem.W.mg_of X G a22⟩
    d_law_made_kinds := ⟨_, _, fun_mk l23 c23 k23, (fun_mk (st := s_law_made_kinds) l23 c23 k23).binds (ps := ["_law_plain_here"]) fun _ _ _ _ _ _ us hl => match us, hl with | [_], _ => rfl, PySem.W.mg_of X G a23⟩
    d_law_free_reads := ⟨_, _, fun_mk l24 c24 k24, (fun_mk (st := s_law_free_reads) l24 c24 k24).binds (ps := ["_law_digits"]) fun _ _ _ _ _ _ us hl => match us, hl with | [_], _ => rfl, PySem.W.mg_of X G a24⟩
    d_law_starts := ⟨_, _, fun_mk l25 c25 k25, (fun_mk (st := s_law_starts) l25 c25 k25).binds (ps := ["_law_note"]) fun _ _ _ _ _ _ us hl => match us, hl with | [_], _ => rfl, PySem.W.mg_of X G a25⟩
    d_law_binomial := ⟨_, _, fun_mk l26 c26 k26, (fun_mk (st := s_law_binomial) l26 c26 k26).binds (ps := []) fun _ _ _ _ _ _ us hl => match us, hl with | [], _ => rfl, PySem.W.mg_of X G a26⟩
    d_law_ternary := ⟨_, _, fun_mk l27 c27 k27, (fun_mk (st := s_law_ternary) l27 c27 k27).binds (ps := []) fun _ _ _ _ _ _ us hl => match us, hl with | [], _ => rfl, PySem.W.mg_of X G a27⟩
    d_law_twofold := ⟨_, _, fun_mk l28 c28 k28, (fun_mk (st := s_law_twofold) l28 c28 k28).binds (ps := []) fun _ _ _ _ _ _ us hl => match us, hl with | [], _ => rfl, PySem.W.mg_of X G a28⟩
    d_law_guided := ⟨_, _, fun_mk l29 c29 k29, (fun_mk (st := s_law_guided) l29 c29 k29).binds (ps := []) fun _ _ _ _ _ _ us hl => match us, hl with | [], _ => rfl, PySem.W.mg_of X G a29⟩
    d_law_turnabout := ⟨_, _, fun_mk l30 c30 k30, (fun_mk (st := s_law_turnabout) l30 c30 k30).binds (ps := []) fun _ _ _ _ _ _ us hl => match us, hl with | [], _ => rfl, PySem.W.mg_of X G a30⟩
    d_law_threesome := ⟨_, _, fun_mk l31 c31 k31, (fun_mk (st := s_law_threesome) l31 c31 k31).binds (ps := []) fun _ _ _ _ _ _ us hl => match us, hl with | [], _ => rfl, PySem.W.mg_of X G a31⟩
    d_law_sizes := ⟨_, _, fun_mk l32 c32 k32, (fun_mk (st := s_law_sizes) l32 c32 k32).binds (ps := ["_law_plain_here", "_law_bound"]) fun _ _ _ _ _ _ us hl => match us, hl with | [_, _], _ => rfl, PySem.W.mg_of X G a32⟩
    d_law_without := ⟨_, _, fun_mk l33 c33 k33, (fun_mk (st := s_law_without) l33 c33 k33).binds (ps := ["_law_pool", "_law_parts"]) fun _ _ _ _ _ _ us hl => match us, hl with | [_, _], _ => rfl, PySem.W.mg_of X G a33⟩
    d_law_step := ⟨_, _, fun_mk l34 c34 k34, (fun_mk (st := s_law_step) l34 c34 k34).binds (ps := ["_law_plain_here", "_law_note", "_law_pool"]) fun _ _ _ _ _ _ us hl => match us, hl with | [_, _, _], _ => rfl, PySem.W.mg_of X G a34⟩
    d_law_cut := ⟨_, _, fun_mk l35 c35 k35, (fun_mk (st := s_law_cut) l35 c35 k35).binds (ps := ["_law_digits"]) fun _ _ _ _ _ _ us hl => match us, hl with | [_], _ => rfl, PySem.W.mg_of X G a35⟩
    d_law_run := ⟨_, _, fun_mk l36 c36 k36, (fun_mk (st := s_law_run) l36 c36 k36).binds (ps := ["_law_plain_here", "_law_note", "_law_digits", "_law_brought"]) fun _ _ _ _ _ _ us hl => match us, hl with | [_, _, _, _], _ => rfl, PySem.W.mg_of X G a36⟩
    d_law_changed := ⟨_, _, fun_mk l37 c37 k37, (fun_mk (st := s_law_changed) l37 c37 k37).binds (ps := ["_law_dice_here", "_law_lines"]) fun _ _ _ _ _ _ us hl => match us, hl with | [_, _], _ => rfl, PySem.W.mg_of X G a37⟩
    d_law_written_book := ⟨_, _, fun_mk l38 c38 k38, (fun_mk (st := s_law_written_book) l38 c38 k38).binds (ps := ["_law_way"]) fun _ _ _ _ _ _ us hl => match us, hl with | [_], _ => rfl, PySem.W.mg_of X G a38⟩
    d_law_drawn_lines := ⟨_, _, fun_mk l39 c39 k39, (fun_mk (st := s_law_drawn_lines) l39 c39 k39).binds (ps := ["_law_dice_here"]) fun _ _ _ _ _ _ us hl => match us, hl with | [_], _ => rfl, PySem.W.mg_of X G a39⟩
    d_law_other_book := ⟨_, _, fun_mk l40 c40 k40, (fun_mk (st := s_law_other_book) l40 c40 k40).binds (ps := ["_law_way"]) fun _ _ _ _ _ _ us hl => match us, hl with | [_], _ => rfl, PySem.W.mg_of X G a40⟩
    d_law_made_machine := ⟨_, _, fun_mk l41 c41 k41, (fun_mk (st := s_law_made_machine) l41 c41 k41).binds (ps := ["_law_plain_here"]) fun _ _ _ _ _ _ us hl => match us, hl with | [_], _ => rfl, PySem.W.mg_of X G a41⟩
    d_law_drawn_digits := ⟨_, _, fun_mk l42 c42 k42, (fun_mk (st := s_law_drawn_digits) l42 c42 k42).binds (ps := ["_law_dice_here", "_law_plain_here", "_law_sizes_here"]) fun _ _ _ _ _ _ us hl => match us, hl with | [_, _, _], _ => rfl, PySem.W.mg_of X G a42⟩
    d_law_keys_in := ⟨_, _, fun_mk l43 c43 k43, (fun_mk (st := s_law_keys_in) l43 c43 k43).binds (ps := ["_law_digits", "_law_sizes_here"]) fun _ _ _ _ _ _ us hl => match us, hl with | [_, _], _ => rfl, PySem.W.mg_of X G a43⟩
    d_law_in_parts := ⟨_, _, fun_mk l44 c44 k44, (fun_mk (st := s_law_in_parts) l44 c44 k44).binds (ps := ["_law_machine", "_law_note", "_law_digits", "_law_brought", "_law_at"]) fun _ _ _ _ _ _ us hl => match us, hl with | [_, _, _, _, _], _ => rfl, PySem.W.mg_of X G a44⟩
    d_law_trees := ⟨_, _, fun_mk l45 c45 k45, (fun_mk (st := s_law_trees) l45 c45 k45).binds (ps := ["_law_digits"]) fun _ _ _ _ _ _ us hl => match us, hl with | [_], _ => rfl, PySem.W.mg_of X G a45⟩
    d_law_right := ⟨_, _, fun_mk l46 c46 k46, (fun_mk (st := s_law_right) l46 c46 k46).binds (ps := ["_law_dice_here", "_law_plain_here"]) fun _ _ _ _ _ _ us hl => match us, hl with | [_, _], _ => rfl, PySem.W.mg_of X G a46⟩
    c_Kinds := ⟨CoKinds, { gC := PySem.W.mg_of X G goKinds, cl := ⟨pgoKinds, hdoKinds, pooKinds, saoKinds⟩, ne := neoKinds, ob := oboKinds, kit := kioKinds, kitT := ktoKinds, kitD := kdoKinds, ca := caoKinds, cg := cgoKinds, ct := ctoKinds, n_leaf := n_leafoKinds, n_makings := n_makingsoKinds, n_names := n_namesoKinds, made := ⟨_, _, ⟨mkoKinds, atM0Kinds, ifM0Kinds, kcoKinds⟩, fun_mk (st := s_Kinds_init) lM0Kinds cM0Kinds kM0Kinds, (fun_mk (st := s_Kinds_init) lM0Kinds cM0Kinds kM0Kinds).binds (ps := ["self", "leaf", "makings"]) fun _ _ _ _ _ _ us hl => match us, hl with | [_, _, _], _ => rfl⟩, m_contains := ⟨_, _, fun_mk (st := s_Kinds_contains) lM9Kinds cM9Kinds kM9Kinds, ⟨atM9Kinds, ifM9Kinds, kM9Kinds⟩, ((fun_mk (st := s_Kinds_contains) lM9Kinds cM9Kinds kM9Kinds).binds (ps := ["self", "value"]) fun _ _ _ _ _ _ us hl => match us, hl with | [_, _], _ => rfl), fn_in lM9Kinds⟩, m_getitem := ⟨_, _, fun_mk (st := s_Kinds_getitem) lM10Kinds cM10Kinds kM10Kinds, ⟨atM10Kinds, ifM10Kinds, kM10Kinds⟩, ((fun_mk (st := s_Kinds_getitem) lM10Kinds cM10Kinds kM10Kinds).binds (ps := ["self", "name"]) fun _ _ _ _ _ _ us hl => match us, hl with | [_, _], _ => rfl), fn_in lM10Kinds⟩ }⟩
    c_Page := ⟨CoPage, { gC := PySem.W.mg_of X G goPage, cl := ⟨pgoPage, hdoPage, pooPage, saoPage⟩, ne := neoPage, ob := oboPage, kit := kioPage, kitT := ktoPage, kitD := kdoPage, ca := caoPage, cg := cgoPage, ct := ctoPage, n_note := n_noteoPage, n_pool := n_pooloPage, n_made := n_madeoPage, n_after := n_afteroPage, made := ⟨_, _, ⟨mkoPage, atM0Page, ifM0Page, kcoPage⟩, fun_mk (st := s_Page_init) lM0Page cM0Page kM0Page, (fun_mk (st := s_Page_init) lM0Page cM0Page kM0Page).binds (ps := ["self", "note", "pool", "made", "after"]) fun _ _ _ _ _ _ us hl => match us, hl with | [_, _, _, _, _], _ => rfl⟩, p_made := ⟨_, _, _, ⟨atM4Page, geM4Page, taM4Page, ⟨_, reM4Page⟩⟩, fun_mk (st := s_Page_made) lM4Page cM4Page kM4Page, (fun_mk (st := s_Page_made) lM4Page cM4Page kM4Page).binds (ps := ["self"]) fun _ _ _ _ _ _ us hl => match us, hl with | [_], _ => rfl⟩, p_after := ⟨_, _, _, ⟨atM5Page, geM5Page, taM5Page, ⟨_, reM5Page⟩⟩, fun_mk (st := s_Page_after) lM5Page cM5Page kM5Page, (fun_mk (st := s_Page_after) lM5Page cM5Page kM5Page).binds (ps := ["self"]) fun _ _ _ _ _ _ us hl => match us, hl with | [_], _ => rfl⟩, p_line := ⟨_, _, _, ⟨atM6Page, geM6Page, taM6Page, ⟨_, reM6Page⟩⟩, fun_mk (st := s_Page_line) lM6Page cM6Page kM6Page, (fun_mk (st := s_Page_line) lM6Page cM6Page kM6Page).binds (ps := ["self"]) fun _ _ _ _ _ _ us hl => match us, hl with | [_], _ => rfl⟩, p_place := ⟨_, _, _, ⟨atM7Page, geM7Page, taM7Page, ⟨_, reM7Page⟩⟩, fun_mk (st := s_Page_place) lM7Page cM7Page kM7Page, (fun_mk (st := s_Page_place) lM7Page cM7Page kM7Page).binds (ps := ["self"]) fun _ _ _ _ _ _ us hl => match us, hl with | [_], _ => rfl⟩, m_left := ⟨_, _, fun_mk (st := s_Page_left) lM8Page cM8Page kM8Page, ⟨atM8Page, ifM8Page, kM8Page⟩, ((fun_mk (st := s_Page_left) lM8Page cM8Page kM8Page).binds (ps := ["self", "kinds"]) fun _ _ _ _ _ _ us hl => match us, hl with | [_, _], _ => rfl), fn_in lM8Page⟩ }⟩
    c_Machine := ⟨CoMachine, { gC := PySem.W.mg_of X G goMachine, cl := ⟨pgoMachine, hdoMachine, pooMachine, saoMachine⟩, ne := neoMachine, ob := oboMachine, kit := kioMachine, kitT := ktoMachine, kitD := kdoMachine, ca := caoMachine, cg := cgoMachine, ct := ctoMachine, n_kinds := n_kindsoMachine, n_left := n_leftoMachine, n_pages := n_pagesoMachine, made := ⟨_, _, ⟨mkoMachine, atM0Machine, ifM0Machine, kcoMachine⟩, fun_mk (st := s_Machine_init) lM0Machine cM0Machine kM0Machine, (fun_mk (st := s_Machine_init) lM0Machine cM0Machine kM0Machine).binds (ps := ["self", "kinds", "pages"]) fun _ _ _ _ _ _ us hl => match us, hl with | [_, _, _], _ => rfl⟩, p_kinds := ⟨_, _, _, ⟨atM1Machine, geM1Machine, taM1Machine, ⟨_, reM1Machine⟩⟩, fun_mk (st := s_Machine_kinds) lM1Machine cM1Machine kM1Machine, (fun_mk (st := s_Machine_kinds) lM1Machine cM1Machine kM1Machine).binds (ps := ["self"]) fun _ _ _ _ _ _ us hl => match us, hl with | [_], _ => rfl⟩, m_is_pool := ⟨_, _, fun_mk (st := s_Machine_is_pool) lM4Machine cM4Machine kM4Machine, ⟨atM4Machine, ifM4Machine, kM4Machine⟩, ((fun_mk (st := s_Machine_is_pool) lM4Machine cM4Machine kM4Machine).binds (ps := ["self", "value"]) fun _ _ _ _ _ _ us hl => match us, hl with | [_, _], _ => rfl), fn_in lM4Machine⟩, m_at_rank := ⟨_, _, fun_mk (st := s_Machine_at_rank) lM5Machine cM5Machine kM5Machine, ⟨atM5Machine, ifM5Machine, kM5Machine⟩, ((fun_mk (st := s_Machine_at_rank) lM5Machine cM5Machine kM5Machine).binds (ps := ["self", "note", "pool"]) fun _ _ _ _ _ _ us hl => match us, hl with | [_, _, _], _ => rfl), fn_in lM5Machine⟩, m_step := ⟨_, _, fun_mk (st := s_Machine_step) lM6Machine cM6Machine kM6Machine, ⟨atM6Machine, ifM6Machine, kM6Machine⟩, ((fun_mk (st := s_Machine_step) lM6Machine cM6Machine kM6Machine).binds (ps := ["self", "note", "pool"]) fun _ _ _ _ _ _ us hl => match us, hl with | [_, _, _], _ => rfl), fn_in lM6Machine⟩, m_run := ⟨_, _, _, fun_mk (st := s_Machine_run) lM7Machine cM7Machine kM7Machine, ⟨atM7Machine, ifM7Machine, kM7Machine⟩, ⟨binds_kw1 (qs := ["self", "note", "digits"]) kdM7Machine rfl (fun us hl => match us, hl with | [_, _, _], _ => ⟨_, _, _, _, _, _, rfl, rfl, rfl⟩), kbn_of fun us ws h1 h2 => match us, ws, h1, h2 with | [_, _, _], [_], _, _ => by first | rfl | with_unfolding_all rfl⟩, fn_in lM7Machine, sqT_const0 ktM7Machine⟩ }⟩
    g_MAX_LETTERS := ⟨_, PySem.W.mg_of X G m0⟩
    g__TOO_LONG := ⟨_, PySem.W.mg_of X G m1⟩
    g_MAX_KINDS := ⟨_, PySem.W.mg_of X G m2⟩
    g_MAX_PARTS := ⟨_, PySem.W.mg_of X G m3⟩
    g_LOOSE_DIGIT := ⟨_, PySem.W.mg_of X G m4⟩
    g__LOOSE_RANKS := ⟨_, PySem.W.mg_of X G m5⟩
    g_MAX_POOL := ⟨_, PySem.W.mg_of X G m6⟩
    g_MAX_MADE := ⟨_, PySem.W.mg_of X G m7⟩
    g__MAX_PAGES := ⟨_, PySem.W.mg_of X G m8⟩
    b_IndexError := PySem.W.mg_none_of X G z0
    b_KeyError := PySem.W.mg_none_of X G z1
    b_OverflowError := PySem.W.mg_none_of X G z2
    b_TypeError := PySem.W.mg_none_of X G z3
    b_ValueError := PySem.W.mg_none_of X G z4
    b_abs := PySem.W.mg_none_of X G z5
    b_all := PySem.W.mg_none_of X G z6
    b_bool := PySem.W.mg_none_of X G z7
    b_classmethod := PySem.W.mg_none_of X G z8
    b_dict := PySem.W.mg_none_of X G z9
    b_enumerate := PySem.W.mg_none_of X G z10
    b_int := PySem.W.mg_none_of X G z11
    b_isinstance := PySem.W.mg_none_of X G z12
    b_len := PySem.W.mg_none_of X G z13
    b_list := PySem.W.mg_none_of X G z14
    b_max := PySem.W.mg_none_of X G z15
    b_min := PySem.W.mg_none_of X G z16
    b_property := PySem.W.mg_none_of X G z17
    b_range := PySem.W.mg_none_of X G z18
    b_repr := PySem.W.mg_none_of X G z19
    b_set := PySem.W.mg_none_of X G z20
    b_sorted := PySem.W.mg_none_of X G z21
    b_str := PySem.W.mg_none_of X G z22
    b_sum := PySem.W.mg_none_of X G z23
    b_tuple := PySem.W.mg_none_of X G z24 }
  have tt0 : ∃ (f : Addr) (fd : FuncData), Mk K CoMachine f ∧ Fun K "__init__" "Machine.__init__" s_Machine_init f fd ∧ Binds K fd ["self", "kinds", "pages"] [] ∧ fd.code = .ref cT0 := by
    subst tc0
    exact ⟨_, _, ⟨mkoMachine, atM0Machine, ifM0Machine, kcoMachine⟩, fun_mk (st := s_Machine_init) lM0Machine cM0Machine kM0Machine, (fun_mk (st := s_Machine_init) lM0Machine cM0Machine kM0Machine).binds (ps := ["self", "kinds", "pages"]) fun _ _ _ _ _ _ us hl => match us, hl with | [_, _, _], _ => rfl, rfl⟩
  have nd : (([(PT0, ln "Machine.__init__")] : List (Addr × Str)).map (·.1)).Nodup := tdd
  refine ⟨PySem.W.fnOf "law" "law" (defArgs s_law) (defBody s_law) (defScope s_law) .none kV47 dc47 pm47 an47 cd47 ct47, [(cT0, PT0)], spLaw K [(PT0, ln "Machine.__init__")], fun c hc => ?_, fun s v => .of_eq rfl, fun H a ns hl hc hS => ⟨a, ns, rfl, hS, hl, fun p hp => ?_, fun _ => rfl⟩, fun base KB GB TB => ok_law (fun_mk (st := s_law) l47 c47 k47) (PySem.W.mg_of X G a47) (fun C hC => by cases hC.symm.trans (PySem.W.mg_of X G goMachine); exact ⟨tt0, TB _ (.head _), (.head _), one_of nd (.head _)⟩) T ⟩
  · simp only [List.mem_cons, List.not_mem_nil, or_false] at hc
    rcases hc with rfl
    · exact ⟨⟨th0, tm0⟩, tn0⟩
  · simp only [List.mem_cons, List.not_mem_nil, or_false] at hp
    rcases hp with rfl
    · exact .nil (hc _ (.head _))
end Kl
theorem PySem.W.Fast.tw18318128539948604113 : True := trivial
theorem PySem.W.Fast.tw16913231351625549354 : True := trivial
theorem PySem.W.Fast.tw12919755359840844007 : True := trivial
theorem PySem.W.Fast.tw17716038519115850015 : True := trivial
theorem PySem.W.Fast.tw9937253902182727686 : True := trivial
theorem PySem.W.Fast.tw6222539212466283746 : True := trivial
open PySem PySem.W PyProof.Rows
set_option maxHeartbeats 0 in
theorem PySem.Challenge.cw_linkbooks_k26_whole_machines_run_holds : PySem.Challenge.rw_linkbooks_k26_whole_machines_run.Holds := by
  w_on; o_law; k_head; (case hw => w_witness2)
  k_fill
  refine Gx.walkGM (l := PySem.Challenge.rw_linkbooks_k26_whole_machines_run) (n := 63) (k := 40) (x := "_law_script") (CX := fun _ => L2.CX0) rfl (by decide) rfl ⟨rfl, by decide, by decide⟩ (fun w h Y => PySem.W.km_in_of Y) (fun w h Y => PySem.W.km_tabs_of Y) ?F (fun _ _ _ _ _ h => h)
  case F =>
    intro w mg fa h KX G hmg
    refine' Kl.all_mk KX G hmg ?gy0 ?hy0 ?ty0 ?iy0 ?ky0 ?by0 ?wy0 ?xy0 ?ry0 ?zy0 ?a0 ?l0 ?c0 ?k0 ?a1 ?l1 ?c1 ?k1 ?a2 ?l2 ?c2 ?k2 ?a3 ?l3 ?c3 ?k3 ?a4 ?l4 ?c4 ?k4 ?a5 ?l5 ?c5 ?k5 ?a6 ?l6 ?c6 ?k6 ?a7 ?l7 ?c7 ?k7 ?a8 ?l8 ?c8 ?k8 ?a9 ?l9 ?c9 ?k9 ?a10 ?l10 ?c10 ?k10 ?a11 ?l11 ?c11 ?k11 ?a12 ?l12 ?c12 ?k12 ?a13 ?l13 ?c13 ?k13 ?a14 ?l14 ?c14 ?k14 ?a15 ?l15 ?c15 ?k15 ?a16 ?l16 ?c16 ?k16 ?a17 ?l17 ?c17 ?k17 ?a18 ?l18 ?c18 ?k18 ?a19 ?l19 ?c19 ?k19 ?a20 ?l20 ?c20 ?k20 ?a21 ?l21 ?c21 ?k21 ?a22 ?l22 ?c22 ?k22 ?a23 ?l23 ?c23 ?k23 ?a24 ?l24 ?c24 ?k24 ?a25 ?l25 ?c25 ?k25 ?a26 ?l26 ?c26 ?k26 ?a27 ?l27 ?c27 ?k27 ?a28 ?l28 ?c28 ?k28 ?a29 ?l29 ?c29 ?k29 ?a30 ?l30 ?c30 ?k30 ?a31 ?l31 ?c31 ?k31 ?a32 ?l32 ?c32 ?k32 ?a33 ?l33 ?c33 ?k33 ?a34 ?l34 ?c34 ?k34 ?a35 ?l35 ?c35 ?k35 ?a36 ?l36 ?c36 ?k36 ?a37 ?l37 ?c37 ?k37 ?a38 ?l38 ?c38 ?k38 ?a39 ?l39 ?c39 ?k39 ?a40 ?l40 ?c40 ?k40 ?a41 ?l41 ?c41 ?k41 ?a42 ?l42 ?c42 ?k42 ?a43 ?l43 ?c43 ?k43 ?a44 ?l44 ?c44 ?k44 ?a45 ?l45 ?c45 ?k45 ?a46 ?l46 ?c46 ?k46 ?a47 ?l47 ?c47 ?k47 ?goKinds ?pgoKinds ?hdoKinds ?pooKinds ?saoKinds ?mkoKinds ?kcoKinds ?neoKinds ?oboKinds ?kioKinds ?ktoKinds ?kdoKinds ?caoKinds ?cgoKinds ?ctoKinds ?n_leafoKinds ?n_makingsoKinds ?n_namesoKinds ?atM0Kinds ?ifM0Kinds ?lM0Kinds ?cM0Kinds ?kM0Kinds ?atM9Kinds ?ifM9Kinds ?lM9Kinds ?cM9Kinds ?kM9Kinds ?atM10Kinds ?ifM10Kinds ?lM10Kinds ?cM10Kinds ?kM10Kinds ?goPage ?pgoPage ?hdoPage ?pooPage ?saoPage ?mkoPage ?kcoPage ?neoPage ?oboPage ?kioPage ?ktoPage ?kdoPage ?caoPage ?cgoPage ?ctoPage ?n_noteoPage ?n_pooloPage ?n_madeoPage ?n_afteroPage ?atM0Page ?ifM0Page ?lM0Page ?cM0Page ?kM0Page ?atM4Page ?geM4Page ?taM4Page ?reM4Page ?lM4Page ?cM4Page ?kM4Page ?atM5Page ?geM5Page ?taM5Page ?reM5Page ?lM5Page ?cM5Page ?kM5Page ?atM6Page ?geM6Page ?taM6Page ?reM6Page ?lM6Page ?cM6Page ?kM6Page ?atM7Page ?geM7Page ?taM7Page ?reM7Page ?lM7Page ?cM7Page ?kM7Page ?atM8Page ?ifM8Page ?lM8Page ?cM8Page ?kM8Page ?goMachine ?pgoMachine ?hdoMachine ?pooMachine ?saoMachine ?mkoMachine ?kcoMachine ?neoMachine ?oboMachine ?kioMachine ?ktoMachine ?kdoMachine ?caoMachine ?cgoMachine ?ctoMachine ?n_kindsoMachine ?n_leftoMachine ?n_pagesoMachine ?atM0Machine ?ifM0Machine ?lM0Machine ?cM0Machine ?kM0Machine ?atM1Machine ?geM1Machine ?taM1Machine ?reM1Machine ?lM1Machine ?cM1Machine ?kM1Machine ?atM4Machine ?ifM4Machine ?lM4Machine ?cM4Machine ?kM4Machine ?atM5Machine ?ifM5Machine ?lM5Machine ?cM5Machine ?kM5Machine ?atM6Machine ?ifM6Machine ?lM6Machine ?cM6Machine ?kM6Machine ?atM7Machine ?ifM7Machine ?lM7Machine ?cM7Machine ?kM7Machine ?kdM7Machine ?ktM7Machine ?m0 ?m1 ?m2 ?m3 ?m4 ?m5 ?m6 ?m7 ?m8 ?z0 ?z1 ?z2 ?z3 ?z4 ?z5 ?z6 ?z7 ?z8 ?z9 ?z10 ?z11 ?z12 ?z13 ?z14 ?z15 ?z16 ?z17 ?z18 ?z19 ?z20 ?z21 ?z22 ?z23 ?z24 ?tc0 ?tl0 ?tp0 ?tn0 ?th0 ?tm0 ?tdd
    (case gy0 => k_is); (case hy0 => k_is); (case ty0 => decide +kernel); (case iy0 => k_is); (case ky0 => k_is); (case by0 => k_is); (case wy0 => k_is); (case xy0 => k_is); (case ry0 => first | rfl | k_is); (case zy0 => kernel_rfl); (case a0 => k_is); (case l0 => k_is); (case c0 => k_is); (case k0 => k_is); (case a1 => k_is); (case l1 => k_is); (case c1 => k_is); (case k1 => k_is); (case a2 => k_is); (case l2 => k_is); (case c2 => k_is); (case k2 => k_is); (case a3 => k_is); (case l3 => k_is); (case c3 => k_is); (case k3 => k_is); (case a4 => k_is); (case l4 => k_is); (case c4 => k_is); (case k4 => k_is); (case a5 => k_is); (case l5 => k_is); (case c5 => k_is); (case k5 => k_is); (case a6 => k_is); (case l6 => k_is); (case c6 => k_is); (case k6 => k_is); (case a7 => k_is); (case l7 => k_is); (case c7 => k_is); (case k7 => k_is); (case a8 => k_is); (case l8 => k_is); (case c8 => k_is); (case k8 => k_is); (case a9 => k_is); (case l9 => k_is); (case c9 => k_is); (case k9 => k_is); (case a10 => k_is); (case l10 => k_is); (case c10 => k_is); (case k10 => k_is); (case a11 => k_is); (case l11 => k_is); (case c11 => k_is); (case k11 => k_is); (case a12 => k_is); (case l12 => k_is); (case c12 => k_is); (case k12 => k_is); (case a13 => k_is); (case l13 => k_is); (case c13 => k_is); (case k13 => k_is); (case a14 => k_is); (case l14 => k_is); (case c14 => k_is); (case k14 => k_is); (case a15 => k_is); (case l15 => k_is); (case c15 => k_is); (case k15 => k_is); (case a16 => k_is); (case l16 => k_is); (case c16 => k_is); (case k16 => k_is); (case a17 => k_is); (case l17 => k_is); (case c17 => k_is); (case k17 => k_is); (case a18 => k_is); (case l18 => k_is); (case c18 => k_is); (case k18 => k_is); (case a19 => k_is); (case l19 => k_is); (case c19 => k_is); (case k19 => k_is); (case a20 => k_is); (case l20 => k_is); (case c20 => k_is); (case k20 => k_is); (case a21 => k_is); (case l21 => k_is); (case c21 => k_is); (case k21 => k_is); (case a22 => k_is); (case l22 => k_is); (case c22 => k_is); (case k22 => k_is); (case a23 => k_is); (case l23 => k_is); (case c23 => k_is); (case k23 => k_is); (case a24 => k_is); (case l24 => k_is); (case c24 => k_is); (case k24 => k_is); (case a25 => k_is); (case l25 => k_is); (case c25 => k_is); (case k25 => k_is); (case a26 => k_is); (case l26 => k_is); (case c26 => k_is); (case k26 => k_is); (case a27 => k_is); (case l27 => k_is); (case c27 => k_is); (case k27 => k_is); (case a28 => k_is); (case l28 => k_is); (case c28 => k_is); (case k28 => k_is); (case a29 => k_is); (case l29 => k_is); (case c29 => k_is); (case k29 => k_is); (case a30 => k_is); (case l30 => k_is); (case c30 => k_is); (case k30 => k_is); (case a31 => k_is); (case l31 => k_is); (case c31 => k_is); (case k31 => k_is); (case a32 => k_is); (case l32 => k_is); (case c32 => k_is); (case k32 => k_is); (case a33 => k_is); (case l33 => k_is); (case c33 => k_is); (case k33 => k_is); (case a34 => k_is); (case l34 => k_is); (case c34 => k_is); (case k34 => k_is); (case a35 => k_is); (case l35 => k_is); (case c35 => k_is); (case k35 => k_is); (case a36 => k_is); (case l36 => k_is); (case c36 => k_is); (case k36 => k_is); (case a37 => k_is); (case l37 => k_is); (case c37 => k_is); (case k37 => k_is); (case a38 => k_is); (case l38 => k_is); (case c38 => k_is); (case k38 => k_is); (case a39 => k_is); (case l39 => k_is); (case c39 => k_is); (case k39 => k_is); (case a40 => k_is); (case l40 => k_is); (case c40 => k_is); (case k40 => k_is); (case a41 => k_is); (case l41 => k_is); (case c41 => k_is); (case k41 => k_is); (case a42 => k_is); (case l42 => k_is); (case c42 => k_is); (case k42 => k_is); (case a43 => k_is); (case l43 => k_is); (case c43 => k_is); (case k43 => k_is); (case a44 => k_is); (case l44 => k_is); (case c44 => k_is); (case k44 => k_is); (case a45 => k_is); (case l45 => k_is); (case c45 => k_is); (case k45 => k_is); (case a46 => k_is); (case l46 => k_is); (case c46 => k_is); (case k46 => k_is); (case a47 => k_is); (case l47 => k_is); (case c47 => k_is); (case k47 => k_is); (case goKinds => k_is); (case pgoKinds => k_is); (case hdoKinds => k_is); (case pooKinds => k_is); (case saoKinds => k_is); (case mkoKinds => k_is); (case kcoKinds => k_is); (case neoKinds => k_is); (case oboKinds => k_is); (case kioKinds => first | rfl | k_is); (case ktoKinds => first | rfl | k_is); (case kdoKinds => first | rfl | k_is); (case caoKinds => k_is); (case cgoKinds => k_is); (case ctoKinds => k_is); (case n_leafoKinds => k_is); (case n_makingsoKinds => k_is); (case n_namesoKinds => k_is); (case atM0Kinds => k_is); (case ifM0Kinds => k_is); (case lM0Kinds => k_is); (case cM0Kinds => k_is); (case kM0Kinds => k_is); (case atM9Kinds => k_is); (case ifM9Kinds => k_is); (case lM9Kinds => k_is); (case cM9Kinds => k_is); (case kM9Kinds => k_is); (case atM10Kinds => k_is); (case ifM10Kinds => k_is); (case lM10Kinds => k_is); (case cM10Kinds => k_is); (case kM10Kinds => k_is); (case goPage => k_is); (case pgoPage => k_is); (case hdoPage => k_is); (case pooPage => k_is); (case saoPage => k_is); (case mkoPage => k_is); (case kcoPage => k_is); (case neoPage => k_is); (case oboPage => k_is); (case kioPage => first | rfl | k_is); (case ktoPage => first | rfl | k_is); (case kdoPage => first | rfl | k_is); (case caoPage => k_is); (case cgoPage => k_is); (case ctoPage => k_is); (case n_noteoPage => k_is); (case n_pooloPage => k_is); (case n_madeoPage => k_is); (case n_afteroPage => k_is); (case atM0Page => k_is); (case ifM0Page => k_is); (case lM0Page => k_is); (case cM0Page => k_is); (case kM0Page => k_is); (case atM4Page => k_is); (case geM4Page => k_is); (case taM4Page => k_is); (case reM4Page => k_is); (case lM4Page => k_is); (case cM4Page => k_is); (case kM4Page => k_is); (case atM5Page => k_is); (case geM5Page => k_is); (case taM5Page => k_is); (case reM5Page => k_is); (case lM5Page => k_is); (case cM5Page => k_is); (case kM5Page => k_is); (case atM6Page => k_is); (case geM6Page => k_is); (case taM6Page => k_is); (case reM6Page => k_is); (case lM6Page => k_is); (case cM6Page => k_is); (case kM6Page => k_is); (case atM7Page => k_is); (case geM7Page => k_is); (case taM7Page => k_is); (case reM7Page => k_is); (case lM7Page => k_is); (case cM7Page => k_is); (case kM7Page => k_is); (case atM8Page => k_is); (case ifM8Page => k_is); (case lM8Page => k_is); (case cM8Page => k_is); (case kM8Page => k_is); (case goMachine => k_is); (case pgoMachine => k_is); (case hdoMachine => k_is); (case pooMachine => k_is); (case saoMachine => k_is); (case mkoMachine => k_is); (case kcoMachine => k_is); (case neoMachine => k_is); (case oboMachine => k_is); (case kioMachine => first | rfl | k_is); (case ktoMachine => first | rfl | k_is); (case kdoMachine => first | rfl | k_is); (case caoMachine => k_is); (case cgoMachine => k_is); (case ctoMachine => k_is); (case n_kindsoMachine => k_is); (case n_leftoMachine => k_is); (case n_pagesoMachine => k_is); (case atM0Machine => k_is); (case ifM0Machine => k_is); (case lM0Machine => k_is); (case cM0Machine => k_is); (case kM0Machine => k_is); (case atM1Machine => k_is); (case geM1Machine => k_is); (case taM1Machine => k_is); (case reM1Machine => k_is); (case lM1Machine => k_is); (case cM1Machine => k_is); (case kM1Machine => k_is); (case atM4Machine => k_is); (case ifM4Machine => k_is); (case lM4Machine => k_is); (case cM4Machine => k_is); (case kM4Machine => k_is); (case atM5Machine => k_is); (case ifM5Machine => k_is); (case lM5Machine => k_is); (case cM5Machine => k_is); (case kM5Machine => k_is); (case atM6Machine => k_is); (case ifM6Machine => k_is); (case lM6Machine => k_is); (case cM6Machine => k_is); (case kM6Machine => k_is); (case atM7Machine => k_is); (case ifM7Machine => k_is); (case lM7Machine => k_is); (case cM7Machine => k_is); (case kM7Machine => k_is); (case kdM7Machine => k_is); (case ktM7Machine => k_is); (case m0 => k_is); (case m1 => k_is); (case m2 => k_is); (case m3 => k_is); (case m4 => k_is); (case m5 => k_is); (case m6 => k_is); (case m7 => k_is); (case m8 => k_is); (case z0 => k_is); (case z1 => k_is); (case z2 => k_is); (case z3 => k_is); (case z4 => k_is); (case z5 => k_is); (case z6 => k_is); (case z7 => k_is); (case z8 => k_is); (case z9 => k_is); (case z10 => k_is); (case z11 => k_is); (case z12 => k_is); (case z13 => k_is); (case z14 => k_is); (case z15 => k_is); (case z16 => k_is); (case z17 => k_is); (case z18 => k_is); (case z19 => k_is); (case z20 => k_is); (case z21 => k_is); (case z22 => k_is); (case z23 => k_is); (case z24 => k_is); (case tc0 => rfl); (case tl0 => k_is); (case tp0 => rfl); (case tn0 => kernel_rfl); (case th0 => kernel_rfl); (case tm0 => decide); (case tdd => decide)
