import PyProof.Rows.All
import Wide.All
import OpenK.AllK
import Wide.FinOn
import KE.KCallOwn
import KE.KEqDict
import PyProof.InstEq
import HandS.Base
import HandS.Call
import HandS.List
import HandS.Dict
import HandS.More
import HandS.Comp
import HandS.Words
import HandS.Property
import HandS.IsInst
import PyProof.Rows.SortShellAny
import PyProof.Rows.SetFrom
import HandS.Set
import PyProof.AssignAttr
import PyProof.Rows.StrCountLaw
import HandS.ForMost
import HandS.Wide
import HandS.StrMore
import HandS.Style
import PyProof.ReprReads
import HandS.Ends
import PyProof.ReprRoads
import PyProof.TupleOfSeq
import KE.KExcInit
import HandS.ForExc
import HandS.TryMany
import HandS.Defaults
import HandS.Deep
import HandS.ExcValue
import KE.KExcMake
import KE.KExcIs
import HandS.Lambda
import HandS.EndBits
import KE.KNest
import HandS.Iter
import HandS.Walk
import KE.KDictKeyed
import KE.KDictWalk
import HandS.DictComp
import HandS.DictTup
import HandS.Conv
import KE.SortData
import KE.KDictCopyH
import HandS.DictEq
import KE.KDictPairs
import HandS.FStr
import HandS.ListItems
import HandS.TupAny
import HandS.Star
import HandS.Strs
import HandS.SetBool
import PyProof.SetRoads
import HandS.SetFor
import HandS.TupSets
import KE.KSortTup
import PyProof.Rows.RegFStrParts
import KE.KDictDisplayH
import KE.SortCalls
import HandS.Zip
import KE.KDictZip
import KE.KDictItemsList
import HandS.TupMul
import KE.KExcLine
import PySem.Challenge.RW_linkbooks_k19_whole_rows_taken
set_option Elab.async false
set_option linter.all false
set_option maxRecDepth 100000
set_option maxHeartbeats 4000000
namespace Gx
open PySem PySem.Spec PySem.Calls PyProof.Rows L2
/-- a method of the class at C that keeps the promise sp, by at most level k -/
def CalM (P : Program) (w : World) (K : PySem.W.Frag) (mg : Str → Option Value) (base : Heap) (C : Addr) (m : Str) (k : Nat) (ps : List Str) (sp : Sp) : Prop :=
  ∃ (f : Addr) (fd : FuncData), FnOk P w K mg base CX0 k f fd ps sp ∧ Meth K C m f ∧ Binds K fd ps [] ∧ PySem.W.fnIn K f = true
theorem CalM.mono {P : Program} {w : World} {K : PySem.W.Frag} {mg : Str → Option Value} {base : Heap} {C : Addr} {m : Str} {j k : Nat} {ps : List Str} {sp : Sp} (c : CalM P w K mg base C m j ps sp) (h : j ≤ k) : CalM P w K mg base C m k ps sp := by
  obtain ⟨f, fd, F, more⟩ := c
  exact ⟨f, fd, F.mono h, more⟩
end Gx
set_option maxRecDepth 100000
set_option maxHeartbeats 4000000
namespace Gx
open PySem PySem.Spec PyProof.Rows L2
theorem fn_in {K : PySem.W.Frag} {f : Addr} {oc : Value} {od : Option Addr} {fd : FuncData} {sl : Array (Option Value)} (l : K.lookup f = some ⟨oc, od, .func fd, sl⟩) : PySem.W.fnIn K f = true := by
  unfold PySem.W.fnIn
  rw [l]
/-- the class at C has the def st as its property m -/
def PropD (K : PySem.W.Frag) (C : Addr) (m qual : Str) (st : Stmt) : Prop := ∃ (p f : Addr) (fd : FuncData), PropOf K C m p f ∧ Fun K m qual st f fd ∧ Binds K fd ["self"] []
/-- .. as its method m -/
def DefM (K : PySem.W.Frag) (C : Addr) (m qual : Str) (st : Stmt) (ps : List Str) : Prop := ∃ (f : Addr) (fd : FuncData), Fun K m qual st f fd ∧ Meth K C m f ∧ Binds K fd ps [] ∧ PySem.W.fnIn K f = true
/-- a property that keeps the promise sp -/
def CalP (P : Program) (w : World) (K : PySem.W.Frag) (mg : Str → Option Value) (base : Heap) (C : Addr) (m : Str) (k : Nat) (sp : Sp) : Prop :=
  ∃ (p f : Addr) (fd : FuncData), PropOf K C m p f ∧ FnOk P w K mg base CX0 k f fd ["self"] sp ∧ Binds K fd ["self"] []
/-- C(..) by its __init__'s promise -/
def CalI (P : Program) (w : World) (K : PySem.W.Frag) (mg : Str → Option Value) (base : Heap) (C : Addr) (k : Nat) (ps : List Str) (sp : Sp) : Prop :=
  ∃ (f : Addr) (fd : FuncData), Mk K C f ∧ FnOk P w K mg base CX0 k f fd ps sp ∧ Binds K fd ps []
section
variable {P : Program} {w : World} {K : PySem.W.Frag} {mg : Str → Option Value} {base : Heap} {C : Addr} {m qual : Str} {st : Stmt} {k : Nat} {ps : List Str} {sp : Sp}
theorem DefM.cal (d : DefM K C m qual st ps) (h : ∀ f fd, Fun K m qual st f fd → FnOk P w K mg base CX0 k f fd ps sp) : CalM P w K mg base C m k ps sp := by
  obtain ⟨f, fd, F, me, b, fi⟩ := d
  exact ⟨f, fd, h f fd F, me, b, fi⟩
theorem PropD.cal (d : PropD K C m qual st) (h : ∀ f fd, Fun K m qual st f fd → FnOk P w K mg base CX0 k f fd ["self"] sp) : CalP P w K mg base C m k sp := by
  obtain ⟨p, f, fd, pr, F, b⟩ := d
  exact ⟨p, f, fd, pr, h f fd F, b⟩
theorem CalP.mono {j : Nat} (c : CalP P w K mg base C m j sp) (h : j ≤ k) : CalP P w K mg base C m k sp := by
  obtain ⟨p, f, fd, pr, F, b⟩ := c
  exact ⟨p, f, fd, pr, F.mono h, b⟩
theorem CalI.mono {j : Nat} (c : CalI P w K mg base C j ps sp) (h : j ≤ k) : CalI P w K mg base C k ps sp := by
  obtain ⟨f, fd, M, F, b⟩ := c
  exact ⟨f, fd, M, F.mono h, b⟩
end
section
variable {X : Cx} {C : Addr} {m x : Str} {k : Nat} {ps : List Str} {sp : Sp} {ta : TE} {t : TA} {o e : Expr} {es : List Expr} {pos apos p : Pos}
/-- o.m, a property -/
def tPropC (C : Addr) (sp : Sp) (ta : TE) : TE := fun σ H Q => ta σ H fun x H1 => ∃ a dx fs, x = .ref a ∧ H1 a = some (.ins C dx fs) ∧ sp [.ref a] H1 Q E0
theorem pe_propC (he : PE X o ta) (cl : Cls X.K C) (c : CalP X.prog X.w X.K X.mg X.base C m k sp) (hr : Room (k + 1) X.A) (hab : attributeBase o m X.env (eval o X.env) = eval o X.env := by rfl) : PE X (.Attribute o m pos) (tPropC C sp ta) := by
  obtain ⟨p, f, fd, pr, F, b⟩ := c
  have h := pe_prop (pos := pos) (E := E0) he cl pr F hr b .nil pass0 hab
  exact h
/-- o.m(..) -/
def tMethC (C : Addr) (m : Str) (sp : Sp) (ta : TE) (t : TA) : TE := fun σ H Q => ta σ H fun x H1 => ∃ a dx fs, x = .ref a ∧ H1 a = some (.ins C dx fs) ∧ fs.lookup m = none ∧ t σ H1 fun vs H2 => sp (x :: vs) H2 Q E0
theorem tMethC_eq : tMeth C m sp [] E0 ta t = tMethC C m sp ta t := by
  funext σ H Q
  show ta σ H _ = ta σ H _
  congr 1
  funext x H1
  simp only [List.append_nil]
theorem pe_methC {pl : Sem Bool} (he : PE X o ta) (cl : Cls X.K C) (c : CalM X.prog X.w X.K X.mg X.base C m k ps sp) (hr : Room k X.A) (ha : PA X (e :: es) t)
    (hst : starEach (e :: es) X.env = (false, eval e X.env) :: starEach es X.env := by rfl) (hpl : (backTo pos (starEach es X.env)).any (·.1) = false := by rfl)
    (ht : eval (.Call (.Attribute o m apos) (e :: es) [] pos) X.env = (do
      let ov ← eval o X.env
      standAt apos.atName
      let (f, first) ← holding [ov] (getMethod ov m pl)
      callWith pos f first (backTo pos (starEach (e :: es) X.env)) (backToKw pos (keywordEach [] X.env))) := by rfl) :
    PE X (.Call (.Attribute o m apos) (e :: es) [] pos) (tMethC C m sp ta t) := by
  obtain ⟨f, fd, F, me, b, fi⟩ := c
  rw [← tMethC_eq]
  exact pe_meth (pl := pl) he cl me F hr b .nil pass0 ha hst hpl ht
/-- C(..) -/
def tMakeC (C : Addr) (sp : Sp) (t : TA) : TE := fun σ H Q => t σ H fun vs H1 => ∀ x dx, H1 x = none → H1 dx = none → dx ≠ x →
  sp (.ref x :: vs) (upd (upd H1 dx (.own x)) x (.ins C dx [])) (fun v H2 => v = .non ∧ Q (.ref x) H2) E0
theorem tMakeC_eq : tMake C sp [] E0 t = tMakeC C sp t := by
  funext σ H Q
  show t σ H _ = t σ H _
  congr 1
  funext vs H1
  simp only [List.append_nil]
theorem pe_makeC (c : CalI X.prog X.w X.K X.mg X.base C k ps sp) (hr : Room (k + 1) X.A) (hg : Gl X x) (hm : X.mg x = some (.ref C)) (ha : PA X (e :: es) t)
    (hdb : (x == ("__debug__" : Str)) = false := by decide) (he : starEach (e :: es) X.env = (false, eval e X.env) :: starEach es X.env := by rfl) (hpl : (backTo pos (starEach es X.env)).any (·.1) = false := by rfl) :
    PE X (.Call (.Name x p) (e :: es) [] pos) (tMakeC C sp t) := by
  obtain ⟨f, fd, M, F, b⟩ := c
  rw [← tMakeC_eq]
  exact pe_make M F hr hg hm b .nil pass0 ha hdb he hpl
end
end Gx
set_option maxRecDepth 100000
set_option maxHeartbeats 4000000
namespace Gx
open PySem PySem.Spec PyProof.Rows L2
/-- a member's text -/
def txE (m : Int × Value) : Str :=
  match m.2 with
  | .str z _ => z
  | _ => Str.empty
def TxE (P : Program) (w : World) (m : Int × Value) : Prop := ∃ z tk, m.2 = Value.str z tk ∧ m.1 = (PySem.strKind P w).hash z
/-- at a stands the set of the texts of L, some of which may be there twice; its table can be walked -/
def SetX (P : Program) (w : World) (h : Heap) (a : Addr) (L : List Str) : Prop :=
  ∃ ob ms ep tb, h.get? a = some ob ∧ ob.ExactSet ∧ ob.data = .set ms ep tb ∧ (∀ m ∈ ms.toList, TxE P w m) ∧ (ms.toList.map txE).Nodup ∧ (∀ z, z ∈ L ↔ z ∈ ms.toList.map txE) ∧
    ms.size < scanBound ∧ tb.fits ms.size = true ∧ ms.size ≤ L.length ∧ Ris tb.place.toList ∧ (w.params.followText "set-order" = true ∨ tb.led = true)
section
variable {P : Program} {w : World} {h h' : Heap} {a : Addr} {L : List Str}
theorem SetX.at (R : SetX P w h a L) (k : ∀ o, h.get? a = some o → h'.get? a = some o) : SetX P w h' a L := by
  obtain ⟨ob, ms, ep, tb, here, more⟩ := R
  exact ⟨ob, ms, ep, tb, k ob here, more⟩
theorem SetX.same {L' : List Str} (R : SetX P w h a L) (e : ∀ z, z ∈ L' ↔ z ∈ L) (hl : L.length ≤ L'.length) : SetX P w h a L' := by
  obtain ⟨ob, ms, ep, tb, here, ex, dt, gd, nd, mem, bd, ft, le, more⟩ := R
  exact ⟨ob, ms, ep, tb, here, ex, dt, gd, nd, fun z => (e z).trans (mem z), bd, ft, Nat.le_trans le hl, more⟩
theorem tx_elems {l : List (Int × Value)} (gd : ∀ m ∈ l, TxE P w m) : ElemsOf (PySem.strKind P w) l := by
  intro m hm
  obtain ⟨z, tk, e1, e2⟩ := gd m hm
  refine ⟨⟨z, ?_, e2⟩, ?_⟩
  · rw [e1]
    exact strKind_is P w z tk
  · rw [e1]
    rfl
theorem tx_is {m : Int × Value} (gd : TxE P w m) (z : Str) : (PySem.strKind P w).is z m.2 = true ↔ txE m = z := by
  obtain ⟨y, tk, e1, _⟩ := gd
  have e3 : txE m = y := by unfold txE; rw [e1]
  rw [e3, e1]
  constructor
  · intro q
    obtain ⟨t, q⟩ := Value.isStrOf_shape (show Value.isStrOf z (.str y tk) = true from q)
    cases q
    rfl
  · rintro rfl
    exact strKind_is P w y tk
theorem tx_mem {l : List (Int × Value)} (gd : ∀ m ∈ l, TxE P w m) (z : Str) : z ∈ l.map txE ↔ ∃ m ∈ l, (PySem.strKind P w).is z m.2 = true := by
  rw [List.mem_map]
  exact ⟨fun ⟨m, hm, q⟩ => ⟨m, hm, (tx_is (gd m hm) z).2 q⟩, fun ⟨m, hm, q⟩ => ⟨m, hm, (tx_is (gd m hm) z).1 q⟩⟩
end
section
variable {P : Program} {w : World} {A : Around} {E : Value → Shared → Prop} {s : Shared} {a : Addr} {L : List Str}
theorem setX_tail {g : Bool → Sem Unit} (hg : ∀ (b : Bool) (s₁ : Shared) (Q' : Unit → Shared → Prop), Q' () s₁ → wpAny (model P w) A (g b) Q' E s₁)
    {ob : Obj} {ms : Array (Int × Value)} {ep : Nat} {tb : SetTable} (here : s.heap.get? a = some ob) (ex : ob.ExactSet) (dt : ob.data = .set ms ep tb)
    {ms1 : Array (Int × Value)} {tb2 : SetTable} {L' : List Str} (g1 : ∀ m ∈ ms1.toList, TxE P w m) (nd1 : (ms1.toList.map txE).Nodup) (m1 : ∀ z, z ∈ L' ↔ z ∈ ms1.toList.map txE)
    (bd1 : ms1.size < scanBound) (ft2 : tb2.fits ms1.size = true) (le1 : ms1.size ≤ L'.length) (ri : Ris tb2.place.toList) (ld : w.params.followText "set-order" = true ∨ tb2.led = true) {dummy : Bool} {R : Option Bool → Shared → Prop}
    (hR : ∀ h', Heap.SameBut a s.heap h' → SetX P w h' a L' → R (some true) { s with heap := h' }) :
    wpAny (model P w) A (do
        storeSet a ms1 tb2
        if (!dummy && tb2.tooFull) = true then do
            g (relayAll tb2 ms1 (SetTable.grown ms1.size)).2.2
            storeSet a (relayAll tb2 ms1 (SetTable.grown ms1.size)).1 (relayAll tb2 ms1 (SetTable.grown ms1.size)).2.1
            pure (some true)
          else pure (some true)) R E s := by
  refine wpAny_bind (wpAny_storeSet_of here dt ?_ (fits_of_scanBound bd1))
  have at1 := store_at (es' := ms1) (t' := tb2) here dt
  have but1 := Heap.SameBut.update s.heap a (Obj.putSet ms1 tb2)
  split
  · have perm2 := relayAll_perm tb2 ms1 (SetTable.grown ms1.size)
    have ft3 := relayAll_fits tb2 ms1 (SetTable.grown ms1.size)
    have ri3 := relayAll_ris tb2 ms1 (SetTable.grown ms1.size)
    have ld3 := relayAll_led tb2 ms1 (SetTable.grown ms1.size)
    generalize relayAll tb2 ms1 (SetTable.grown ms1.size) = laid at perm2 ft3 ri3 ld3 ⊢
    obtain ⟨ms2, tb3, gave⟩ := laid
    dsimp only at perm2 ft3 ri3 ld3 ⊢
    have sz2 : ms2.size = ms1.size := by rw [← Array.length_toList, perm2.length_eq, Array.length_toList]
    have bd2 : ms2.size < scanBound := sz2 ▸ bd1
    refine wpAny_bind (hg _ _ _ ?_)
    refine wpAny_bind (wpAny_storeSet_of at1 rfl ?_ (fits_of_scanBound bd2))
    have at2 := store_at (es' := ms2) (t' := tb3) at1 rfl
    refine wpAny_pure (hR _ (but1.trans (Heap.SameBut.update _ a _)) ⟨_, ms2, _, tb3, at2, ex, rfl, fun m hm => g1 m (perm2.mem_iff.mp hm), (perm2.map txE).nodup_iff.mpr nd1, fun z => (m1 z).trans (perm2.map txE).mem_iff.symm, bd2, ?_, by rw [sz2]; exact le1, ri3, ?_⟩)
    · exact ft3
    · exact ld.imp id fun z => by rw [ld3]; exact z
  · exact wpAny_pure (hR _ but1 ⟨_, ms1, _, tb2, at1, ex, rfl, g1, nd1, m1, bd1, ft2, le1, ri, ld⟩)
theorem setX_add {z : Str} {tk : Tok} {Q : Bool → Shared → Prop} (R : SetX P w s.heap a L) (room : L.length + 1 < scanBound)
    (hQ : ∀ h' b, Heap.SameBut a s.heap h' → SetX P w h' a (L ++ [z]) → Q b { s with heap := h' }) :
    wpAny (model P w) A (setAddHashed a (.str z tk) ((PySem.strKind P w).hash z)) Q E s := by
  obtain ⟨ob, ms, ep, tb, here, ex, dt, gd, nd, mem, bd, ft, le, ri, ld⟩ := R
  have isz : (PySem.strKind P w).is z (.str z tk) = true := strKind_is P w z tk
  have scz : (Value.str z tk).scannable = true := rfl
  have els : ElemsOf (PySem.strKind P w) ms.toList := tx_elems gd
  unfold setAddHashed setAddHashedIn
  refine wpAny_holding (wpAny_bind (wpAny_setState_of here dt ft ?_))
  dsimp only
  rw [byScan_of scz bd els]
  simp only [↓reduceIte]
  unfold setAddByScan
  refine wpAny_bind ?_
  refine wpAny_bind (wpAny_rule ?_)
  refine wpAny_bind (wpAny_setScan_of isz here dt ft els ?_)
  cases hfi : List.findIdx? (fun m => (PySem.strKind P w).is z m.2) ms.toList with
  | some j =>
    dsimp only
    obtain ⟨hj, pj, _⟩ := List.findIdx?_eq_some_iff_getElem.mp hfi
    have inL : z ∈ L := (mem z).2 ((tx_mem (P := P) (w := w) gd z).2 ⟨ms.toList[j], List.getElem_mem hj, pj⟩)
    refine wpAny_pure (wpAny_pure ?_)
    refine hQ s.heap _ (Heap.SameBut.refl a s.heap) ⟨ob, ms, ep, tb, here, ex, dt, gd, nd, fun y => ?_, bd, ft, by rw [List.length_append]; omega, ri, ld⟩
    rw [← mem y, List.mem_append, List.mem_singleton]
    exact ⟨fun q => q.elim id fun e => e ▸ inL, .inl⟩
  | none =>
    dsimp only
    have notIn : z ∉ ms.toList.map txE := by
      intro q
      obtain ⟨m, hm, q⟩ := (tx_mem (P := P) (w := w) gd z).1 q
      have c := List.findIdx?_eq_none_iff.mp hfi m hm
      rw [q] at c
      cases c
    have way : ∀ (b : Bool) {s₁ : Shared} {Q' : Unit → Shared → Prop}, Q' () s₁ → wpAny (model P w) A (match b with | true => rule "set.scan.the-table-gave-way" | false => pure ()) Q' E s₁ := by
      intro b s₁ Q' q
      cases b
      · exact wpAny_pure q
      · exact wpAny_rule q
    have perm1 := layNew_perm tb ms ((PySem.strKind P w).hash z) (.str z tk)
    have ft1 := layNew_fits tb ms ((PySem.strKind P w).hash z) (.str z tk)
    have ri1 := layNew_ris tb ms ((PySem.strKind P w).hash z) (.str z tk) ri
    have ld1 := layNew_led tb ms ((PySem.strKind P w).hash z) (.str z tk)
    generalize layNew tb ms ((PySem.strKind P w).hash z) (.str z tk) = laid at perm1 ft1 ri1 ld1 ⊢
    obtain ⟨ms1, tb1, dummy, gave⟩ := laid
    dsimp only at perm1 ft1 ri1 ld1 ⊢
    rw [Array.toList_push] at perm1
    have permC : ms1.toList.Perm (((PySem.strKind P w).hash z, Value.str z tk) :: ms.toList) := perm1.trans (List.perm_append_singleton _ _)
    have permK : (ms1.toList.map txE).Perm (z :: ms.toList.map txE) := permC.map txE
    have g1 : ∀ m ∈ ms1.toList, TxE P w m := by
      intro m hm
      rcases List.mem_cons.mp (permC.mem_iff.mp hm) with q | q
      · rw [q]
        exact ⟨z, tk, rfl, rfl⟩
      · exact gd m q
    have nd1 : (ms1.toList.map txE).Nodup := permK.nodup_iff.mpr (List.nodup_cons.mpr ⟨notIn, nd⟩)
    have m1 : ∀ y, y ∈ L ++ [z] ↔ y ∈ ms1.toList.map txE := by
      intro y
      rw [List.mem_append, List.mem_singleton, mem y, permK.mem_iff, List.mem_cons]
      exact Or.comm
    have sz1 : ms1.size = ms.size + 1 := by rw [← Array.length_toList, permC.length_eq, List.length_cons, Array.length_toList]
    have bd1 : ms1.size < scanBound := by omega
    have le1 : ms1.size ≤ (L ++ [z]).length := by rw [List.length_append, List.length_singleton]; omega
    have led1 : w.params.followText "set-order" = true ∨ tb1.led = true := ld.imp id fun q => by rw [ld1]; exact q
    refine wpAny_bind (way _ ?_)
    split
    · refine wpAny_bind ?_
      rw [hashByValue_scannable 8 scz]
      refine wpAny_pure ?_
      refine setX_tail ?_ here ex dt g1 nd1 m1 bd1 ?_ le1 ?_ ?_ ?_
      · intro b s₁ Q' q
        cases b <;> first | exact wpAny_pure q | exact wpAny_rule q
      · first | (split <;> first | exact ft1 | exact SetTable.fits_plain_off ft1) | exact ft1
      · first | (split <;> exact ri1) | exact ri1
      · first | (split <;> exact led1) | exact led1
      · intro h' sb r
        dsimp only
        exact wpAny_pure (hQ h' _ sb r)
    · refine wpAny_bind (wpAny_pure ?_)
      simp only [↓reduceIte]
      refine setX_tail ?_ here ex dt g1 nd1 m1 bd1 ft1 le1 ri1 led1 ?_
      · intro b s₁ Q' q
        cases b <;> first | exact wpAny_pure q | exact wpAny_rule q
      · intro h' sb r
        dsimp only
        exact wpAny_pure (hQ h' _ sb r)
end
/-- the texts of a list of values, by place -/
theorem texts_at : ∀ {us : List Value} {xs : List Str}, StrsAre us xs → ∀ (i : Nat) (v : Value), us[i]? = some v → ∃ x t, xs[i]? = some x ∧ v = .str x t
  | _, _, .nil, i, v, h => by cases h
  | _, _, .cons n t r, 0, v, h => by
    cases h
    exact ⟨n, t, rfl, rfl⟩
  | _, _, .cons n t r, i + 1, v, h => texts_at r i v h
section
variable {prog : Program} {w : World} {A : Around} {R : Result → Shared → Prop} {I : Addr} {fp wr : List Addr} {G : Array GenState → Array GenState → Prop} {n : Nat} {P : Nat → Value → Prop} {St : Nat → Shared → Prop}
/-- all texts of an iterator put into the set at S -/
theorem setX_loop (W : WalksS prog w A.in1 I fp wr G n P St) (S : Addr) (off : S ∉ fp) (xs : List Str) (len : xs.length = n) (few : n + 1 < scanBound)
    (val : ∀ i v, P i v → ∃ x t, xs[i]? = some x ∧ v = .str x t) : ∀ (k i : Nat) (s : Shared), n - i = k → i ≤ n → St i s → SetX prog w s.heap S (xs.take i) →
      (∀ s', Moved (S :: wr) G s s' → SetX prog w s'.heap S xs → R (.ok (.ret .none)) s') →
      codeAny (model prog w) A (.builtin "set.update.loop" ⟨[.ref S, .ref I], []⟩) R s := by
  have offW : S ∉ wr := fun z => off (W.sub _ z)
  have sub : ∀ b ∈ wr, b ∈ S :: wr := fun b hb => List.mem_cons_of_mem _ hb
  intro k
  induction k with
  | zero =>
    intro i s hk hi st hS hR
    obtain rfl : i = n := by omega
    rw [← len, List.take_length] at hS
    refine codeAny_builtin PyProof.Rows.F.entry_set_update_loop ?_
    rw [Around.under_plainId PyProof.Rows.F.plain_set_update_loop _]
    show wpAny _ A.in1 (pyNext (.ref I) >>= _) _ _ s
    refine wpAny_bind (W.done s _ _ st fun s' mv => ?_)
    show wpAny _ A.in1 (ret Value.none) _ _ s'
    exact wpAny_pure (hR s' (mv.mono sub) (hS.at fun o e => mv.heap S _ offW e))
  | succ k ih =>
    intro i s hk hi st hS hR
    have lt : i < n := by omega
    refine codeAny_builtin PyProof.Rows.F.entry_set_update_loop ?_
    rw [Around.under_plainId PyProof.Rows.F.plain_set_update_loop _]
    show wpAny _ A.in1 (pyNext (.ref I) >>= _) _ _ s
    refine wpAny_bind (W.item i s _ _ lt st fun v s' hP st' mv => ?_)
    obtain ⟨x, t, hx, rfl⟩ := val i v hP
    have hS' : SetX prog w s'.heap S (xs.take i) := hS.at fun o e => mv.heap S _ offW e
    show wpAny _ A.in1 (holding [Value.str x t] (setAdd S (.str x t)) >>= _) _ _ s'
    refine wpAny_bind (wpAny_holding ?_)
    unfold setAdd
    refine wpAny_holding ?_
    refine wpAny_bind ((PySem.strKind prog w).pyHash (k := x) (strKind_is _ _ _ _) ?_)
    refine setX_add (s := { s' with toks := s'.toks + 1 }) hS' (by rw [List.length_take]; omega) fun h' b sb hS2 => ?_
    have hS3 : SetX prog w h' S (xs.take (i + 1)) := by
      have e : xs.take (i + 1) = xs.take i ++ [x] := by rw [List.take_add_one, hx]; rfl
      rw [e]
      exact hS2
    refine wpAny_pure ⟨plainId_quiet PyProof.Rows.F.plain_set_update_loop _, ih (i + 1) _ (by omega) lt (W.frame _ s' _ _ st' (Nat.le_succ _) fun b hb o e => ?_) hS3 fun s'' mv2 hS4 => ?_⟩
    · rw [sb.2 b (fun z : b = S => off (z ▸ hb))]
      exact e
    · refine hR s'' (Moved.trans W.gtrans ((mv.mono sub).then_heap (Nat.le_succ _) fun b o hb e => ?_) mv2) hS4
      rw [sb.2 b (fun z : b = S => hb (by rw [z]; exact List.mem_cons_self))]
      exact e
end
section
variable {P : Program} {w : World} {A : Around} {E : Value → Shared → Prop} {s : Shared}
theorem code_setX {x : Value} {Q₁ : Value → Shared → Prop}
    (h : Q₁ (.ref s.heap.objs.size) { s with heap := s.heap.push { cls := .type "set", dict := none, data := .set #[] 0 (.fresh 0 0 (!w.params.followText "set-order")) } }) :
    codeAny (model P w) A (.call (.builtin "set.__new__") ⟨[.type "set", x], []⟩) (wants Q₁ E) s := by
  refine codeAny_of_tree ?_
  show wpAny _ A.in1 (do checkBuiltinCall "set.__new__" ⟨[.type "set", x], []⟩; again (.builtin "set.__new__" ⟨[.type "set", x], []⟩)) _ _ s
  refine wpAny_bind (wpAny_of_eq (PySem.F.newCall_set_1 x) (wpAny_pure ⟨plainId_quiet F.plain_set_new _, codeAny_builtin F.entry_set_new ?_⟩))
  rw [Around.under_plainId F.plain_set_new _]
  unfold Builtin.«set.__new__» Builtin.Frozenset.newClass
  have hsub := sub_set_self
  obtain ⟨hp, g, d, tk, os⟩ := s
  dsimp only
  wp_walk
  refine wpAny_askSetting (wpAny_pure ?_)
  dsimp only
  simp only [newObj]
  exact wpAny_bind (wpAny_alloc (wpAny_pure (wpAny_pure h)))
theorem setX_fresh {h : Heap} : SetX P w (h.push { cls := .type "set", dict := none, data := .set #[] 0 (.fresh 0 0 (!w.params.followText "set-order")) }) h.objs.size [] := by
  refine ⟨_, #[], 0, _, Heap.get?_push_size _ rfl, ⟨rfl, rfl, rfl⟩, rfl, (fun m hm => by simp at hm), (by simp), (fun z => by simp), (by decide), (by rfl), (Nat.zero_le _), List.Pairwise.nil, ?_⟩
  show _ ∨ (!w.params.followText "set-order") = true
  cases w.params.followText "set-order"
  · exact .inr rfl
  · exact .inl rfl
set_option maxHeartbeats 6400000 in
/-- set(list of texts) -/
theorem call_setX {l : Addr} {items : Array Value} {xs : List Str} {Q : Value → Shared → Prop} (hh : A.handled = none) (hl : s.heap.IsList l items) (hi : StrsAre items.toList xs) (few : xs.length + 1 < scanBound)
    (h : ∀ (h' : Heap) (tk : Nat), SetX P w h' s.heap.objs.size xs → (∀ b o, b < s.heap.objs.size → s.heap.get? b = some o → h'.get? b = some o) → Q (.ref s.heap.objs.size) { s with heap := h', toks := tk }) :
    wpAny (model P w) A (call (.type "set") [.ref l]) Q E s := by
  obtain ⟨c, tl, hmro⟩ := PySem.F.called_set.mro
  have hmade := PySem.F.called_set.made
  have hsub := PySem.F.called_set.sub
  refine wpAny_call (codeAny_of_tree ?_)
  show wpAny _ _ (callAny (.type "set") _) _ _ _
  refine wpAny_pure ⟨Code.quiet_builtin _ (by decide +kernel), codeAny_builtin PySem.F.entry_type_call ?_⟩
  rw [Around.under_plain (weight_type_call_type "set" [.ref l] []) rfl]
  have h1 := PySem.F.called_set.notType
  have h2 := PySem.F.called_set.canCreate
  have hct := PySem.F.typeCall_set_1 (.ref l)
  repeat (any_goals (first | assumption | wp_step))
  have R0 : SetX P w (s.heap.push { cls := .type "set", dict := none, data := .set #[] 0 (.fresh 0 0 (!w.params.followText "set-order")) }) s.heap.objs.size [] := setX_fresh
  refine codeAny_mono (code_setX (x := .ref l) (E := E) (Q₁ := fun obj s₁ => obj = .ref s.heap.objs.size ∧ s₁ = { s with heap := s.heap.push { cls := .type "set", dict := none, data := .set #[] 0 (.fresh 0 0 (!w.params.followText "set-order")) } }) ⟨rfl, rfl⟩) fun r s₁ hr => ?_
  have hS : (s.heap.push { cls := .type "set", dict := none, data := .set #[] 0 (.fresh 0 0 (!w.params.followText "set-order")) }).get? s.heap.objs.size = some { cls := .type "set", dict := none, data := .set #[] 0 (.fresh 0 0 (!w.params.followText "set-order")) } := Heap.get?_push_size _ rfl
  cases r with
  | error e => exact hr
  | ok fl =>
    cases fl with
    | ret obj =>
      obtain ⟨rfl, rfl⟩ := hr
      have hT : Shared.TypeIs { s with heap := s.heap.push ({ cls := .type "set", dict := none, data := .set #[] 0 (.fresh 0 0 (!w.params.followText "set-order")) } : Obj) } (.ref s.heap.objs.size) "set" := ⟨_, hS, rfl⟩
      have hli := PySem.F.called_set.init.lookup
      have hbi := PySem.F.called_set.init.bind (.ref s.heap.objs.size)
      repeat (any_goals (first | assumption | wp_step))
      refine codeAny_mono (codeAny_call_builtin (R := wants (fun r s₂ => r = .none ∧ ∃ h' tk, s₂ = { s with heap := h', toks := tk } ∧ SetX P w h' s.heap.objs.size xs ∧
          (∀ b o, b < s.heap.objs.size → s.heap.get? b = some o → h'.get? b = some o)) E) PySem.F.called_set.init.plain PySem.F.entry_set_init (check_set_init_1 hT ?_)) fun r₂ s₂ hr₂ => ?_
      · obtain ⟨ol, hol, hcl, nl, hdl⟩ := hl
        obtain ⟨ocls, odict, odata, oslots⟩ := ol
        simp only at hcl hdl
        subst hcl; subst hdl
        have hol' : (s.heap.push ({ cls := .type "set", dict := none, data := .set #[] 0 (.fresh 0 0 (!w.params.followText "set-order")) } : Obj)).get? l = some { cls := .type "list", dict := odict, data := .seq items nl, slots := oslots } := Heap.get?_push_of_some _ hol
        have hsls := PySem.F.sub_list_set
        have hslf := PySem.F.sub_list_frozenset
        have hne : (Value.type "list" == Value.type "dict") = false := by decide
        have hl1 : (s.heap.push ({ cls := .type "set", dict := none, data := .set #[] 0 (.fresh 0 0 (!w.params.followText "set-order")) } : Obj)).IsList l items := ⟨_, hol', rfl, nl, rfl⟩
        unfold Builtin.«set.__init__» noKeywords Builtin.Frozenset.updateFrom
        generalize hPI : pyIter = PI
        wp_walk
        subst hPI
        refine wpAny_pyIter_list hl1 ?_
        refine wpAny_bind (wpAny_runValue ?_)
        have hlS : l < s.heap.objs.size := Heap.lt_size hol
        have hh3 : A.in1.in1.in1.handled = none := by simp [hh]
        have szp : (s.heap.push ({ cls := .type "set", dict := none, data := .set #[] 0 (.fresh 0 0 (!w.params.followText "set-order")) } : Obj)).objs.size = s.heap.objs.size + 1 := Heap.size_push _ _
        have hneI : l ≠ (s.heap.push ({ cls := .type "set", dict := none, data := .set #[] 0 (.fresh 0 0 (!w.params.followText "set-order")) } : Obj)).objs.size := by rw [szp]; exact Nat.ne_of_lt (Nat.lt_succ_of_lt hlS)
        have hSf : s.heap.objs.size ∉ [(s.heap.push ({ cls := .type "set", dict := none, data := .set #[] 0 (.fresh 0 0 (!w.params.followText "set-order")) } : Obj)).objs.size, l] := by
          rw [szp]
          simp only [List.mem_cons, List.not_mem_nil, or_false, not_or]
          exact ⟨Nat.ne_of_lt (Nat.lt_succ_self _), Nat.ne_of_gt hlS⟩
        have hsz : xs.length = items.size := by rw [← StrsAre.len_eq hi, Array.length_toList]
        refine setX_loop ((Walks.list hh3 _ l hneI items).toS) s.heap.objs.size hSf xs hsz (by rw [← hsz]; exact few) (fun i v hv => texts_at hi i v (by rw [Array.getElem?_toList]; exact hv))
          (items.size - 0) 0 _ (by omega) (Nat.zero_le _) ⟨⟨_, Heap.get?_push_size _ rfl, rfl, rfl⟩, (hl1.push _)⟩ ?hS0 ?hR
        case hS0 => exact R0.at fun o e => Heap.get?_push_of_some _ e
        case hR =>
          intro s' hm hS'
          obtain ⟨h', g', d', tk', os'⟩ := s'
          obtain rfl : g' = s.gens := hm.gens
          obtain rfl : d' = s.drawn := hm.drawn
          obtain rfl : os' = s.os := hm.os
          show wpAny _ _ _ _ _ _
          refine wpAny_pure ?_
          show wpAny _ _ (ret Value.none) _ _ _
          refine wpAny_pure ⟨rfl, h', tk', rfl, hS', fun b o hb e => hm.heap b o ?_ (Heap.get?_push_of_some _ (Heap.get?_push_of_some _ e))⟩
          rw [szp]
          simp only [List.mem_cons, List.not_mem_nil, or_false, not_or]
          exact ⟨Nat.ne_of_lt hb, Nat.ne_of_lt (Nat.lt_succ_of_lt hb)⟩
      · cases r₂ with
        | error e => exact hr₂
        | ok fl₂ =>
          cases fl₂ with
          | ret r =>
            obtain ⟨rfl, h', tk, rfl, hS', hk'⟩ := hr₂
            repeat (any_goals (first | assumption | wp_step))
            exact h _ _ hS' hk'
          | _ => exact hr₂.elim
    | _ => exact hr.elim
theorem strs_of : ∀ (l : List Value), (∀ v ∈ l, ∃ z tk, v = Value.str z tk) → ∃ xs, StrsAre l xs ∧ xs = l.map fun v => txE (0, v)
  | [], _ => ⟨[], .nil, rfl⟩
  | v :: l, h => by
    obtain ⟨z, tk, rfl⟩ := h v List.mem_cons_self
    obtain ⟨xs, h1, rfl⟩ := strs_of l fun u hu => h u (List.mem_cons_of_mem _ hu)
    exact ⟨_, .cons z tk h1, rfl⟩
/-- sorted(set of texts) -/
theorem sorted_setX {a : Addr} {L : List Str} {Q : Value → Shared → Prop} (R : SetX P w s.heap a L) (hh : A.handled = none)
    (hQ : ∀ s' p (out : Array Value) (c : Nat) (ys : List Str), (∀ b o, s.heap.get? b = some o → s'.heap.get? b = some o) → s'.gens = s.gens → s'.os = s.os → s.heap.objs.size ≤ p →
      s'.heap.get? p = some (seqObj "list" out c) → StrsAre out.toList ys → sortedS ys = true → ys.Nodup → (∀ z, z ∈ ys ↔ z ∈ L) → Q (.ref p) s') :
    wpAny (model P w) A (call (.builtin "sorted") [.ref a]) Q E s := by
  obtain ⟨ob, ms, ep, tb, here, ex, dt, gd, nd, mem, bd, ft, le, ri, ld⟩ := R
  refine Calls.call_function_entry kind_sorted plain_sorted entry_sorted (args_sorted1 _) ?_
  unfold Builtin.«sorted»
  refine wpAny_bind (m := checkCount "sorted" 1 1 _) (wpAny_pure ?_)
  refine wpAny_bind (collect_set (A := A.in1) hh ⟨ob, here, ex.1, dt⟩ ft bd ri ld fun s1 vs k1 hz g1 o1 pm => ?_)
  have lenV : vs.length = ms.size := by rw [pm.length_eq, List.length_map, Array.length_toList]
  obtain ⟨xs, hS, exs⟩ := strs_of vs fun v hv => by
    obtain ⟨m, hm, q⟩ := List.mem_map.mp (pm.mem_iff.mp hv)
    obtain ⟨z, tk, e1, _⟩ := gd m hm
    exact ⟨z, tk, by rw [← q]; exact e1⟩
  have permX : xs.Perm (ms.toList.map txE) := by
    have q := pm.map fun v => txE (0, v)
    rw [List.map_map] at q
    rw [exs]
    exact q
  have lineV : vs.length ≤ sizeLine := by rw [lenV]; exact fits_of_scanBound bd
  refine wpAny_bind (wpAny_newList ?_ lineV)
  have hoL : (s1.heap.push (seqObj "list" vs.toArray 0)).get? s1.heap.objs.size = some (seqObj "list" vs.toArray 0) := Heap.get?_push_size _ rfl
  refine wpAny_bind (wpAny_holding (wpAny_call_entry slot_list_sort ⟨_, hoL, rfl⟩ entry_list_sort
    (list_sort_treeKAny strKind_oneLt (s := { s1 with heap := s1.heap.push (seqObj "list" vs.toArray 0) }) hoL hS.keysOf (fun v₁ v₂ rest e => keyKind_strs (by rw [← e]; exact hS)) lineV fun st' hp hs => ⟨_, rfl, ?_⟩) (args_list_sort _)))
  obtain ⟨ys, y1, y2, y3⟩ := sorted_out_str hS hp hs
  obtain ⟨c, hc⟩ := sortedHeap_at (vs := vs) (out := (arrOf st').map (·.2)) hoL
  have permY : ys.Perm (ms.toList.map txE) := y2.trans permX
  refine wpAny_pure ⟨_, rfl, hQ _ s1.heap.objs.size ((arrOf st').map (·.2)) c ys (fun b u e => ?_) g1 o1 hz hc y1 y3 (permY.nodup_iff.mpr nd) fun z => by rw [permY.mem_iff, ← mem z]⟩
  have q := k1 b u e
  have lt := Heap.lt_size q
  show (sortedHeap (s1.heap.push (seqObj "list" vs.toArray 0)) s1.heap.objs.size vs ((arrOf st').map (·.2))).get? b = some u
  rw [sortedHeap_old (Nat.ne_of_lt lt) (by rw [size_push']; exact Nat.lt_succ_of_lt lt)]
  exact Heap.get?_push_of_some _ q
end
/-- the set of the texts of L at a -/
def SetO' (P : Program) (w : World) (a : Addr) (L : List Str) : HO := .ext fun h => SetX P w h a L
section
variable {X : Cx}
def rSetX (K : PySem.W.Frag) (P : Program) (w : World) : List V → Hp → VK → Prop := fun vs H Q => ∃ (l : Addr) (xs : List Str), vs = [V.ref l] ∧ SqL K H l (xs.map V.str) ∧ xs.length ≤ 1000 ∧ ∀ p, H p = none → Q (.ref p) (upd H p (SetO' P w p xs))
theorem cr_setX (hc : X.calm = true) : CallR X (.type "set") (rSetX X.K X.prog X.w) := by
  intro pins s σ H vs us Q I r h
  obtain ⟨l, xs, rfl, hq, few, q⟩ := h
  rw [Vals.ref1 r]
  obtain ⟨its, rv, pl, hz⟩ := I.list hq
  refine call_setX (I.ok.hd hc) pl.isList (by simpa using rv.strs) (Nat.lt_of_le_of_lt (Nat.succ_le_succ few) (by decide)) fun h' tk hS hk => ?_
  have kp : ∀ b o, s.heap.get? b = some o → h'.get? b = some o := fun b o e => hk b o (Heap.lt_size e) e
  obtain ⟨ob, ms, ep, tb, here, more⟩ := id hS
  exact ⟨.ref s.heap.objs.size, _, I.laid (t' := tk) kp (Nat.le_refl _) (show ObjOk X.prog X.w _ h' _ (SetO' X.prog X.w s.heap.objs.size xs) from ⟨hS, ⟨ob, here⟩, fun h1 h2 p k => SetX.at p k⟩), rfl, q _ (I.hok.fresh (Nat.le_refl _))⟩
def rSortedX (P : Program) (w : World) : List V → Hp → VK → Prop := fun vs H Q => ∃ (a : Addr) (L : List Str), vs = [V.ref a] ∧ H a = some (SetO' P w a L) ∧ L.length ≤ 1000 ∧
  ∀ (ys : List Str) (p : Addr), sortedS ys = true → ys.Nodup → (∀ z, z ∈ ys ↔ z ∈ L) → H p = none → Q (.ref p) (upd H p (.lst (ys.map V.str)))
theorem vals_texts : ∀ {us : List Value} {xs : List Str}, StrsAre us xs → Vals (xs.map V.str) us
  | _, _, .nil => .nil
  | _, _, .cons n t r => .cons ⟨t, rfl⟩ (vals_texts r)
theorem cr_sortedX (hc : X.calm = true) : CallR X (.builtin "sorted") (rSortedX X.prog X.w) := by
  intro pins s σ H vs us Q I r h
  obtain ⟨a, L, rfl, ha, few, q⟩ := h
  rw [Vals.ref1 r]
  have hX : SetX X.prog X.w s.heap a L := (I.hok a _ ha).1
  refine sorted_setX hX (I.ok.hd hc) fun s' p out c ys k g o hp hg hi hs nd hm => ?_
  have lt : ys.length ≤ L.length := List.Nodup.length_le_of_subset nd fun z hz => (hm z).1 hz
  have hlen : (ys.map V.str).length ≤ sizeLine := by rw [List.length_map]; exact Nat.le_trans (Nat.le_trans lt few) (by decide)
  have hn : H p = none := I.hok.fresh hp
  have J : Inv X pins σ (upd H p (.lst (ys.map V.str))) { s with heap := s'.heap, gens := s'.gens, drawn := s'.drawn, toks := s'.toks } :=
    I.call (ch := []) (Un.laid k hp hn) (I.hok.laid k hp ⟨hlen, out.toList, c, vals_texts hi, hg⟩) (by rw [g]; exact I.bare) (fun _ z => nomatch z)
  obtain ⟨h', g', d', t', o'⟩ := s'
  obtain rfl : o' = s.os := o
  exact ⟨.ref p, _, J, rfl, q ys p hs nd hm hn⟩
end
end Gx
set_option maxRecDepth 100000
set_option maxHeartbeats 4000000
namespace Gx
open PySem PySem.Spec PyProof.Rows L2
section
variable {P : Program} {w : World} {A : Around} {s : Shared} {E : Value → Shared → Prop}
theorem call_setXT {l : Addr} {items : Array Value} {xs : List Str} {Q : Value → Shared → Prop} (hh : A.handled = none) (hl : s.heap.IsTuple l items) (hi : StrsAre items.toList xs) (few : xs.length + 1 < scanBound)
    (h : ∀ (h' : Heap) (tk : Nat), SetX P w h' s.heap.objs.size xs → (∀ b o, b < s.heap.objs.size → s.heap.get? b = some o → h'.get? b = some o) → Q (.ref s.heap.objs.size) { s with heap := h', toks := tk }) :
    wpAny (model P w) A (call (.type "set") [.ref l]) Q E s := by
  obtain ⟨c, tl, hmro⟩ := PySem.F.called_set.mro
  have hmade := PySem.F.called_set.made
  have hsub := PySem.F.called_set.sub
  refine wpAny_call (codeAny_of_tree ?_)
  show wpAny _ _ (callAny (.type "set") _) _ _ _
  refine wpAny_pure ⟨Code.quiet_builtin _ (by decide +kernel), codeAny_builtin PySem.F.entry_type_call ?_⟩
  rw [Around.under_plain (weight_type_call_type "set" [.ref l] []) rfl]
  have h1 := PySem.F.called_set.notType
  have h2 := PySem.F.called_set.canCreate
  have hct := PySem.F.typeCall_set_1 (.ref l)
  repeat (any_goals (first | assumption | wp_step))
  have R0 : SetX P w (s.heap.push { cls := .type "set", dict := none, data := .set #[] 0 (.fresh 0 0 (!w.params.followText "set-order")) }) s.heap.objs.size [] := setX_fresh
  refine codeAny_mono (code_setX (x := .ref l) (E := E) (Q₁ := fun obj s₁ => obj = .ref s.heap.objs.size ∧ s₁ = { s with heap := s.heap.push { cls := .type "set", dict := none, data := .set #[] 0 (.fresh 0 0 (!w.params.followText "set-order")) } }) ⟨rfl, rfl⟩) fun r s₁ hr => ?_
  have hS : (s.heap.push { cls := .type "set", dict := none, data := .set #[] 0 (.fresh 0 0 (!w.params.followText "set-order")) }).get? s.heap.objs.size = some { cls := .type "set", dict := none, data := .set #[] 0 (.fresh 0 0 (!w.params.followText "set-order")) } := Heap.get?_push_size _ rfl
  cases r with
  | error e => exact hr
  | ok fl =>
    cases fl with
    | ret obj =>
      obtain ⟨rfl, rfl⟩ := hr
      have hT : Shared.TypeIs { s with heap := s.heap.push ({ cls := .type "set", dict := none, data := .set #[] 0 (.fresh 0 0 (!w.params.followText "set-order")) } : Obj) } (.ref s.heap.objs.size) "set" := ⟨_, hS, rfl⟩
      have hli := PySem.F.called_set.init.lookup
      have hbi := PySem.F.called_set.init.bind (.ref s.heap.objs.size)
      repeat (any_goals (first | assumption | wp_step))
      refine codeAny_mono (codeAny_call_builtin (R := wants (fun r s₂ => r = .none ∧ ∃ h' tk, s₂ = { s with heap := h', toks := tk } ∧ SetX P w h' s.heap.objs.size xs ∧
          (∀ b o, b < s.heap.objs.size → s.heap.get? b = some o → h'.get? b = some o)) E) PySem.F.called_set.init.plain PySem.F.entry_set_init (check_set_init_1 hT ?_)) fun r₂ s₂ hr₂ => ?_
      · obtain ⟨ol, hol, hcl, nl, hdl⟩ := hl
        obtain ⟨ocls, odict, odata, oslots⟩ := ol
        simp only at hcl hdl
        subst hcl; subst hdl
        have hol' : (s.heap.push ({ cls := .type "set", dict := none, data := .set #[] 0 (.fresh 0 0 (!w.params.followText "set-order")) } : Obj)).get? l = some { cls := .type "tuple", dict := odict, data := .seq items nl, slots := oslots } := Heap.get?_push_of_some _ hol
        have hsls := PySem.F.sub_tuple_set
        have hslf := PySem.F.sub_tuple_frozenset
        have hne : (Value.type "tuple" == Value.type "dict") = false := by decide
        have hl1 : (s.heap.push ({ cls := .type "set", dict := none, data := .set #[] 0 (.fresh 0 0 (!w.params.followText "set-order")) } : Obj)).IsTuple l items := ⟨_, hol', rfl, nl, rfl⟩
        unfold Builtin.«set.__init__» noKeywords Builtin.Frozenset.updateFrom
        generalize hPI : pyIter = PI
        wp_walk
        subst hPI
        refine wpAny_pyIter_tuple hl1 ?_
        refine wpAny_bind (wpAny_runValue ?_)
        have hlS : l < s.heap.objs.size := Heap.lt_size hol
        have hh3 : A.in1.in1.in1.handled = none := by simp [hh]
        have szp : (s.heap.push ({ cls := .type "set", dict := none, data := .set #[] 0 (.fresh 0 0 (!w.params.followText "set-order")) } : Obj)).objs.size = s.heap.objs.size + 1 := Heap.size_push _ _
        have hneI : l ≠ (s.heap.push ({ cls := .type "set", dict := none, data := .set #[] 0 (.fresh 0 0 (!w.params.followText "set-order")) } : Obj)).objs.size := by rw [szp]; exact Nat.ne_of_lt (Nat.lt_succ_of_lt hlS)
        have hSf : s.heap.objs.size ∉ [(s.heap.push ({ cls := .type "set", dict := none, data := .set #[] 0 (.fresh 0 0 (!w.params.followText "set-order")) } : Obj)).objs.size, l] := by
          rw [szp]
          simp only [List.mem_cons, List.not_mem_nil, or_false, not_or]
          exact ⟨Nat.ne_of_lt (Nat.lt_succ_self _), Nat.ne_of_gt hlS⟩
        have hsz : xs.length = items.size := by rw [← StrsAre.len_eq hi, Array.length_toList]
        refine setX_loop ((Walks.tuple hh3 _ l hneI items).toS) s.heap.objs.size hSf xs hsz (by rw [← hsz]; exact few) (fun i v hv => texts_at hi i v (by rw [Array.getElem?_toList]; exact hv))
          (items.size - 0) 0 _ (by omega) (Nat.zero_le _) ⟨⟨_, Heap.get?_push_size _ rfl, rfl, rfl⟩, (hl1.push _)⟩ ?hS0 ?hR
        case hS0 => exact R0.at fun o e => Heap.get?_push_of_some _ e
        case hR =>
          intro s' hm hS'
          obtain ⟨h', g', d', tk', os'⟩ := s'
          obtain rfl : g' = s.gens := hm.gens
          obtain rfl : d' = s.drawn := hm.drawn
          obtain rfl : os' = s.os := hm.os
          show wpAny _ _ _ _ _ _
          refine wpAny_pure ?_
          show wpAny _ _ (ret Value.none) _ _ _
          refine wpAny_pure ⟨rfl, h', tk', rfl, hS', fun b o hb e => hm.heap b o ?_ (Heap.get?_push_of_some _ (Heap.get?_push_of_some _ e))⟩
          rw [szp]
          simp only [List.mem_cons, List.not_mem_nil, or_false, not_or]
          exact ⟨Nat.ne_of_lt hb, Nat.ne_of_lt (Nat.lt_succ_of_lt hb)⟩
      · cases r₂ with
        | error e => exact hr₂
        | ok fl₂ =>
          cases fl₂ with
          | ret r =>
            obtain ⟨rfl, h', tk, rfl, hS', hk'⟩ := hr₂
            repeat (any_goals (first | assumption | wp_step))
            exact h _ _ hS' hk'
          | _ => exact hr₂.elim
    | _ => exact hr.elim
end
section
variable {X : Cx}
def rSetXT (K : PySem.W.Frag) (P : Program) (w : World) : List V → Hp → VK → Prop := fun vs H Q => ∃ (l : Addr) (xs : List Str), vs = [V.ref l] ∧ SqT K H l (xs.map V.str) ∧ xs.length ≤ 1000 ∧ ∀ p, H p = none → Q (.ref p) (upd H p (SetO' P w p xs))
theorem cr_setXT (hc : X.calm = true) : CallR X (.type "set") (rSetXT X.K X.prog X.w) := by
  intro pins s σ H vs us Q I r h
  obtain ⟨l, xs, rfl, hq, few, q⟩ := h
  rw [Vals.ref1 r]
  obtain ⟨its, rv, pl, hz⟩ := I.tuple hq
  refine call_setXT (I.ok.hd hc) (show s.heap.IsTuple l its.toArray from pl) (by simpa using rv.strs) (Nat.lt_of_le_of_lt (Nat.succ_le_succ few) (by decide)) fun h' tk hS hk => ?_
  have kp : ∀ b o, s.heap.get? b = some o → h'.get? b = some o := fun b o e => hk b o (Heap.lt_size e) e
  obtain ⟨ob, ms, ep, tb, here, more⟩ := id hS
  exact ⟨.ref s.heap.objs.size, _, I.laid (t' := tk) kp (Nat.le_refl _) (show ObjOk X.prog X.w _ h' _ (SetO' X.prog X.w s.heap.objs.size xs) from ⟨hS, ⟨ob, here⟩, fun h1 h2 p k => SetX.at p k⟩), rfl, q _ (I.hok.fresh (Nat.le_refl _))⟩
end
end Gx
set_option maxRecDepth 100000
set_option maxHeartbeats 4000000
namespace Gx
open PySem PySem.Spec PyProof.Rows L2
section
variable {X : Cx}
/-- the signs of a text, a text each -/
def signV (x : Str) : List V := x.cps.toList.map fun c => V.str ⟨#[c]⟩
end
/-- the def st stands at the top under its name -/
def Def (K : PySem.W.Frag) (mg : Str → Option Value) (x qual : Str) (st : Stmt) (ps : List Str) : Prop :=
  ∃ (f : Addr) (fd : FuncData), Fun K x qual st f fd ∧ Binds K fd ps [] ∧ mg x = some (.ref f)
/-- the name x is a def that keeps the promise sp, by at most level k -/
def Cal (P : Program) (w : World) (K : PySem.W.Frag) (mg : Str → Option Value) (base : Heap) (k : Nat) (x : Str) (ps : List Str) (sp : Sp) : Prop :=
  ∃ (f : Addr) (fd : FuncData), FnOk P w K mg base CX0 k f fd ps sp ∧ PySem.W.keepIn K (.ref f) = true ∧ Binds K fd ps [] ∧ mg x = some (.ref f)
section
variable {P : Program} {w : World} {K : PySem.W.Frag} {mg : Str → Option Value} {base : Heap}
theorem Cal.mono {j k : Nat} {x : Str} {ps : List Str} {sp : Sp} (c : Cal P w K mg base j x ps sp) (h : j ≤ k) : Cal P w K mg base k x ps sp := by
  obtain ⟨f, fd, F, kp, b, g⟩ := c
  exact ⟨f, fd, F.mono h, kp, b, g⟩
theorem Cal.imp {k : Nat} {x : Str} {ps : List Str} {sp sp' : Sp} (c : Cal P w K mg base k x ps sp) (h : ∀ vs H Q E, sp' vs H Q E → sp vs H Q E) : Cal P w K mg base k x ps sp' := by
  obtain ⟨f, fd, F, kp, b, g⟩ := c
  exact ⟨f, fd, F.imp h, kp, b, g⟩
theorem Def.cal {x qual : Str} {st : Stmt} {ps : List Str} (d : Def K mg x qual st ps) {k : Nat} {sp : Sp} (h : ∀ f fd, Fun K x qual st f fd → FnOk P w K mg base CX0 k f fd ps sp) : Cal P w K mg base k x ps sp := by
  obtain ⟨f, fd, F, b, g⟩ := d
  exact ⟨f, fd, h f fd F, F.kp, b, g⟩
end
section
variable {X : Cx}
/-- f(..), without the empty list of defaults -/
def tCl (sp : Sp) (t : TA) : TE := fun σ H Q => t σ H fun vs H1 => sp vs H1 Q E0
theorem tCl_eq (sp : Sp) (t : TA) : tCall sp [] E0 t = tCl sp t := by
  funext σ H Q
  show t σ H _ = t σ H _
  congr 1
  funext vs H1
  rw [List.append_nil]
theorem pe_cal {x : Str} {ps : List Str} {sp : Sp} {k : Nat} {e : Expr} {es : List Expr} {t : TA} {p pos : Pos} (c : Cal X.prog X.w X.K X.mg X.base k x ps sp) (hr : Room k X.A) (hg : Gl X x) (h : PA X (e :: es) t)
    (hdb : (x == ("__debug__" : Str)) = false := by decide) (he : starEach (e :: es) X.env = (false, eval e X.env) :: starEach es X.env := by rfl) (hpl : (backTo pos (starEach es X.env)).any (·.1) = false := by rfl) :
    PE X (.Call (.Name x p) (e :: es) [] pos) (tCl sp t) := by
  obtain ⟨f, fd, F, kp, b, g⟩ := c
  rw [← tCl_eq]
  exact pe_call F hr hg g kp b .nil pass0 h hdb he hpl
end
/-- a statement, then the rest, with a word between them: what follows is shown once -/
def tCut (t u : TS) : TS := fun D σ H => ∃ Mid : L2.St → Hp → Prop, t { D with nx := Mid } σ H ∧ ∀ σ' H', Mid σ' H' → u D σ' H'
section
variable {X : Cx}
theorem pss_cut {st : Stmt} {rest : List Stmt} {t u : TS} (h1 : PS X st t) (h2 : PSs X rest u) : PSs X (st :: rest) (tCut t u) := by
  refine ⟨fun pins s σ H D I h => ?_⟩
  obtain ⟨Mid, hm, hu⟩ := h
  refine wpAny_execs_cons (thn (h1.run pins s σ H { D with nx := Mid } I hm) fun f s1 q => ?_)
  cases f with
  | next =>
    obtain ⟨σ', H', I', q⟩ := q
    exact h2.run pins s1 σ' H' D I' (hu σ' H' q)
  | ret v => exact q
  | brk => exact q
  | cont => exact q
end
theorem sqL_ne {K : PySem.W.Frag} {H : Hp} {a d : Addr} {o : HO} {xs : List V} (n : a ≠ d) (h : SqL K H a xs) : SqL K (upd H d o) a xs := by
  rcases h with (h | ⟨u, h⟩) | h
  · exact .inl (.inl (by rw [upd_ne n]; exact h))
  · exact .inl (.inr ⟨u, by rw [upd_ne n]; exact h⟩)
  · exact .inr h
theorem sqT_ne {K : PySem.W.Frag} {H : Hp} {a d : Addr} {o : HO} {xs : List V} (n : a ≠ d) (h : SqT K H a xs) : SqT K (upd H d o) a xs := by
  rcases h with (h | ⟨u, h⟩) | h
  · exact .inl (.inl (by rw [upd_ne n]; exact h))
  · exact .inl (.inr ⟨u, by rw [upd_ne n]; exact h⟩)
  · exact .inr h
theorem atI_int {α : Type} {xs : List α} {r : Int} (h0 : 0 ≤ r) (h1 : r < xs.length) : ∃ v, v ∈ xs ∧ atI xs r = some v := by
  obtain ⟨k, rfl⟩ := Int.eq_ofNat_of_zero_le h0
  have hk : k < xs.length := by omega
  exact ⟨xs[k], List.getElem_mem hk, atI_nat (List.getElem?_eq_getElem hk)⟩
theorem signV_len (z : Str) : (signV z).length = z.length := by
  unfold signV
  rw [List.length_map, Array.length_toList]
  rfl
/-- the three numbers of some dice -/
def DiceAt (H : Hp) (d : Addr) : Prop := ∃ x b c : Int, H d = some (.lst [.int x, .int b, .int c])
end Gx
set_option maxRecDepth 100000
set_option maxHeartbeats 4000000
namespace Gx
open PySem PySem.Spec PyProof.Rows L2
/-- no repr is under way -/
abbrev Gd (A : Around) : Prop := A.guards = some []
structure FnG (P : Program) (w : World) (K : PySem.W.Frag) (mg : Str → Option Value) (base : Heap) (CX : CXT) (k : Nat) (f : Addr) (fd : FuncData) (ps : List Str) (sp : Sp) : Prop where
  len : ∀ vs H Q E, sp vs H Q E → vs.length = ps.length
  run : ∀ (A : Around) (outer : List Env) (s : Shared) (H : Hp) (args : Args) (us : List Value) (vs : List V) (Q : VK) (E : XK),
    Gd A → Room k A → Env0 P w K mg base A outer s H → BindsTo s fd args (ps.zip us) → Vals vs us → sp vs H Q E →
      codeAny (model P w) A (.call (.ref f) args) (CR CX outer P w H s Q E) s
section
variable {P : Program} {w : World} {K : PySem.W.Frag} {mg : Str → Option Value} {base : Heap} {CX : CXT} {k : Nat} {f : Addr} {fd : FuncData} {ps : List Str} {sp : Sp}
theorem fnG_of (F : FnOk P w K mg base CX k f fd ps sp) : FnG P w K mg base CX k f fd ps sp := ⟨F.len, fun A outer s H args us vs Q E _ => F.run A outer s H args us vs Q E⟩
end
/-- a def by its body, where no repr is under way -/
theorem fnG_body {CX : CXT} {P : Program} {w : World} {K : PySem.W.Frag} {mg : Str → Option Value} {base : Heap} {k : Nat} {f : Addr} {nm ql : Str} {prm : Arguments} {bd : List Stmt} {sc : Scope}
    {dv kv dc pm cd ct oc : Value} {an od : Option Addr} {sl : Array (Option Value)} {N ps : List Str} {sp : Sp}
    (look : K.lookup f = some ⟨oc, od, .func (PySem.W.fnOf nm ql prm bd sc dv kv dc pm an cd ct), sl⟩) (hcode : PySem.W.codeIn K cd ql = true) (S : FnScope N ps sc)
    (hlen : ∀ vs H Q E, sp vs H Q E → vs.length = ps.length)
    (hb : ∀ (A : Around) (outer : List Env) (s : Shared) (H : Hp) (vs : List V) (Q : VK) (E : XK), Gd A → Room k (A.deeper (envOfC ql sc s.heap.objs.size f cd)) → sp vs H Q E →
      ∃ t, PSs (cxOf CX P w K mg base N ql sc f cd A outer s H E) bd t ∧ t { nx := fun _ H' => Q .non H', rt := Q } (start N vs) H) :
    FnG P w K mg base CX (k + 1) f (PySem.W.fnOf nm ql prm bd sc dv kv dc pm an cd ct) ps sp := by
  constructor
  · exact hlen
  · intro A outer s H args us vs Q E g room env bind rel want
    have inS : K.In s.heap := env.mod.kin.keeps fun b o e => (env.bs b o e).1
    have noLim : s.heap.NoLimit := env.mod.nolimit.keeps fun b o e => (env.bs b o e).1
    have kinds : ∀ y ∈ ps.zip us, sc.names.lookup y.1 = some .local ∨ (sc.names.lookup y.1 = some .cell ∧ ((cellsFrom (s.heap.objs.size + 1) sc.names []).lookup y.1).isSome = true) := by
      rintro ⟨n, v⟩ hy
      rcases S.par n (List.of_mem_zip hy).1 with q | q
      · exact Or.inl q
      · exact Or.inr ⟨q, PySem.W.cellsFrom_some _ _ _ (Or.inl q)⟩
    refine codeAny_call_function room.depth (inS _ _ look) rfl S.co S.gen rfl (PySem.W.codeRec_of inS hcode)
      (bind _ _ _ _ (wpAny_newFunctionEnv_cells S.kind kinds fun env' he s1 made => ?_))
    subst he
    refine ⟨noLim.keeps made.toInCall.keep, codeAny_func ?_⟩
    obtain ⟨t, ht, hq⟩ := hb A outer s H vs Q E g (room.deeper _) want
    have I0 := inv_start (CX := CX) (E := E) (N := N) S room.hd env (hlen _ _ _ _ want) rel made
    refine wpAny_mono (ht.run [] s1 (start N vs) H _ I0 hq) ?_ (fun e s' hs => hs)
    intro fl s' hs
    cases fl with
    | brk =>
      obtain ⟨_, _, _, no⟩ := hs
      exact no.elim
    | cont =>
      obtain ⟨_, _, _, no⟩ := hs
      exact no.elim
    | next =>
      obtain ⟨σ', H', J, q⟩ := hs
      exact ⟨V.non, H', J.os, J.bare, J.base, J.hok, rfl, q⟩
    | ret u =>
      obtain ⟨v, σ', H', J, rv, q⟩ := hs
      exact ⟨v, H', J.os, J.bare, J.base, J.hok, rv, q⟩
section
variable {P : Program} {w : World} {K : PySem.W.Frag} {mg : Str → Option Value} {base : Heap}
/-- .. of the text -/
theorem okG {x qual : Str} {st : Stmt} {f : Addr} {fd : FuncData} {N ps : List Str} {k : Nat} {sp : Sp} (F : Fun K x qual st f fd) (S : FnScope N ps (defScope st)) (hlen : ∀ vs H Q E, sp vs H Q E → vs.length = ps.length)
    (hb : ∀ (cdv : Value) (A : Around) (outer : List Env) (s : Shared) (H : Hp) (vs : List V) (Q : VK) (E : XK), Gd (A.deeper (envOfC qual (defScope st) s.heap.objs.size f cdv)) → Room k (A.deeper (envOfC qual (defScope st) s.heap.objs.size f cdv)) → sp vs H Q E →
      ∃ t, PSs (cxOf CX0 P w K mg base N qual (defScope st) f cdv A outer s H E).nox (defBody st) t ∧ t { nx := fun _ H' => Q .non H', rt := Q } (start N vs) H) : FnG P w K mg base CX0 (k + 1) f fd ps sp := by
  obtain ⟨oc, od, kV, doc, pm, an, cdv, ct, osl, rfl, lk, hcd⟩ := F.ex
  refine fnG_body lk hcd S hlen fun A outer s H vs Q E g hr want => ?_
  obtain ⟨t, h, q⟩ := hb cdv A outer s H vs Q E g hr want
  exact ⟨t, h.nox, q⟩
/-- the name x is a def that keeps the promise sp where no repr is under way -/
def CalG (P : Program) (w : World) (K : PySem.W.Frag) (mg : Str → Option Value) (base : Heap) (k : Nat) (x : Str) (ps : List Str) (sp : Sp) : Prop :=
  ∃ (f : Addr) (fd : FuncData), FnG P w K mg base CX0 k f fd ps sp ∧ PySem.W.keepIn K (.ref f) = true ∧ Binds K fd ps [] ∧ mg x = some (.ref f)
theorem Cal.g {k : Nat} {x : Str} {ps : List Str} {sp : Sp} (c : Cal P w K mg base k x ps sp) : CalG P w K mg base k x ps sp := by
  obtain ⟨f, fd, F, r⟩ := c
  exact ⟨f, fd, fnG_of F, r⟩
theorem Def.calG {x qual : Str} {st : Stmt} {ps : List Str} (d : Def K mg x qual st ps) {k : Nat} {sp : Sp} (h : ∀ f fd, Fun K x qual st f fd → FnG P w K mg base CX0 k f fd ps sp) : CalG P w K mg base k x ps sp := by
  obtain ⟨f, fd, F, b, g⟩ := d
  exact ⟨f, fd, h f fd F, F.kp, b, g⟩
end
section
variable {X : Cx}
/-- the callee runs -/
theorem runG {CX : CXT} {k : Nat} {f : Addr} {fd : FuncData} {ps : List Str} {sp : Sp} {E : XK} {ds : List Value} {dvs : List V} {pins : List (Addr × Obj)} {σ : L2.St} {H : Hp} {s : Shared} {Q : VK} {us : List Value} {vs : List V}
    (F : FnG X.prog X.w X.K X.mg X.base CX k f fd ps sp) (g : Gd X.A) (room : Room k X.A) (hb : Binds X.K fd ps ds) (hd : Vals dvs ds) (hx : Passes CX X E)
    (I : Inv X pins σ H s) (r : Vals vs us) (want : sp (vs ++ dvs) H Q E) : wpAny (model X.prog X.w) X.A (call (.ref f) us) (EP X pins σ Q) X.xe s := by
  have rel := r.append hd
  have hl : (us ++ ds).length = ps.length := rel.length.symm.trans (F.len _ _ _ _ want)
  have hc := F.run X.A X.stack s H ⟨us, []⟩ (us ++ ds) (vs ++ dvs) Q E g room I.env0 (hb s us I.kIn hl) rel want
  refine wpAny_call (codeAny_mono hc ?_)
  intro res s' hres
  match res, hres with
  | .error e, hres => exact hx pins σ H s e s' I hres
  | .ok (.ret u), hres => exact I.after hres
theorem pe_calG {x : Str} {ps : List Str} {sp : Sp} {k : Nat} {e : Expr} {es : List Expr} {t : TA} {p pos : Pos} (c : CalG X.prog X.w X.K X.mg X.base k x ps sp) (g : Gd X.A) (room : Room k X.A) (hg : Gl X x) (h : PA X (e :: es) t)
    (hdb : (x == ("__debug__" : Str)) = false := by decide) (hst : starEach (e :: es) X.env = (false, eval e X.env) :: starEach es X.env := by rfl) (hpl : (backTo pos (starEach es X.env)).any (·.1) = false := by rfl) :
    PE X (.Call (.Name x p) (e :: es) [] pos) (tCl sp t) := by
  obtain ⟨f, fd, F, kp, b, hm⟩ := c
  rw [← tCl_eq]
  refine ⟨fun pins s σ H Q I want => wpAny_Call_Name_kw (ld_glob I hg hm ?_ hdb)⟩
  exact PySem.W.callWith_K (h₀ := X.base) I.ok.mod.kin kp (thn (h.run pos pins s σ H _ I want) fun us s1 ⟨vs, H1, I1, r, q⟩ => ⟨I1.kIn, runG F g room b .nil pass0 I1 r q⟩) hst hpl
end
theorem repr_ref {prog : Program} {w : World} {A : Around} {E : Value → Shared → Prop} {s : Shared} {Q : Value → Shared → Prop} {a : Addr} {d : PyData} {as : List Addr}
    (r : Reads s.heap (.ref a) d as) (hs : d.showable = true) (hsm : d.hasDict = true → sysModules ∉ as) (hsz : d.shown.length ≤ sizeLine) (g : Gd A) (hu : A.units + 1 + d.depth < cLine)
    (h : ∀ h' u tk, (∀ b o, s.heap.get? b = some o → h'.get? b = some o) → Q (.str d.shown u) { s with heap := h', toks := tk }) : wpAny (model prog w) A (call (.builtin "repr") [.ref a]) Q E s := by
  obtain ⟨T, idr, B⟩ := showsBy_of_reads (prog := prog) (w := w) r hs hsm hsz
  have hT := B.typeIs s fun _ _ e => e
  refine Calls.call_function_entry F.kind_repr F.plain_repr F.entry_repr (F.args_repr1 _) ?_
  unfold Builtin.«repr»
  refine wpAny_bind (m := oneArg "repr" _) (wpAny_pure ?_)
  refine wpAny_bind (wpAny_cRoomFor (by show A.units + 1 < cLine; omega) ?_)
  refine wpAny_bind (wpAny_specialOf (name := Str.ofString "__repr__") hT B.slotRepr.lookup ?_)
  refine wpAny_bind (m := callSpecialIfBound? (.ref a) (Str.ofString "__repr__")) (wpAny_callSpecialIfBound?_slotG (name := Str.ofString "__repr__") hT B.slotRepr (B.call _ _ s _ g (by show A.units + 1 + _ < cLine; omega) (fun _ _ e => e) fun h' u tk hk => ?_))
  refine wpAny_bind (wpAny_isInstance (T := "str") (b := true) rfl isSubtype_str_str ?_)
  exact wpAny_pure ⟨_, rfl, h h' u tk hk⟩
section
variable {X : Cx}
/-- repr(x), x data without dicts -/
def rRepr (K : PySem.W.Frag) : List V → Hp → VK → Prop := fun xs H Q => ∃ (x : V) (d : PyData), xs = [x] ∧ Dp K H x d ∧ d.showable = true ∧ d.hasDict = false ∧ d.depth ≤ 60 ∧ d.shown.length ≤ sizeLine ∧ Q (.str d.shown) H
theorem call_reprD (g : Gd X.A) (hu : X.A.units + 64 < cLine) : CallR X (.builtin "repr") (rRepr X.K) := by
  intro pins s σ H xs us Q I r h
  obtain ⟨x, d, rfl, hd, h1, h2, h3, h4, q⟩ := h
  obtain ⟨u, rfl, rx⟩ := vals1 r
  obtain ⟨as, hr⟩ := Dp.reads I d x u hd rx
  cases hr with
  | none => simp only [PyData.shown] at q; exact PySem.P.repr_of_none ⟨.str _, H, I.tok _, ⟨_, rfl⟩, q⟩
  | bool b => simp only [PyData.shown] at q; exact PySem.P.repr_of_bool ⟨.str _, H, I.tok _, ⟨_, rfl⟩, q⟩
  | int i t => simp only [PyData.shown] at q; exact PySem.P.repr_of_int (by simpa [PyData.showable] using h1) ⟨.str _, H, I.tok _, ⟨_, rfl⟩, q⟩
  | str y t => simp only [PyData.shown] at q h4; exact PySem.P.repr_of_str ⟨.str _, H, I.tok _, ⟨_, rfl⟩, q⟩ h4
  | list e1 e2 e3 e4 =>
    exact repr_ref (.list e1 e2 e3 e4) h1 (fun e => by rw [h2] at e; cases e) h4 g (by omega) fun h' u tk hk => ⟨.str _, H, I.kept (t' := tk) hk, ⟨_, rfl⟩, q⟩
  | tuple e1 e2 e3 e4 =>
    exact repr_ref (.tuple e1 e2 e3 e4) h1 (fun e => by rw [h2] at e; cases e) h4 g (by omega) fun h' u tk hk => ⟨.str _, H, I.kept (t' := tk) hk, ⟨_, rfl⟩, q⟩
  | dict e1 e2 e3 e4 e5 =>
    exact repr_ref (.dict e1 e2 e3 e4 e5) h1 (fun e => by rw [h2] at e; cases e) h4 g (by omega) fun h' u tk hk => ⟨.str _, H, I.kept (t' := tk) hk, ⟨_, rfl⟩, q⟩
end
section
variable {X : Cx}
def rSortedTS (K : PySem.W.Frag) : List V → Hp → VK → Prop := fun vs H Q => ∃ (a : Addr) (xs : List Str), vs = [V.ref a] ∧ SqT K H a (xs.map V.str) ∧ xs.length ≤ 100000 ∧
  ∀ (ys : List Str) (p : Addr), ys.Perm xs → sortedS ys = true → H p = none → Q (.ref p) (upd H p (.lst (ys.map V.str)))
theorem cr_sortedTS : CallR X (.builtin "sorted") (rSortedTS X.K) := by
  intro pins s σ H vs us Q I r h
  obtain ⟨a, xs, rfl, ht, hz, q⟩ := h
  obtain ⟨its, rv, ⟨o, ho, hc, n, hd⟩, _⟩ := I.tuple ht
  rw [Vals.ref1 r]
  have hln : xs.length = its.length := by
    have e := rv.length
    rw [List.length_map] at e
    exact e
  have hS : StrsAre its xs := rv.strs
  have hL : its.length ≤ sizeLine := Nat.le_trans (by omega) (show 100000 ≤ sizeLine by decide)
  refine Calls.call_function_entry kind_sorted plain_sorted entry_sorted (args_sorted1 _) ?_
  unfold Builtin.«sorted»
  refine wpAny_bind (m := checkCount "sorted" 1 1 _) (wpAny_pure ?_)
  refine wpAny_bind (wpAny_collect_seq a (.inr rfl) ho hc hd (fun h' hk => ?_) (by rw [List.size_toArray]; exact hL))
  have I1 : Inv _ pins σ H { s with heap := h' } := I.kept (t' := s.toks) hk
  rw [List.toList_toArray]
  refine wpAny_bind (wpAny_newList ?_ hL)
  have hoL : (h'.push (seqObj "list" its.toArray 0)).get? h'.objs.size = some (seqObj "list" its.toArray 0) := Heap.get?_push_size _ rfl
  show wpAny _ _ _ _ _ { s with heap := h'.push (seqObj "list" its.toArray 0) }
  refine wpAny_bind (wpAny_holding (wpAny_call_entry slot_list_sort ⟨_, hoL, rfl⟩ entry_list_sort
    (list_sort_treeKAny strKind_oneLt (s := { s with heap := h'.push (seqObj "list" its.toArray 0) }) hoL hS.keysOf (fun v₁ v₂ rest e => keyKind_strs (by rw [← e]; exact hS)) hL fun st' hp hs => ⟨_, rfl, ?_⟩) (args_list_sort _)))
  obtain ⟨ys, g1, g2, g3⟩ := sorted_out_str hS hp hs
  obtain ⟨e', he'⟩ := sortedHeap_at (vs := its) (out := (arrOf st').map (·.2)) hoL
  have hlen : (ys.map V.str).length ≤ sizeLine := by
    rw [List.length_map, g2.length_eq, hln]
    exact hL
  refine wpAny_pure ⟨_, rfl, .ref h'.objs.size, upd H h'.objs.size (.lst (ys.map V.str)), I1.laid (t' := s.toks) (fun b u e => ?_) (Nat.le_refl _)
    (show ObjOk X.prog X.w _ _ _ (.lst (ys.map V.str)) from ⟨hlen, ((arrOf st').map (·.2)).toList, e', vals_of_strs g1, by rw [Array.toArray_toList]; exact he'⟩), rfl, q ys _ g2 g3 (I1.hok.fresh (Nat.le_refl _))⟩
  have hb : b < h'.objs.size := Heap.lt_size e
  rw [sortedHeap_old (Nat.ne_of_lt hb) (by rw [size_push']; exact Nat.lt_succ_of_lt hb)]
  exact Heap.get?_push_of_some _ e
end
/-- the abstract heap at the law's call: the script alone, if the module does not own it -/
def H00 (a : Addr) (o : Obj) (ns : List Int) (own : Bool) : Hp := fun b => if own = false ∧ b = a then some (.frz o (.lst (ns.map V.int))) else none
theorem h00_none {a b : Addr} {o : Obj} {ns : List Int} {own : Bool} (h : own = true ∨ b ≠ a) : H00 a o ns own b = none := by
  unfold H00
  rw [if_neg]
  rintro ⟨h1, h2⟩
  rcases h with h | h
  · rw [h1] at h; cases h
  · exact h h2
theorem h00_some {a b : Addr} {o : Obj} {ns : List Int} {own : Bool} {u : HO} (h : H00 a o ns own b = some u) : own = false ∧ b = a ∧ u = .frz o (.lst (ns.map V.int)) := by
  unfold H00 at h
  by_cases c : own = false ∧ b = a
  · rw [if_pos c] at h
    exact ⟨c.1, c.2, (Option.some.inj h).symm⟩
  · rw [if_neg c] at h
    cases h
theorem lawG {P : Program} {w : World} {K : PySem.W.Frag} {mg mb : Str → Option Value} {CX : CXT} {k : Nat} {fa a : Addr} {fd : FuncData} {x : Str} {sp : Sp} {t : Shared} {vs : List Value} {ns : List Int}
    (inK : K.In t.heap) (glob : t.heap.Ns mainGlobals mg) (blt : t.heap.Ns builtinsNs mb) (boot : ∀ y : Str, y ≠ "__name__" → mb y = bootBuiltins y) (noLim : t.heap.NoLimit) (gens : t.gens = #[])
    (scr : t.heap.get? a = some { cls := .type "list", data := .seq vs.toArray }) (hints : IntsAre vs ns) (short : ns.length ≤ sizeLine) (room : Room k callerA)
    (F : ∀ base : Heap, K.In base → base.Ns mainGlobals mg → FnG P w K mg base CX k fa fd [x] sp) (bind : ∀ (s : Shared) (u : Value), BindsTo s fd ⟨[u], []⟩ [(x, u)])
    (want : ∀ H : Hp, Only H → SqL K H a (ns.map V.int) → sp [.ref a] H (fun v _ => v = .bl true) fun _ _ _ => False)
    (noErr : ∀ H e s', CX [] H t (fun _ _ _ => False) e s' → False) :
    codeAny (model P w) callerA (.call (.ref fa) ⟨[.ref a], []⟩) (fun r s' => r = .ok (.ret (.bool true)) ∧ OldK t.heap s'.heap ∧ s'.os = t.os ∧ AllBare s'.gens) t := by
  have hv : Vals (ns.map V.int) vs := vals_ints hints
  have hlv : vs.length = ns.length := hints.length
  -- does the module own the script?
  obtain ⟨own, hown⟩ : ∃ own : Bool, own = (K.lookup a).isSome := ⟨_, rfl⟩
  let o : Obj := { cls := .type "list", data := .seq vs.toArray }
  have hOk : HOk P w (H00 a o ns own) t.heap := by
    intro b u e
    obtain ⟨_, rfl, rfl⟩ := h00_some e
    exact ⟨scr, by rw [List.length_map]; exact short, vs, _, hv, scr⟩
  have keepT : ∀ {b : Addr} {ob : Obj}, t.heap.get? b = some ob → own = true ∨ b ≠ a → (hidT t.heap (H00 a o ns own)).get? b = some ob := fun e n => hidT_get e (h00_none n)
  have notScr : ∀ {b : Addr} {m : Str → Option Value}, t.heap.Ns b m → b ≠ a := by
    rintro b m ⟨ob, es, ep, e, dd, _⟩ rfl
    rw [scr] at e
    cases e
    cases dd
  have nsKeep : ∀ {b : Addr} {m : Str → Option Value}, t.heap.Ns b m → (hidT t.heap (H00 a o ns own)).Ns b m := by
    intro b m n
    have ne := notScr n
    obtain ⟨ob, es, ep, e, r⟩ := n
    exact ⟨ob, es, ep, keepT e (.inr ne), r⟩
  have inK' : K.In (hidT t.heap (H00 a o ns own)) := by
    intro b ob e
    refine keepT (inK b ob e) ?_
    by_cases hb : b = a
    · subst hb
      left
      rw [hown, e]
      rfl
    · exact .inr hb
  have noLim' : (hidT t.heap (H00 a o ns own)).NoLimit := by
    obtain ⟨mc, h1, h2⟩ := noLim
    exact ⟨mc, nsKeep h1, h2⟩
  have env : Env0 P w K mg (hidT t.heap (H00 a o ns own)) callerA [] t (H00 a o ns own) := by
    refine ⟨rfl, ⟨inK', nsKeep glob, ⟨mb, nsKeep blt, boot⟩, noLim'⟩, fun b ob e => of_hidT e, Nat.le_of_eq (hidT_size _ _), trivial, ?_, hOk, .of_eq gens⟩
    intro b hb
    exact absurd (show b ∈ ([] : List Addr) from hb) List.not_mem_nil
  have only : Only (H00 a o ns own) := by
    intro b
    cases e : H00 a o ns own b with
    | none => exact .inl rfl
    | some u =>
      obtain ⟨_, _, rfl⟩ := h00_some e
      exact .inr ⟨_, _, rfl⟩
  have hS : SqL K (H00 a o ns own) a (ns.map V.int) := by
    cases own with
    | false => exact .inl (.inr ⟨o, by unfold H00; rw [if_pos ⟨rfl, rfl⟩]⟩)
    | true =>
      obtain ⟨ob, e⟩ := Option.isSome_iff_exists.mp hown.symm
      have e2 := inK a ob e
      rw [scr] at e2
      cases e2
      exact .inr ⟨_, vs.toArray, _, e, rfl, rfl, rfl, by rw [List.size_toArray, hlv]; exact short, by simpa using hv⟩
  have runs := (F _ inK' (nsKeep glob)).run callerA [] t (H00 a o ns own) ⟨[.ref a], []⟩ [.ref a] [.ref a] _ _ rfl room env (bind t (.ref a)) (.cons rfl .nil) (want _ only hS)
  refine codeAny_mono runs ?_
  intro res s' hres
  match res, hres with
  | .error e, hres => exact (noErr _ e s' hres).elim
  | .ok (.ret u), hres =>
    obtain ⟨v, H', hos, bare, un, ok', rel, rfl⟩ := hres
    obtain rfl : u = Value.bool true := rel
    refine ⟨rfl, OldK.of_keep fun b ob e => ?_, hos, bare⟩
    cases q : H00 a o ns own b with
    | none => exact un.keep b ob e q (fun z => absurd (show b ∈ ([] : List Addr) from z) List.not_mem_nil) List.not_mem_nil
    | some u =>
      obtain ⟨_, _, rfl⟩ := h00_some q
      have q' := un.frzs b _ _ q
      have e1 := (hOk b _ q).1
      rw [e] at e1
      cases e1
      exact (ok' b _ q').1
/-- what k_head leaves -/
theorem walkG {l : PySem.W.OpenLaw} {n k : Nat} {q : Program} {loose : List Str} {XP : (Str → Option Value) → Heap → Prop} {YP : World → Heap → Prop} {d : DefRec} {K : Params → PySem.W.Frag} {CX : World → CXT} {sp : World → Sp} {x : Str}
    (most : l.most = some n) (small : n ≤ sizeLine) (plain : d.params.defaults = []) (room : Room k callerA) (hY : ∀ (w : World) (h : Heap), YP w h → (K w.params).In h)
    (F : ∀ (w : World) (mg : Str → Option Value) (fa : Addr) (h : Heap), (K w.params).In h → h.Ns mainGlobals mg → mg d.name = some (.ref fa) →
      ∃ fd : FuncData, (∀ (s : Shared) (u : Value), BindsTo s fd ⟨[u], []⟩ [(x, u)]) ∧ ∀ base : Heap, (K w.params).In base → base.Ns mainGlobals mg → FnG l.prog w (K w.params) mg base (CX w) k fa fd [x] (sp w))
    (want : ∀ (w : World) (H : Hp) (a : Addr) (ns : List Int), ns.length ≤ n → Only H → SqL (K w.params) H a (ns.map V.int) → sp w [.ref a] H (fun v _ => v = .bl true) fun _ _ _ => False)
    (noErr : ∀ (w : World) (H : Hp) (s : Shared) (e : Value) (s' : Shared), CX w [] H s (fun _ _ _ => False) e s' → False) :
    PySem.W.WalkO q loose XP YP l.row.toRowW d [] (fun f vs => PySem.call f vs) := by
  refine Att.attach_call most plain fun w s₀ t mg mb fa o pm cd doc a vs ns G Y ho hd hcd hmg scr hints hlen gens => ?_
  obtain ⟨fd, bind, body⟩ := F w mg fa _ (hY w _ Y) G.T.g hmg
  exact lawG (hY w _ Y) G.T.g G.T.b G.T.builtins G.T.nolimit gens scr hints (Nat.le_trans hlen small) room body bind (fun H hO hS => want w H a ns hlen hO hS) fun H e s' => noErr w H t e s'
end Gx
set_option maxRecDepth 100000
set_option maxHeartbeats 4000000
namespace Gx
open PySem PySem.Spec PySem.W PySem.Calls Builtin Builtin.ObjectAttr
end Gx
namespace Gx
open PySem PySem.Spec PySem.W PySem.Calls PyProof.Rows L2
end Gx
namespace Gx
open PySem PySem.Spec PySem.Calls PyProof.Rows L2
section
variable {P : Program} {w : World} {K : PySem.W.Frag} {mg : Str → Option Value} {base : Heap}
/-- the top's def with keyword-only parameters and no defaults -/
def DefK (K : PySem.W.Frag) (mg : Str → Option Value) (x qual : Str) (st : Stmt) (ps : List Str) (n : Nat) (ks : List Str) : Prop :=
  ∃ (f : Addr) (fd : FuncData), Fun K x qual st f fd ∧ KBn K fd ps n ks (fun us ws => us ++ ws) (fun vs zs => vs ++ zs) ∧ mg x = some (.ref f)
theorem kbn_of {fd : FuncData} {ps ks : List Str} {n : Nat} (h : ∀ us ws : List Value, us.length = n → ws.length = ks.length → bindArgs fd ⟨us, ks.zip ws⟩ = pure (ps.zip (us ++ ws))) : KBn K fd ps n ks (fun us ws => us ++ ws) (fun vs zs => vs ++ zs) :=
  ⟨fun s us ws _ h1 h2 => .of_eq (h us ws h1 h2), fun r1 r2 => r1.append r2⟩
end
end Gx
set_option maxRecDepth 100000
set_option maxHeartbeats 4000000
namespace Mx
open PySem PySem.Spec PyProof.Rows L2 Gx
def isLow (c : Nat) : Bool := decide (97 ≤ c ∧ c ≤ 122)
/-- whether a text is a name -/
def nameB (z : Str) : Bool := (decide (1 ≤ z.cps.size) && decide (z.cps.size ≤ 8)) && z.cps.toList.all isLow
theorem low_facts : ∀ c, c < 128 → (isLow c = true → Unicode.isAlpha c = true ∧ Unicode.isLower c = true ∧ Unicode.isUpper c = false ∧ Unicode.isTitle c = false) ∧ (Unicode.isAlpha c = true → Unicode.isUpper c = false → isLow c = true) := by decide +kernel
theorem isLow_lt {c : Nat} (h : isLow c = true) : c < 128 := by
  have := of_decide_eq_true h
  omega
/-- what is_name reckons of a text -/
theorem name_by (z : Str) (h1 : 1 ≤ z.cps.size) : (Txt.isascii z && (Txt.isalpha z && Txt.islower z)) = z.cps.toList.all isLow := by
  have hl : z.length = z.cps.size := rfl
  unfold Txt.isascii Txt.isalpha Txt.islower
  rw [Bool.eq_iff_iff]
  simp only [Bool.and_eq_true, Array.all_eq_true', Array.any_eq_true', List.all_eq_true, decide_eq_true_eq, Bool.not_eq_true', Array.any_eq_false', Bool.or_eq_true, not_or, Bool.not_eq_true, Array.mem_toList_iff, hl]
  constructor
  · rintro ⟨ha, ⟨_, hb⟩, _, hd⟩ c hc
    exact (low_facts c (ha c hc)).2 (hb c hc) (hd c hc).1
  · intro h
    have f := fun c hc => (low_facts c (isLow_lt (h c hc))).1 (h c hc)
    refine ⟨fun c hc => isLow_lt (h c hc), ⟨h1, fun c hc => (f c hc).1⟩, ⟨z.cps[0], Array.getElem_mem (by omega), (f _ (Array.getElem_mem (by omega))).2.1⟩, fun c hc => ⟨(f c hc).2.2.1, (f c hc).2.2.2⟩⟩
end Mx
set_option maxRecDepth 100000
set_option maxHeartbeats 4000000
namespace Mx
open PySem PySem.Spec PyProof.Rows L2 Gx
/-- a is not behind b -/
def leS (a b : Str) : Prop := ¬ b.cps.toList < a.cps.toList
theorem leS_iff (a b : Str) : leS a b ↔ ltCps b.cps.toList a.cps.toList = false := by
  rw [ltCps_eq, decide_eq_false_iff_not]
  exact Iff.rfl
theorem leS_anti {a b : Str} (h1 : leS a b) (h2 : leS b a) : a = b := by
  have e : a.cps.toList = b.cps.toList := List.le_antisymm (as := a.cps.toList) (bs := b.cps.toList) h1 h2
  cases a
  cases b
  simp only [Str.mk.injEq]
  exact Array.toList_inj.mp e
theorem leS_refl (a : Str) : leS a a := List.lt_irrefl _
theorem leS_trans {a b c : Str} (h1 : leS a b) (h2 : leS b c) : leS a c :=
  List.le_trans (l₁ := a.cps.toList) (l₂ := b.cps.toList) (l₃ := c.cps.toList) h1 h2
theorem risingS_iff : ∀ (l : List Str) (p : Str), risingS p l = true ↔ (p :: l).Pairwise leS
  | [], p => by simp [risingS]
  | x :: r, p => by
    rw [risingS, Bool.and_eq_true, risingS_iff r x, Bool.not_eq_true', ← leS_iff]
    constructor
    · rintro ⟨h1, h2⟩
      refine List.pairwise_cons.mpr ⟨fun y hy => ?_, h2⟩
      rcases List.mem_cons.mp hy with rfl | hy
      · exact h1
      · exact leS_trans h1 ((List.pairwise_cons.mp h2).1 y hy)
    · intro h
      obtain ⟨h1, h2⟩ := List.pairwise_cons.mp h
      exact ⟨h1 x (List.mem_cons_self ..), h2⟩
theorem sortedS_iff (l : List Str) : sortedS l = true ↔ l.Pairwise leS := by
  cases l with
  | nil => simp [sortedS]
  | cons x r => exact risingS_iff r x
theorem sortedS_unique {l m : List Str} (h : l.Perm m) (hl : sortedS l = true) (hm : sortedS m = true) : l = m :=
  List.Perm.eq_of_pairwise (fun _ _ _ _ => leS_anti) ((sortedS_iff l).mp hl) ((sortedS_iff m).mp hm) h
/-- a list of texts is what sorting makes of it just if it is sorted -/
theorem eq_sorted_iff {l m : List Str} (h : m.Perm l) (hm : sortedS m = true) : decide (l = m) = sortedS l := by
  cases e : sortedS l with
  | true => exact decide_eq_true (sortedS_unique h.symm e hm)
  | false => exact decide_eq_false fun q => by rw [q, hm] at e; cases e
def tD (xs : List Str) : List PyData := xs.map PyData.str
theorem eqv_texts : ∀ xs ys : List Str, PyData.eqvAll (tD xs) (tD ys) = decide (xs = ys)
  | [], [] => by simp [tD, PyData.eqvAll]
  | [], y :: ys => by simp [tD, PyData.eqvAll]
  | x :: xs, [] => by simp [tD, PyData.eqvAll]
  | x :: xs, y :: ys => by
    have ih := eqv_texts xs ys
    unfold tD at ih ⊢
    rw [List.map_cons, List.map_cons, PyData.eqvAll, ih, PyData.eqv]
    by_cases h : x = y
    · subst h
      by_cases h2 : xs = ys
      · subst h2
        simp
      · rw [decide_eq_false h2, Bool.and_false, decide_eq_false fun q => h2 (List.cons.inj q).2]
    · rw [decide_eq_false fun q => h (List.cons.inj q).1, beq_eq_false_iff_ne.mpr h, Bool.false_and]
theorem dp_texts {K : PySem.W.Frag} {H : Hp} : ∀ xs : List Str, DpAll K H (xs.map V.str) (tD xs)
  | [] => .nil
  | x :: xs => .cons (.str x) (dp_texts xs)
theorem canLay_texts : ∀ xs : List Str, (∀ x ∈ xs, PyData.strOk x = true) → PyData.canLayAll0 (tD xs) = true
  | [], _ => by simp [tD, PyData.canLayAll0]
  | x :: xs, h => by
    have ih := canLay_texts xs fun y hy => h y (List.mem_cons_of_mem _ hy)
    unfold tD at ih ⊢
    rw [List.map_cons, PyData.canLayAll0, ih, PyData.canLay0, h x (List.mem_cons_self ..)]
    rfl
theorem depth_texts : ∀ xs : List Str, PyData.depthAll (tD xs) ≤ 1
  | [] => by simp [tD, PyData.depthAll]
  | x :: xs => by
    have ih := depth_texts xs
    unfold tD at ih ⊢
    rw [List.map_cons, PyData.depthAll]
    simp only [PyData.depth]
    omega
theorem shaped_texts {xs : List Str} (h : ∀ x ∈ xs, PyData.strOk x = true) : SeqAt.shaped (.list (tD xs)) = true := by
  unfold SeqAt.shaped
  rw [Bool.and_eq_true]
  refine ⟨by simp only [PyData.canLay0]; exact canLay_texts xs h, decide_eq_true ?_⟩
  have := depth_texts xs
  simp only [PyData.depth]
  omega
theorem shaped_textsT {xs : List Str} (h : ∀ x ∈ xs, PyData.strOk x = true) : SeqAt.shaped (.tuple (tD xs)) = true := by
  unfold SeqAt.shaped
  rw [Bool.and_eq_true]
  refine ⟨by simp only [PyData.canLay0]; exact canLay_texts xs h, decide_eq_true ?_⟩
  have := depth_texts xs
  simp only [PyData.depth]
  omega
end Mx
set_option maxRecDepth 100000
set_option maxHeartbeats 4000000
namespace Gx
open PySem PySem.Spec PyProof.Rows L2 SeqAt
open AutoSeq1 (wpAny_loadPart')
end Gx
set_option maxRecDepth 100000
set_option maxHeartbeats 4000000
namespace Gx
open PySem PySem.Spec PySem.Calls Builtin
end Gx
namespace Gx
open PySem PySem.Spec PySem.W PySem.Calls PyProof.Rows L2
end Gx
set_option maxRecDepth 100000
set_option maxHeartbeats 4000000
namespace Gx
open PySem PySem.Spec PySem.W PySem.Calls PyProof.Rows L2
/-- what the written part says of such a class -/
structure XPln (K : Frag) (mg : Str → Option Value) (cn : Str) (mk ini : String) (bmB : List Value) (C : Addr) : Prop where
  gC : mg cn = some (.ref C)
  cls : ∃ nm q N bs bm hd sn sub ab col dd k0 k1 k2 k3 k5, K.lookup C = some (excClassObj nm q C N bs bm hd sn sub ab col dd k0 k1 k2 k3 k5 mk) ∧ excTail bmB bm = true
  iC : findIn K (.ref C) "__init__" = some (some (.builtin ini))
  kC : keepIn K (.ref C) = true
/-- .. of any own class of errors, for isinstance -/
structure XCls (K : Frag) (C : Addr) : Prop where
  isC : isClsIn K C = true
  ga : findIn K (.ref C) "__getattribute__" = some (some (.builtin "BaseException.__getattribute__"))
  gg : findIn K (.ref C) "__getattr__" = some none
  ex : subIn K (.ref C) (.type "BaseException") = some true
  cl : findIn K (.ref C) "__class__" = some (some (.builtin "object.__class__"))
  sp : specialIn K (.builtin "object.__class__") "__get__" = some (some (.builtin "getset_descriptor.__get__"))
  ta : takesIn K (.builtin "object.__class__") = some true
  ob : mroIn K C (.type "object") = some true
end Gx
set_option maxRecDepth 100000
set_option maxHeartbeats 4000000
namespace Gx
open PySem PySem.Spec PySem.W PySem.Calls PyProof.Rows L2
def xclsB (K : Frag) (C : Addr) : Bool :=
  isClsIn K C && (decide (findIn K (.ref C) "__getattribute__" = some (some (.builtin "BaseException.__getattribute__"))) && (decide (findIn K (.ref C) "__getattr__" = some none) && (decide (subIn K (.ref C) (.type "BaseException") = some true) &&
    (decide (findIn K (.ref C) "__class__" = some (some (.builtin "object.__class__"))) && (decide (specialIn K (.builtin "object.__class__") "__get__" = some (some (.builtin "getset_descriptor.__get__"))) &&
    (decide (takesIn K (.builtin "object.__class__") = some true) && decide (mroIn K C (.type "object") = some true)))))))
theorem xclsB_ok {K : Frag} {C : Addr} (h : xclsB K C = true) : XCls K C := by
  unfold xclsB at h
  simp only [Bool.and_eq_true, decide_eq_true_eq] at h
  obtain ⟨a, b, c, d, e, f, g, i⟩ := h
  exact ⟨a, b, c, d, e, f, g, i⟩
end Gx
set_option maxRecDepth 100000
set_option maxHeartbeats 4000000
namespace Gx
open PySem PySem.Spec PySem.W PySem.Calls PyProof.Rows L2
/-- an own class of errors is caught by its own name -/
theorem exm_own {K : PySem.W.Frag} {S : Addr} (b : PySem.W.subIn K (.ref S) (.type "BaseException") = some true) (i : PySem.W.isClsIn K S = true) (t : PySem.W.typeIn K (.ref S) = some (.type "type")) (s : PySem.W.subIn K (.ref S) (.ref S) = some true) : PySem.W.exmOne K (.ref S) (.ref S) = some true := by
  have i' : (PySem.W.clsIn K S).isSome = true := i
  unfold PySem.W.exmOne PySem.W.kitCls
  simp [b, i', t, s]
end Gx
set_option maxRecDepth 100000
set_option maxHeartbeats 4000000
namespace Gx
open PySem PySem.Spec PyProof.Rows L2
end Gx
set_option maxRecDepth 100000
set_option maxHeartbeats 4000000
namespace Gx
open PySem PySem.Spec PyProof.Rows L2 LamX
abbrev ln (x : Str) : Str := (x ++ ".<locals>.") ++ "<lambda>"
/-- a def of the module that makes lambdas: its code and its table -/
structure Lam (K : PySem.W.Frag) (mg : Str → Option Value) (base : Heap) (Tb : List (Addr × Str)) (x : Str) (c Pt : Addr) : Prop where
  tb : TabB base mg c Pt
  mem : (Pt, ln x) ∈ Tb
  one : ∀ p ∈ Tb, p.1 = Pt → p.2 = ln x
  code : ∀ (f : Addr) (oc : Value) (od : Option Addr) (fd : FuncData) (sl : Array (Option Value)), mg x = some (.ref f) → K.lookup f = some ⟨oc, od, .func fd, sl⟩ → fd.code = .ref c
theorem Lam.of {K : PySem.W.Frag} {mg : Str → Option Value} {base : Heap} {Tb : List (Addr × Str)} {x : Str} {c Pt : Addr} (L : Lam K mg base Tb x c Pt) {qual : Str} {st : Stmt} {f : Addr} {fd : FuncData} (g : mg x = some (.ref f)) (F : Fun K x qual st f fd) : fd.code = .ref c := by
  obtain ⟨oc, od, kV, doc, pm, an, cdv, ct, osl, _, lk, _⟩ := F.ex
  exact L.code f oc od fd osl g lk
end Gx
set_option maxRecDepth 100000
set_option maxHeartbeats 4000000
namespace Gx
open PySem PySem.Spec PyProof.Rows L2
mutual
/-- the value v is the key k -/
inductive KeyV (K : PySem.W.Frag) (H : Hp) : NestedKey → V → Prop
  | none : KeyV K H .none .non
  | bool (b : Bool) : KeyV K H (.num (if b = true then 1 else 0)) (.bl b)
  | int (i : Int) : KeyV K H (.num i) (.int i)
  | text (x : Str) : KeyV K H (.text x) (.str x)
  | tup {a : Addr} {xs : List V} {ks : List NestedKey} : SqT K H a xs → KeyAll K H ks xs → KeyV K H (.tup ks) (.ref a)
inductive KeyAll (K : PySem.W.Frag) (H : Hp) : List NestedKey → List V → Prop
  | nil : KeyAll K H [] []
  | cons {k : NestedKey} {v : V} {ks : List NestedKey} {vs : List V} : KeyV K H k v → KeyAll K H ks vs → KeyAll K H (k :: ks) (v :: vs)
end
/-- at a stands the key k -/
def KeyA (K : PySem.W.Frag) (H : Hp) (a : Addr) (k : NestedKey) : Prop := KeyV K H k (.ref a) ∧ k.depth ≤ 8
mutual
theorem KeyV.mono {K : PySem.W.Frag} {H H' : Hp} (m : ∀ a xs, SqT K H a xs → SqT K H' a xs) : ∀ (k : NestedKey) (v : V), KeyV K H k v → KeyV K H' k v
  | .none, _, x => by cases x; exact .none
  | .num i, _, x => by
    cases x with
    | bool b => exact .bool b
    | int _ => exact .int _
  | .text x, _, h => by cases h; exact .text _
  | .tup ks, _, h => by
    cases h with
    | tup h1 h2 => exact .tup (m _ _ h1) (KeyAll.mono m ks _ h2)
theorem KeyAll.mono {K : PySem.W.Frag} {H H' : Hp} (m : ∀ a xs, SqT K H a xs → SqT K H' a xs) : ∀ (ks : List NestedKey) (vs : List V), KeyAll K H ks vs → KeyAll K H' ks vs
  | [], _, x => by cases x; exact .nil
  | k :: ks, _, x => by
    cases x with
    | cons h1 h2 => exact .cons (KeyV.mono m k _ h1) (KeyAll.mono m ks _ h2)
end
theorem KeyA.mono {K : PySem.W.Frag} {H H' : Hp} (m : ∀ a xs, SqT K H a xs → SqT K H' a xs) {a : Addr} {k : NestedKey} (h : KeyA K H a k) : KeyA K H' a k := ⟨h.1.mono m k _, h.2⟩
/-- the entries: key, the key's own tuple, value -/
abbrev NL := List (NestedKey × Addr × V)
def prN (L : NL) : List (NestedKey × V) := L.map fun x => (x.1, x.2.2)
def getN (L : NL) (k : NestedKey) : Option V := valV (prN L) k
def putN (L : NL) (k : NestedKey) (a : Addr) (v : V) : NL := if (getN L k).isSome = true then L.map (fun x => if x.1 = k then (x.1, x.2.1, v) else x) else L ++ [(k, a, v)]
def dropN (L : NL) (k : NestedKey) : NL := L.filter fun x => decide (x.1 ≠ k)
theorem prN_put (L : NL) (k : NestedKey) (a : Addr) (v : V) : prN (putN L k a v) = putK (prN L) k v := by
  unfold putN putK
  rw [valV_any]
  show prN (if (valV (prN L) k).isSome = true then _ else _) = _
  split
  · unfold prN
    rw [List.map_map, List.map_map]
    refine List.map_congr_left fun x _ => ?_
    by_cases h : x.1 = k <;> simp [h]
  · simp [prN]
theorem prN_len (L : NL) : (prN L).length = L.length := by simp [prN]
theorem putN_len (L : NL) (k : NestedKey) (a : Addr) (v : V) : (putN L k a v).length ≤ L.length + 1 := by
  rw [← prN_len, prN_put, ← prN_len L]
  exact length_putK _ _ _
abbrev NR : NL → List (NestedKey × Addr × Value) → Prop := Paired fun p q => q.1 = p.1 ∧ q.2.1 = p.2.1 ∧ RelV p.2.2 q.2.2
theorem NR.val {L : NL} {xs : List (NestedKey × Addr × Value)} (r : NR L xs) (k : NestedKey) : RelO (getN L k) ((atKey xs k).map (·.2)) := by
  unfold getN prN
  induction r with
  | nil => exact True.intro
  | @cons p q ps qs h t ih =>
    obtain ⟨h1, _, h2⟩ := h
    rw [List.map_cons]
    by_cases e : p.1 = k
    · have e' : q.1 = k := by rw [h1, e]
      have b : atKey (q :: qs) k = some q.2 := by simp [atKey, List.find?_cons, e']
      rw [valV_pos (p := (p.1, p.2.2)) e, b]; exact h2
    · have e' : ¬ q.1 = k := fun z => e (h1.symm.trans z)
      have b : atKey (q :: qs) k = atKey qs k := by simp [atKey, List.find?_cons, e']
      rw [valV_neg (p := (p.1, p.2.2)) e, b]; exact ih
theorem NR.repl {L : NL} {xs : List (NestedKey × Addr × Value)} (r : NR L xs) (k : NestedKey) {y : V} {u : Value} (ry : RelV y u) :
    NR (L.map fun x => if x.1 = k then (x.1, x.2.1, y) else x) (xs.map (putAt k u)) := by
  induction r with
  | nil => exact .nil
  | @cons p q ps qs h t ih =>
    rw [List.map_cons, List.map_cons]
    refine .cons ?_ ih
    obtain ⟨h1, h2, h3⟩ := h
    unfold putAt
    by_cases e : p.1 = k
    · rw [if_pos e, if_pos (by rw [h1, e])]; exact ⟨h1, h2, ry⟩
    · rw [if_neg e, if_neg (fun z => e (h1.symm.trans z))]; exact ⟨h1, h2, h3⟩
theorem NR.put {L : NL} {xs : List (NestedKey × Addr × Value)} (r : NR L xs) (k : NestedKey) {b : Addr} {y : V} {u : Value} (ry : RelV y u) : NR (putN L k b y) (storedH xs k b u) := by
  have e : (getN L k).isSome = (atKey xs k).isSome := by rw [(r.val k).isSome_eq, Option.isSome_map]
  unfold putN storedH
  rw [e]
  by_cases q : (atKey xs k).isSome = true
  · rw [if_pos q, if_pos q]; exact r.repl k ry
  · rw [if_neg q, if_neg q]; exact Paired.snoc r ⟨rfl, rfl, ry⟩
theorem NR.drop {L : NL} {xs : List (NestedKey × Addr × Value)} (r : NR L xs) (k : NestedKey) : NR (dropN L k) (withoutH xs k) := by
  unfold dropN withoutH
  induction r with
  | nil => exact .nil
  | @cons p q ps qs h t ih =>
    obtain ⟨h1, h2⟩ := h
    rw [List.filter_cons, List.filter_cons]
    by_cases e : p.1 = k
    · have a : ¬ decide (p.1 ≠ k) = true := by simp [e]
      have b : ¬ decide (q.1 ≠ k) = true := by simp [h1, e]
      rw [if_neg a, if_neg b]; exact ih
    · have e' : ¬ q.1 = k := fun z => e (h1.symm.trans z)
      have a : decide (p.1 ≠ k) = true := by simp [e]
      have b : decide (q.1 ≠ k) = true := by simp [e']
      rw [if_pos a, if_pos b]; exact .cons ⟨h1, h2⟩ ih
theorem NR.length {L : NL} {xs : List (NestedKey × Addr × Value)} (r : NR L xs) : L.length = xs.length := Paired.length r
/-- what is true of the dict's one object -/
def DNp (P : Program) (w : World) (d : Addr) (L : NL) (h : Heap) : Prop := L.length ≤ sizeLine ∧ (d == sysModules) = false ∧ ∃ xs, NR L xs ∧
  ∃ o es ep, h.get? d = some o ∧ o.ExactDict ∧ o.data = .dict es ep ∧ es.toList = xs.map (entryOfKey (nestedKind P w)) ∧ (xs.map (·.1)).Nodup
/-- the dict with the entries L stands at d -/
def DN (P : Program) (w : World) (d : Addr) (L : NL) : HO := .ext (DNp P w d L)
theorem dnp_at {P : Program} {w : World} {d : Addr} {L : NL} {h1 h2 : Heap} (x : DNp P w d L h1) (k : ∀ o, h1.get? d = some o → h2.get? d = some o) : DNp P w d L h2 := by
  obtain ⟨z, y, xs, r, o, es, ep, e, c⟩ := x
  exact ⟨z, y, xs, r, o, es, ep, k _ e, c⟩
theorem dn_ok {P : Program} {w : World} {d : Addr} {L : NL} {H : Hp} {h : Heap} (x : DNp P w d L h) : ObjOk P w H h d (DN P w d L) := by
  obtain ⟨z, y, xs, r, o, es, ep, e, c⟩ := id x
  exact ⟨x, ⟨o, e⟩, fun h1 h2 p k => dnp_at p k⟩
theorem dnp_of {P : Program} {w : World} {d : Addr} {L : NL} {H : Hp} {h : Heap} (ok : HOk P w H h) (e : Rd H d (DN P w d L)) : DNp P w d L h := (show ObjOk P w H h d (DN P w d L) from e.ok ok).1
/-- a dict that can be read, its keys standing -/
def NDict (P : Program) (w : World) (K : PySem.W.Frag) (H : Hp) (d : Addr) (L : NL) : Prop := Rd H d (DN P w d L) ∧ ∀ x ∈ L, KeyA K H x.2.1 x.1
section
variable {X : Cx} {pins : List (Addr × Obj)} {σ : L2.St} {H : Hp} {s : Shared} {d b : Addr} {L : NL} {k : NestedKey} {v z : V} {u r : Value} {A : Around} {E : Value → Shared → Prop}
mutual
theorem keyV_is (I : Inv X pins σ H s) : ∀ (k : NestedKey) (v : V) (u : Value), KeyV X.K H k v → RelV v u → NestedIs s.heap k u
  | .none, _, _, x, r => by cases x; obtain rfl := (show _ = Value.none from r); exact .none
  | .num i, _, _, x, r => by
    cases x with
    | bool b => obtain rfl := (show _ = Value.bool b from r); exact .bool rfl
    | int _ => obtain ⟨t, rfl⟩ := (show ∃ t, _ = Value.int i t from r); exact .int _ _
  | .text x, _, _, h, r => by cases h; obtain ⟨t, rfl⟩ := (show ∃ t, _ = Value.str x t from r); exact .text _ _
  | .tup ks, _, _, h, r => by
    cases h with
    | @tup a xs _ h1 h2 =>
      obtain rfl := (show _ = Value.ref a from r)
      obtain ⟨its, rv, ⟨o, e1, e2, n, e3⟩, _⟩ := I.tuple h1
      exact .tup e1 e2 e3 (by simpa using keyAll_is I ks _ _ h2 rv)
theorem keyAll_is (I : Inv X pins σ H s) : ∀ (ks : List NestedKey) (vs : List V) (us : List Value), KeyAll X.K H ks vs → Vals vs us → NestedAll s.heap ks us
  | [], _, _, x, r => by cases x; cases r; exact .nil
  | k :: ks, _, _, x, r => by
    cases x with
    | cons h1 h2 =>
      cases r with
      | cons r1 r2 => exact .cons (keyV_is I k _ _ h1 r1) (keyAll_is I ks _ _ h2 r2)
end
theorem nkey_of (I : Inv X pins σ H s) (h : KeyA X.K H b k) : (nestedKind X.prog X.w).is s.heap k b := ⟨keyV_is I k _ _ h.1 rfl, h.2⟩
theorem dn_rd (I : Inv X pins σ H s) (e : NDict X.prog X.w X.K H d L) : L.length ≤ sizeLine ∧ (d == sysModules) = false ∧ ∃ xs, NR L xs ∧ s.heap.DictOfH (nestedKind X.prog X.w) d xs := by
  obtain ⟨e, hk⟩ := e
  obtain ⟨z, y, xs, r, o, es, ep, h1, h2, h3, h4, h5⟩ := dnp_of I.hok e
  refine ⟨z, y, xs, r, o, es, ep, h1, h2, h3, h4, fun x hx => ?_, h5⟩
  have all : ∀ {l : NL} {m : List (NestedKey × Addr × Value)}, NR l m → (∀ x ∈ l, KeyA X.K H x.2.1 x.1) → ∀ x ∈ m, (nestedKind X.prog X.w).is s.heap x.1 x.2.1 := by
    intro l m q
    induction q with
    | nil => intro _ x hx; exact nomatch hx
    | @cons p q ps qs hq t ih =>
      intro hl x hx
      rcases List.mem_cons.mp hx with e | hx
      · subst e
        rw [hq.1, hq.2.1]
        exact nkey_of I (hl p List.mem_cons_self)
      · exact ih (fun y hy => hl y (List.mem_cons_of_mem _ hy)) x hx
  exact all r hk x hx
theorem roomN (hu : A.units + 64 < cLine) : (nestedKind X.prog X.w).room A.in1 := by
  show A.units + 1 + 8 < cLine
  omega
theorem n_getItem {Q : Value → Shared → Prop} (hu : A.units + 64 < cLine) (I : Inv X pins σ H s) (e : NDict X.prog X.w X.K H d L) (hb : KeyA X.K H b k) (hv : getN L k = some v) (h : ∀ w' s', Inv X pins σ H s' → RelV v w' → Q w' s') :
    wpAny (model X.prog X.w) A (getItem (.ref d) (.ref b)) Q E s := by
  obtain ⟨z, hd, xs, rel, dd⟩ := dn_rd I e
  obtain ⟨w', hw, rw'⟩ := RelO.some_of (v := v) (o := (atKey xs k).map (·.2)) (by rw [← hv]; exact rel.val k)
  obtain ⟨p, hp, hp2⟩ := Option.map_eq_some_iff.mp hw
  refine wpAny_getItem_heap (roomN (X := X) hu) (nkey_of I hb) dd hp ?_
  rw [hp2]
  exact h w' _ (I.tok _) rw'
theorem n_in {Q : Value → Shared → Prop} (hu : A.units + 64 < cLine) (I : Inv X pins σ H s) (e : NDict X.prog X.w X.K H d L) (hb : KeyA X.K H b k) (h : ∀ s', Inv X pins σ H s' → Q (.bool (getN L k).isSome) s') :
    wpAny (model X.prog X.w) A (compareOp .In (.ref b) (.ref d)) Q E s := by
  obtain ⟨z, hd, xs, rel, dd⟩ := dn_rd I e
  refine wpAny_in_heap (roomN (X := X) hu) (nkey_of I hb) hd dd ?_
  have q := (rel.val k).isSome_eq
  rw [Option.isSome_map] at q
  rw [← q]
  exact h _ (I.tok _)
theorem n_get2 {Q : Value → Shared → Prop} (hu : A.units + 64 < cLine) (I : Inv X pins σ H s) (e : NDict X.prog X.w X.K H d L) (hb : KeyA X.K H b k) (rd : RelV z r) (h : ∀ w' s', Inv X pins σ H s' → RelV ((getN L k).getD z) w' → Q w' s') :
    wpAny (model X.prog X.w) A (call (.builtin "dict.get") [.ref d, .ref b, r]) Q E s := by
  obtain ⟨_, hd, xs, rel, dd⟩ := dn_rd I e
  exact call_meetsIn PySem.F.slot_dict_get dd.typeIs PySem.F.entry_dict_get (PySem.F.args_dict_get_3 _ _ _) (meetsH_dict_get_default (nestedKind X.prog X.w) d b hd r) ⟨roomN (X := X) hu, k, xs, nkey_of I hb, dd, h _ _ (I.tok _) ((rel.val k).getD rd)⟩
/-- the keys stay when the dict's object is replaced -/
theorem SqT.ext_upd {K : PySem.W.Frag} {φ : Heap → Prop} {u : HO} {a : Addr} {xs : List V} (e : H d = some (.ext φ)) (h : SqT K H a xs) : SqT K (upd H d u) a xs := by
  rcases h with h | h
  · refine .inl ?_
    rcases h with h | ⟨o, h⟩
    · exact .inl (by rw [upd_ne (fun z => by rw [z, e] at h; cases h)]; exact h)
    · exact .inr ⟨o, by rw [upd_ne (fun z => by rw [z, e] at h; cases h)]; exact h⟩
  · exact .inr h
theorem n_write {L' : NL} {xs : List (NestedKey × Addr × Value)} {h' : Heap} {t' : Nat} (I : Inv X pins σ H s) (e : H d = some (DN X.prog X.w d L)) (hl : L'.length ≤ sizeLine) (rel : NR L' xs) (dd : h'.DictOfH (nestedKind X.prog X.w) d xs) (hs : Heap.SameBut d s.heap h') :
    Inv X pins σ (upd H d (DN X.prog X.w d L')) { s with heap := h', toks := t' } := by
  obtain ⟨_, hd, _⟩ := dnp_of I.hok (.inl e)
  obtain ⟨q, es, ep, hq, h2, h3, h4, _, h5⟩ := dd
  exact d_write I (by rw [e]; exact True.intro) hs ⟨q, hq⟩ (dn_ok ⟨hl, hd, xs, rel, q, es, ep, hq, h2, h3, h4, h5⟩)
theorem n_setItem {Q : Unit → Shared → Prop} (hu : A.units + 64 < cLine) (I : Inv X pins σ H s) (e : H d = some (DN X.prog X.w d L)) (hk : ∀ x ∈ L, KeyA X.K H x.2.1 x.1) (hb : KeyA X.K H b k) (hz : L.length < sizeLine) (rv : RelV v r)
    (h : ∀ s', Inv X pins σ (upd H d (DN X.prog X.w d (putN L k b v))) s' → Q () s') : wpAny (model X.prog X.w) A (setItem (.ref d) (.ref b) r) Q E s := by
  obtain ⟨z, hd, xs, rel, dd⟩ := dn_rd I ⟨.inl e, hk⟩
  have hz' : xs.length ≤ sizeLine := by rw [← rel.length]; exact z
  exact wpAny_setItem_heap (hsz := hz') (roomN (X := X) hu) (nkey_of I hb) dd fun h' dd' hs => h _ (n_write I e (by have := putN_len L k b v; omega) (rel.put k rv) dd' hs)
theorem n_dictSet {Q : Unit → Shared → Prop} (hu : A.units + 64 < cLine) (I : Inv X pins σ H s) (e : H d = some (DN X.prog X.w d L)) (hk : ∀ x ∈ L, KeyA X.K H x.2.1 x.1) (hb : KeyA X.K H b k) (hz : L.length < sizeLine) (rv : RelV v r)
    (h : ∀ s', Inv X pins σ (upd H d (DN X.prog X.w d (putN L k b v))) s' → Q () s') : wpAny (model X.prog X.w) A (dictSet d (.ref b) r) Q E s := by
  obtain ⟨z, hd, xs, rel, dd⟩ := dn_rd I ⟨.inl e, hk⟩
  have hz' : xs.length ≤ sizeLine := by rw [← rel.length]; exact z
  exact wpAny_dictSet_heap (hsz := hz') (show A.units + 8 < cLine by omega) (nkey_of I hb) dd fun h' dd' hs => h _ (n_write I e (by have := putN_len L k b v; omega) (rel.put k rv) dd' hs)
theorem n_raw (I : Inv X pins σ H s) (e : Rd H d (DN X.prog X.w d L)) : L.length ≤ sizeLine ∧ (d == sysModules) = false ∧ ∃ es ep, s.heap.DictRaw d es ep ∧ es.size = L.length ∧
    ∀ (i : Nat) (x : NestedKey × Addr × V), L[i]? = some x → ∃ en, es[i]? = some en ∧ en.key = .ref x.2.1 ∧ RelV x.2.2 en.val := by
  obtain ⟨z, hd, xs, rel, o, es, ep, ho, hx, hdt, he, hn⟩ := dnp_of I.hok e
  refine ⟨z, hd, es, ep, ⟨o, ho, hx, hdt⟩, by rw [size_of_entries he, ← rel.length], fun i x hi => ?_⟩
  obtain ⟨y, hy, e1, e2, e3⟩ := paired_get rel hi
  have q := entry_at he i
  rw [hy] at q
  exact ⟨_, q, congrArg Value.ref e2, e3⟩
end
end Gx
set_option maxRecDepth 100000
set_option maxHeartbeats 4000000
namespace Gx
open PySem PySem.Spec PyProof.Rows L2
/-- the context's program, world and written part -/
abbrev XI (X : Cx) (P : Program) (w : World) (K : PySem.W.Frag) : Prop := X.prog = P ∧ X.w = w ∧ X.K = K
section
variable {P : Program} {w : World} {K : PySem.W.Frag}
/-- d[y] -/
def tNGet (P : Program) (w : World) (K : PySem.W.Frag) (td ty : TE) : TE := fun σ H Q => td σ H fun x H1 => ty σ H1 fun y H2 => ∃ a b L k v, x = .ref a ∧ y = .ref b ∧ NDict P w K H2 a L ∧ KeyA K H2 b k ∧ getN L k = some v ∧ Q v H2
/-- y in d, y not in d -/
def tNIn (P : Program) (w : World) (K : PySem.W.Frag) (g : Bool → Bool) (ty td : TE) : TE := fun σ H Q => ty σ H fun y H1 => td σ H1 fun x H2 => ∃ a b L k, x = .ref a ∧ y = .ref b ∧ NDict P w K H2 a L ∧ KeyA K H2 b k ∧ Q (.bl (g (getN L k).isSome)) H2
/-- d[y] = v -/
def sNPut (P : Program) (w : World) (K : PySem.W.Frag) (td ty tv : TE) : TS := fun D σ H => tv σ H fun v H1 => td σ H1 fun x H2 => ty σ H2 fun y H3 => ∃ a b L k, x = .ref a ∧ y = .ref b ∧ H3 a = some (DN P w a L) ∧ (∀ e ∈ L, KeyA K H3 e.2.1 e.1) ∧ KeyA K H3 b k ∧ L.length < sizeLine ∧ D.nx σ (upd H3 a (DN P w a (putN L k b v)))
/-- d.get(y, z) -/
def tNGet2 (P : Program) (w : World) (K : PySem.W.Frag) (td ty tx : TE) : TE := fun σ H Q => td σ H fun x H1 => ∃ a L0, x = .ref a ∧ Rd H1 a (DN P w a L0) ∧ ty σ H1 fun y H2 => tx σ H2 fun z H3 => ∃ b L k, y = .ref b ∧ NDict P w K H3 a L ∧ KeyA K H3 b k ∧ Q ((getN L k).getD z) H3
/-- {} -/
def tNNew (P : Program) (w : World) : TE := fun _ H Q => ∀ p, H p = none → Q (.ref p) (upd H p (DN P w p []))
theorem dn_empty {H : Hp} (h : Heap) (hb : sysModules < h.objs.size) : ObjOk P w H (h.push { cls := .type "dict", data := .dict #[] }) h.objs.size (DN P w h.objs.size []) :=
  dn_ok ⟨Nat.zero_le _, beq_eq_false_iff_ne.mpr (Ne.symm (Nat.ne_of_lt hb)), [], .nil, _, #[], 0, Heap.get?_push_size _ rfl, ⟨rfl, rfl, rfl⟩, rfl, rfl, List.nodup_nil⟩
section
variable {X : Cx} {pins : List (Addr × Obj)} {σ : L2.St} {H : Hp} {s : Shared} {a : Addr} {L : NL}
theorem n_type (I : Inv X pins σ H s) (e : Rd H a (DN X.prog X.w a L)) : s.TypeIs (.ref a) "dict" ∧ (∀ b, Value.ref a = .ref b → ∃ ob, s.heap.get? b = some ob ∧ ob.dict = none) := by
  obtain ⟨_, _, es, ep, ⟨o, h1, h2, _⟩, _⟩ := n_raw I e
  refine ⟨⟨o, h1, h2.1⟩, fun b q => ?_⟩
  cases q
  exact ⟨o, h1, h2.2.1⟩
end
section
variable {X : Cx} {o i e f value : Expr} {pos pos' apos cpos : Pos} {td ty tv tx : TE}
theorem pe_nget (hx : XI X P w K) (hu : X.A.units + 64 < cLine) (ho : PE X o td) (hi : PE X i ty) (hs : NoSl i) : PE X (.Subscript o i pos) (tNGet P w K td ty) := by
  obtain ⟨rfl, rfl, rfl⟩ := hx
  refine ⟨fun pins s σ H Q I h => ?_⟩
  refine subD_of PySem.F.slot_dict_getitem.lookup hs (thn (ho.run pins s σ H _ I h) fun u s1 ⟨x, H1, I1, rx, q1⟩ => thn (hi.run pins s1 σ H1 _ I1 q1) fun iv s2 ⟨y, H2, I2, ry, a, b, L, k, v, ex, ey, g, hb, hv, q2⟩ => ?_)
  subst ex ey
  obtain rfl : u = Value.ref a := rx
  obtain rfl : iv = Value.ref b := ry
  exact ⟨(n_type I2 g.1).1, n_getItem hu I2 g hb hv fun w' s3 I3 rw' => ⟨v, H2, I3, rw', q2⟩⟩
theorem pc_nin (hx : XI X P w K) (hu : X.A.units + 64 < cLine) (hi : PE X i ty) (ho : PE X o td) : PC X .In i o (tNIn P w K id ty td) := by
  obtain ⟨rfl, rfl, rfl⟩ := hx
  refine ⟨fun pins s σ H Q I h => ?_⟩
  refine thn (hi.run pins s σ H _ I h) fun iv s1 ⟨y, H1, I1, ry, q1⟩ => thn (ho.run pins s1 σ H1 _ I1 q1) fun u s2 ⟨x, H2, I2, rx, a, b, L, k, ex, ey, g, hb, q2⟩ => ?_
  subst ex ey
  obtain rfl : u = Value.ref a := rx
  obtain rfl : iv = Value.ref b := ry
  exact n_in hu I2 g hb fun s3 I3 => ⟨.bl (getN L k).isSome, H2, I3, rfl, q2⟩
theorem ps_nput (hx : XI X P w K) (hu : X.A.units + 64 < cLine) (ho : PE X o td) (hi : PE X i ty) (hv : PE X value tv) (hs : swapsWith value (some (.Subscript o i pos')) pos.line X.env = pure false) :
    PS X (.Assign [.Subscript o i pos'] value pos) (sNPut P w K td ty tv) := by
  obtain ⟨rfl, rfl, rfl⟩ := hx
  refine ⟨fun pins s σ H D I h => ?_⟩
  refine wpAny_Assign_Subscript (thn (hv.run pins s σ H _ I h) fun r s1 ⟨v, H1, I1, rv, q1⟩ => thn (ho.run pins s1 σ H1 _ I1 q1) fun u s2 ⟨x, H2, I2, rx, q2⟩ => thn (hi.run pins s2 σ H2 _ I2 q2) fun iv s3 ⟨y, H3, I3, ry, a, b, L, k, ex, ey, g, hk, hb, hz, q3⟩ => ?_) hs
  subst ex ey
  obtain rfl : u = Value.ref a := rx
  obtain rfl : iv = Value.ref b := ry
  exact n_setItem hu I3 g hk hb hz rv fun s4 I4 => ⟨σ, _, I4, q3⟩
theorem pe_nget2 (hx : XI X P w K) (hu : X.A.units + 64 < cLine) (ho : PE X o td) (he : PE X e ty) (hf : PE X f tx) (m : M2 X o "get" apos e f cpos) : PE X (.Call (.Attribute o "get" apos) [e, f] [] cpos) (tNGet2 P w K td ty tx) := by
  obtain ⟨rfl, rfl, rfl⟩ := hx
  refine ⟨fun pins s σ H Q I h => ?_⟩
  refine wpAny_Call_method m.base m.few m.line PySem.F.plainAttrs_dict PySem.F.slot_dict_get PySem.F.type_dict_get (thn (ho.run pins s σ H _ I h) fun u s1 ⟨x, H1, I1, rx, a, L0, ex, d, q1⟩ => ?_)
  subst ex
  obtain rfl : u = Value.ref a := rx
  obtain ⟨t1, t2⟩ := n_type I1 d
  refine ⟨t1, t2, ?_⟩
  rw [m.trees]
  refine Calls.callWith_builtin rfl (Calls.evalArgs_plain (Calls.spliced_cons (thn (he.run pins s1 σ H1 _ I1 q1) fun iv s2 ⟨y, H2, I2, ry, q2⟩ =>
    Calls.spliced_cons (thn (hf.run pins s2 σ H2 _ I2 q2) fun fv s3 ⟨z, H3, I3, rz, b, L, k, ey, g, hb, q3⟩ => Calls.spliced_nil ?_))))
  subst ey
  obtain rfl : iv = Value.ref b := ry
  exact n_get2 hu I3 g hb rz fun w' s4 I4 rw' => ⟨_, H3, I4, rw', q3⟩
theorem pe_nnew (hx : XI X P w K) : PE X (.Dict [] [] pos) (tNNew P w) := by
  obtain ⟨rfl, rfl, rfl⟩ := hx
  exact ⟨fun pins s σ H Q I h =>
  wpAny_Dict_empty ⟨.ref s.heap.objs.size, _, I.laid (a := s.heap.objs.size) (o := DN X.prog X.w s.heap.objs.size []) (t' := s.toks) (fun _ _ q => Heap.get?_push_of_some _ q) (Nat.le_refl _) (dn_empty s.heap I.big), rfl, h _ (I.hok.fresh (Nat.le_refl _))⟩⟩
end
section
variable {X : Cx}
/-- len(d) -/
def rLenN (P : Program) (w : World) : List V → Hp → VK → Prop := fun vs H Q => ∃ (a : Addr) (L : NL), vs = [V.ref a] ∧ Rd H a (DN P w a L) ∧ Q (.int L.length) H
theorem call_lenN (hx : XI X P w K) : CallR X (.builtin "len") (rLenN P w) := by
  obtain ⟨rfl, rfl, rfl⟩ := hx
  intro pins s σ H vs us Q I r h
  obtain ⟨a, L, rfl, ha, q⟩ := h
  rw [Vals.ref1 r]
  obtain ⟨z, hd, es, ep, raw, hs, _⟩ := n_raw I ha
  have hz : L.length ≤ 16777216 := by rw [← sizeLine_eq]; exact z
  refine call_len_slot (n := (L.length : Int)) raw.typeIs PySem.F.slot_dict_len (fun Q' hq => call_len_raw hd raw (by rw [hs]; exact hq)) (by omega) (by omega) ⟨.int L.length, H, I.tok _, ⟨_, rfl⟩, q⟩
end
def Itn (P : Program) (w : World) (d : Addr) (o : Obj) (L : NL) : It :=
  ⟨fun i H => H d = some (.frz o (DN P w d L)) ∧ i < L.length, fun i H x H' => H' = H ∧ ∃ e, L[i]? = some e ∧ x = .ref e.2.1, fun i H => H d = some (.frz o (DN P w d L)) ∧ L.length ≤ i⟩
def Itni (P : Program) (w : World) (d : Addr) (o : Obj) (L : NL) : It :=
  ⟨fun i H => H d = some (.frz o (DN P w d L)) ∧ i < L.length, fun i H x H' => ∃ T e, L[i]? = some e ∧ x = .ref T ∧ H T = none ∧ H' = upd H T (.tup [.ref e.2.1, e.2.2]), fun i H => H d = some (.frz o (DN P w d L)) ∧ L.length ≤ i⟩
theorem Inv.frzN {X : Cx} {pins : List (Addr × Obj)} {σ : L2.St} {H : Hp} {s : Shared} {d : Addr} {o : Obj} {L : NL} (I : Inv X pins σ H s) (h : H d = some (.frz o (DN X.prog X.w d L))) :
    (d == sysModules) = false ∧ s.heap.get? d = some o ∧ o.ExactDict ∧ ∃ (es : Array DictEntry) (ep : Nat), o.data = .dict es ep ∧ es.size = L.length ∧
      ∀ (i : Nat) (x : NestedKey × Addr × V), L[i]? = some x → ∃ (en : DictEntry), es[i]? = some en ∧ en.key = .ref x.2.1 ∧ RelV x.2.2 en.val := by
  obtain ⟨hd, _⟩ := I.hok d _ h
  obtain ⟨z, hs, es, ep, ⟨o', h1, h2, h3⟩, h4, h5⟩ := n_raw I (.inr ⟨o, h⟩)
  rw [hd] at h1
  cases h1
  exact ⟨hs, hd, h2, es, ep, h3, h4, h5⟩
section
variable {tg : Expr} {d : Addr} {o : Obj} {es : Array DictEntry} {ep : Nat} {L : NL}
theorem turn_keysN (it : Addr) (hod : o.data = .dict es ep) : Turn P w K tg (Itn P w d o L) [it] it (fun i h => h.IsKeyIter it d i L.length ep) where
  mem := by simp
  obj := fun i h st b hb => by
    have e : b = it := by simpa using hb
    subst e
    obtain ⟨oi, e, c, dd⟩ := st
    exact ⟨oi, e, fun v z => by rw [dd] at z; cases z⟩
  keep := fun i h h' st k => st.at fun oi e => k it (by simp) oi e
  item := by
    intro X hP hw hK hc i pins s σ H E I hf st hg
    subst hP hw hK
    obtain ⟨hd, hi⟩ := hg
    obtain ⟨f0, f1, f2, f3, f4, f5⟩ := hf it (by simp)
    obtain ⟨hs, hgd, hx, es', ep', hdt, hsz, ent⟩ := Gx.Inv.frzN I hd
    obtain ⟨rfl, rfl⟩ := dict_ep hod hdt
    obtain ⟨x, hkv⟩ : ∃ p, L[i]? = some p := ⟨L[i], List.getElem?_eq_getElem hi⟩
    obtain ⟨en, hen, hkey, _⟩ := ent i x hkv
    refine next_key_item st hgd hdt hsz hen fun h' st' sb => ?_
    have I1 : Inv X pins σ H { s with heap := h' } := I.turned (t' := s.toks) (fun b ob hb e => (sb.2 b hb).trans e) f0 f1 f3 f4 f5
    obtain ⟨oi, e, c, dd⟩ := id st'
    exact ⟨en.key, rfl, go_of (s := { s with heap := h' }) e c dd (by decide) ⟨.ref x.2.1, H, I1, hkey, ⟨rfl, x, hkv, rfl⟩, st', fun b hb => (hf b hb).1⟩⟩
  done := by
    intro X hP hw hK hc i pins s σ H E I hf st hg
    subst hP hw hK
    obtain ⟨hd, hi⟩ := hg
    obtain ⟨f0, f1, f2, f3, f4, f5⟩ := hf it (by simp)
    obtain ⟨hs, hgd, hx, es', ep', hdt, hsz, ent⟩ := Gx.Inv.frzN I hd
    obtain ⟨rfl, rfl⟩ := dict_ep hod hdt
    exact next_key_end (I.ok.hd hc) st hgd hdt hsz hi fun h' eb => ⟨rfl, I.turned (t' := s.toks) (fun b ob hb e => eb b ob hb e) f0 f1 f3 f4 f5⟩
  self := fun A i s Q E st h => by
    refine wpAny_pyIter_slot st.typeIs F.slot_dict_keyiterator_iter (wpAny_call_entry F.slot_dict_keyiterator_iter st.typeIs F.entry_dict_keyiterator_iter ?_ (F.args_dict_keyiterator_iter_1 _))
    show wpAny _ _ (ret (.ref it)) _ _ s
    exact wpAny_pure ⟨_, rfl, "dict_keyiterator", _, st.typeIs, F.slot_dict_keyiterator_next.lookup, h⟩
theorem turn_itemsN {elts : List Expr} {kk : Nat} {tpos : Pos} (it : Addr) (hod : o.data = .dict es ep) :
    Turn P w K (.Tuple elts kk tpos) (Itni P w d o L) [it] it (fun i h => ∃ ok ov, IsItemIter h it d i L.length ep ok ov) where
  mem := by simp
  obj := fun i h st b hb => by
    have e : b = it := by simpa using hb
    subst e
    obtain ⟨ok, ov, e⟩ := st
    exact ⟨_, e, fun v z => nomatch z⟩
  keep := fun i h h' st k => let ⟨ok, ov, e⟩ := st; ⟨ok, ov, k it (by simp) _ e⟩
  item := by
    intro X hP hw hK hc i pins s σ H E I hf st hg
    subst hP hw hK
    obtain ⟨hd, hi⟩ := hg
    obtain ⟨hs, hgd, hx, es', ep', hdt, hsz, ent⟩ := Gx.Inv.frzN I hd
    obtain ⟨rfl, rfl⟩ := dict_ep hod hdt
    obtain ⟨x, hkv⟩ : ∃ p, L[i]? = some p := ⟨L[i], List.getElem?_eq_getElem hi⟩
    obtain ⟨en, hen, hkey, hval⟩ := ent i x hkv
    obtain ⟨ok, ov, he⟩ := st
    rw [← hsz] at he
    have hlt : it < s.heap.objs.size := Heap.lt_size he
    have hi' : i < es'.size := by rw [hsz]; exact hi
    have een : es'[i] = en := by
      rw [Array.getElem?_eq_getElem hi'] at hen
      exact Option.some.inj hen
    refine DT.nextI he ⟨o, hgd, hx, hdt⟩ hi' fun h' ho hT hz hk => ?_
    rw [een] at ho hT
    refine ⟨_, rfl, wpAny_letOwnedTupleGo_items (s := { s with heap := h' }) ho fun h'' he' sb => ?_⟩
    have hT2 : h''.get? s.heap.objs.size = some { cls := .type "tuple", data := .seq #[en.key, en.val] } := (sb.2 _ (Nat.ne_of_gt hlt)).trans hT
    have new : ObjOk X.prog X.w (upd H s.heap.objs.size (.tup [.ref x.2.1, x.2.2])) h'' s.heap.objs.size (.tup [.ref x.2.1, x.2.2]) :=
      ⟨by show 2 ≤ sizeLine; decide, [en.key, en.val], .cons hkey (.cons hval .nil), ⟨_, hT2, rfl, _, rfl⟩⟩
    have I1 : Inv X pins σ (upd H s.heap.objs.size (.tup [.ref x.2.1, x.2.2])) { s with heap := h'' } :=
      I.turnedNew (t' := s.toks) (ch := [it]) (fun b ob hb e => (sb.2 b (by simpa using hb)).trans (hk b ob (by simpa using hb) e)) hf (Nat.le_refl _) new
    refine ⟨.ref s.heap.objs.size, _, I1, rfl, ⟨_, x, hkv, rfl, I.hok.fresh (Nat.le_refl _), rfl⟩, ⟨en.key, en.val, ?_⟩, fun b hb => ?_⟩
    · rw [← hsz]; exact he'
    · have e : b = it := by simpa using hb
      rw [e, upd_ne (Nat.ne_of_lt hlt)]
      exact (hf it (by simp)).1
  done := by
    intro X hP hw hK hc i pins s σ H E I hf st hg
    subst hP hw hK
    obtain ⟨hd, hi⟩ := hg
    obtain ⟨f0, f1, f2, f3, f4, f5⟩ := hf it (by simp)
    obtain ⟨hs, hgd, hx, es', ep', hdt, hsz, ent⟩ := Gx.Inv.frzN I hd
    obtain ⟨rfl, rfl⟩ := dict_ep hod hdt
    obtain ⟨ok, ov, he⟩ := st
    rw [← hsz] at he
    exact DT.endI (I.ok.hd hc) he ⟨o, hgd, hx, hdt⟩ (by rw [hsz]; exact hi) fun h' eb => ⟨rfl, I.turned (t' := s.toks) (fun b ob hb e => eb b ob hb e) f0 f1 f3 f4 f5⟩
  self := fun A i s Q E st h => let ⟨_, _, e⟩ := st; PySem.W.kcp_self e h
end
/-- the dict is locked -/
def iKeysN (P : Program) (w : World) (td : TE) : TI := fun σ H R => td σ H fun x H1 => ∃ d o L, x = .ref d ∧ H1 d = some (.frz o (DN P w d L)) ∧ R (Itn P w d o L) H1
def iItemsN (P : Program) (w : World) (td : TE) : TI := fun σ H R => td σ H fun x H1 => ∃ d o L, x = .ref d ∧ H1 d = some (.frz o (DN P w d L)) ∧ R (Itni P w d o L) H1
section
variable {X : Cx} {tg e : Expr} {td : TE} {apos cpos : Pos}
theorem pi_keysN (hx : XI X P w K) (he : PE X e td) : PI X tg e (iKeysN P w td) := by
  obtain ⟨rfl, rfl, rfl⟩ := hx
  refine ⟨fun pins s σ H R I h => ?_⟩
  refine thn (he.run pins s σ H _ I h) fun u s1 ⟨x, H1, I1, rx, d, o, L, ex, hd, q⟩ => ?_
  subst ex
  obtain rfl : u = Value.ref d := rx
  obtain ⟨hs, hgd, hx, es, ep, hdt, hsz, ent⟩ := Gx.Inv.frzN I1 hd
  refine iter_keys hs hgd hx hdt (pi_one (tk := s1.toks) I1 _ (turn_keysN _ hdt) ⟨_, Heap.get?_push_size _ rfl, rfl, ?_⟩ q)
  rw [hsz] <;> rfl
theorem pi_itemsN {elts : List Expr} {kk : Nat} {tpos : Pos} (hx : XI X P w K) (he : PE X e td) (hbase : attributeBase e "items" X.env (eval e X.env) = eval e X.env := by rfl) (hline : (apos.endLine == cpos.line) = true := by rfl) :
    PI X (.Tuple elts kk tpos) (.Call (.Attribute e "items" apos) [] [] cpos) (iItemsN P w td) := by
  obtain ⟨rfl, rfl, rfl⟩ := hx
  refine ⟨fun pins s σ H R I h => ?_⟩
  refine wpAny_Call_method (T := "dict") (id := "dict.items") hbase rfl hline F.plainAttrs_dict F.slot_dict_items F.type_dict_items (thn (he.run pins s σ H _ I h) fun u s1 ⟨x, H1, I1, rx, d, o, L, ex, hd, q⟩ => ?_)
  subst ex
  obtain rfl : u = Value.ref d := rx
  obtain ⟨hs, hgd, hx, es, ep, hdt, hsz, ent⟩ := Gx.Inv.frzN I1 hd
  obtain ⟨t1, t2⟩ := n_type I1 (.inr ⟨o, hd⟩)
  refine ⟨t1, t2, ?_⟩
  have I2 : Inv X pins σ H1 { s1 with heap := s1.heap.push { cls := .type "dict_items", data := .fields #[.ref d] } } := I1.kept (t' := s1.toks) fun b ob q => Heap.get?_push_of_some _ q
  have fin : wpAny (model X.prog X.w) X.A (pyIter (.ref s1.heap.objs.size)) (PIE X pins σ (.Tuple elts kk tpos) R) X.xe { s1 with heap := s1.heap.push { cls := .type "dict_items", data := .fields #[.ref d] } } := by
    refine DT.iterI (d := d) ⟨_, Heap.get?_push_size _ rfl, rfl, rfl⟩ (DT.Raw.push ⟨o, hgd, hx, hdt⟩ _) (pi_one (tk := s1.toks) I2 _ (turn_itemsN _ hdt) ⟨.none, .none, ?_⟩ q)
    rw [← hsz]
    exact Heap.get?_push_size _ rfl
  show wpAny _ _ (callWith cpos (.builtin "dict.items") [.ref d] [] []) _ X.xe s1
  exact method_meetsIn F.slot_dict_items F.entry_dict_items rfl (PySem.evalArgs_none ⟨rfl, t1, F.args_dict_items_1 _, _, DT.meetsItems (es := es) (ep := ep) hs, ⟨o, hgd, hx, hdt⟩, fin⟩)
end
theorem walk_keysN {d : Addr} {o : Obj} {L : NL} : Walk (Itn P w d o L) L.length (fun H => H d = some (.frz o (DN P w d L))) (fun i H x H' => H' = H ∧ ∃ e, L[i]? = some e ∧ x = .ref e.2.1) :=
  ⟨fun _ _ hi q => ⟨q, hi⟩, fun _ q => ⟨q, Nat.le_refl _⟩, fun _ _ _ _ _ _ y => y⟩
theorem walk_itemsN {d : Addr} {o : Obj} {L : NL} : Walk (Itni P w d o L) L.length (fun H => H d = some (.frz o (DN P w d L))) (YPair (fun i => L[i]?.map fun e => V.ref e.2.1) (fun i => L[i]?.map fun e => e.2.2)) := by
  refine ⟨fun _ _ hi q => ⟨q, hi⟩, fun _ q => ⟨q, Nat.le_refl _⟩, fun i H x H' _ _ y => ?_⟩
  obtain ⟨T, e, h1, h2, h3, h4⟩ := y
  exact ⟨T, .ref e.2.1, e.2.2, h2, h3, h4, by simp [h1], by simp [h1]⟩
end
end Gx
set_option maxRecDepth 100000
set_option maxHeartbeats 4000000
namespace Gx
open PySem PySem.Spec PyProof.Rows L2
abbrev PutG := Addr → V → V → Hp → (Hp → Prop) → Prop
def tDcG (new : Addr → HO) (put : PutG) (wi : TI) (g : TG) (tt : TT) (tk tv : TE) (vs : List Nat) : TE := fun σ H Q => wi σ H fun J H1 => ∀ D, H1 D = none → ∃ W : Nat → Nat → Hp → Prop, (∃ m, W 0 m (upd H1 D (new D))) ∧ ∀ i m H, W i m H →
  (J.stop i H ∧ Q (.ref D) H) ∨ (J.go i H ∧ ∃ Nx : Hp → Prop, (∀ H', Nx H' → ∃ m', m' < m ∧ W (i + 1) m' H') ∧ ∀ x H', J.yld i H x H' → g x (wipe σ vs) H' fun σ2 H2 => wipe σ2 vs = wipe σ vs ∧ tt σ2 H2 fun b H3 =>
    if b = true then tk σ2 H3 fun y H4 => tv σ2 H4 fun z H5 => put D y z H5 Nx else Nx H3)
/-- a store that the model's dictSet does -/
def PutOk (X : Cx) (put : PutG) : Prop := ∀ (A : Around) (hA : A = X.A) (pins : List (Addr × Obj)) (σ : L2.St) (H : Hp) (s : Shared) (E : Value → Shared → Prop) (D : Addr) (y z : V) (u r : Value) (N : Hp → Prop), Inv X pins σ H s → RelV y u → RelV z r → put D y z H N →
  wpAny (model X.prog X.w) A (dictSet D u r) (fun _ s' => ∃ H', Inv X pins σ H' s' ∧ N H') E s
/-- the new dict's object, just laid -/
def NewOk (P : Program) (w : World) (new : Addr → HO) : Prop := ∀ (H : Hp) (h : Heap), sysModules < h.objs.size → ObjOk P w H (h.push { cls := .type "dict", data := .dict #[] }) h.objs.size (new h.objs.size)
section
variable {X : Cx} {new : Addr → HO} {put : PutG}
theorem dcG_core {pins : List (Addr × Obj)} {s : Shared} {σ : L2.St} {H : Hp} {Q : VK} {kx vx tg iter : Expr} {ifs : List Expr} {scope : Scope} {own : List (Str × Nat)} {pos pos' : Pos} {wi : TI} {g : TG} {tt : TT} {tk tv : TE} {use : Option (Value → Sem Unit)} {Qf : Value → Shared → Prop}
    (hnew : NewOk X.prog X.w new) (hput : ∀ (s : Shared) (H : Hp) (C : Addr) (cl : List (Str × Addr)) (fp : List Addr), PutOk (X.blk s H scope (compEnvC scope cl C X.env) fp) put)
    (hc : X.calm = true) (hN : X.N.Nodup) (I : Inv X pins σ H s) (hi : PI X tg iter wi) (ok : BlkOk X.N X.env.scope scope own)
    (hg : ∀ (s : Shared) (H : Hp) (C : Addr) (cl : List (Str × Addr)) (fp : List Addr), PG (X.blk s H scope (compEnvC scope cl C X.env) fp) tg g) (ht : ∀ (s : Shared) (H : Hp) (C : Addr) (cl : List (Str × Addr)) (fp : List Addr), PTs (X.blk s H scope (compEnvC scope cl C X.env) fp) ifs tt)
    (hk : ∀ (s : Shared) (H : Hp) (C : Addr) (cl : List (Str × Addr)) (fp : List Addr), PE (X.blk s H scope (compEnvC scope cl C X.env) fp) kx tk)
    (he : ∀ (s : Shared) (H : Hp) (C : Addr) (cl : List (Str × Addr)) (fp : List Addr), PE (X.blk s H scope (compEnvC scope cl C X.env) fp) vx tv) (hs : ∀ x, foldedSetIterable iter X.env x = pure x)
    (h : tDcG new put wi g tt tk tv (own.map (·.2)) σ H Q)
    (hRR : ∀ D C s' m H', Inv X pins σ H' s' → Q (.ref D) H' → s'.heap.Ns C m → FpOk X pins H' C → compPost (model X.prog X.w) X.A X.xe use Qf (.ref D) C (.ok .next) s') :
    wpAny (model X.prog X.w) X.A (comprehension (.DictComp kx vx [⟨tg, iter, ifs, 0⟩] scope pos) scope X.env pos' newDict false (eval iter X.env) use) Qf X.xe s := by
  have hfree : ∀ y ∈ scope.names, y.2 = .free → ∃ c, X.env.cells.lookup y.1 = some c := fun y hy e => by
    rcases ok.free y hy e with k | k
    · exact I.ok.has _ (.inl k)
    · exact I.ok.has _ (.inr k)
  refine wpAny_comprehension_free (use := use) rfl hs (closure_ok hfree) ok.kind (fun y hy e => by rw [ok.uniq y hy, e]) (thn (hi.run pins s σ H _ I h) fun xv s1 hx => thn hx fun itv s2 h2 => ?_)
  obtain ⟨it, fp, tn, J, H2, rfl, I2, T, st2, f2, q⟩ := h2
  refine wpAny_newObj_type (newEnv_comp ?_)
  generalize hD : s2.heap.objs.size = D
  have hDn : H2 D = none := I2.hok.fresh (Nat.le_of_eq hD)
  obtain ⟨W, ⟨m0, w0⟩, turn⟩ := q D hDn
  generalize hs3 : ({ s2 with heap := s2.heap.push { cls := .type "dict", data := .dict #[] } } : Shared) = s3
  have h3 : s3.heap = s2.heap.push { cls := .type "dict", data := .dict #[] } := by rw [← hs3]
  generalize hH3 : upd H2 D (new D) = H3 at w0
  have I3 : Inv X pins σ H3 s3 := by
    rw [← hs3, ← hH3]
    refine I2.laid (t' := s2.toks) (fun b o e => Heap.get?_push_of_some _ e) (Nat.le_of_eq hD) ?_
    rw [← hD]
    exact hnew _ s2.heap I2.big
  have f3 : ∀ b ∈ fp, FpOk X pins H3 b ∧ b < s3.heap.objs.size := fun b hb => by
    obtain ⟨o, e, _⟩ := T.obj _ _ st2 b hb
    have hlt := Heap.lt_size e
    refine ⟨⟨?_, (f2 b hb).2⟩, by rw [h3, Heap.size_push]; exact Nat.lt_succ_of_lt hlt⟩
    rw [← hH3, upd_ne (by rw [← hD]; exact Nat.ne_of_lt hlt)]
    exact (f2 b hb).1
  have st3 : tn 0 s3.heap := T.keep _ _ _ st2 fun b _ o e => by rw [h3]; exact Heap.get?_push_of_some _ e
  have I4 := block_start I3 ok hN f3
  show codeAny _ _ (.compStart (.DictComp kx vx [⟨tg, iter, ifs, 0⟩] scope pos) 0 (.ref it) (.ref D) (compEnvC scope (cellsFrom (s3.heap.objs.size + 1) scope.names (cloFrom X.env.cells scope.names [])) s3.heap.objs.size X.env)) (compPost (model X.prog X.w) X.A X.xe use Qf (.ref D) s3.heap.objs.size) { s3 with heap := pushCells (s3.heap.push { cls := .type "dict", data := .dict #[] }) scope.names }
  generalize hcl : cellsFrom (s3.heap.objs.size + 1) scope.names (cloFrom X.env.cells scope.names []) = cl at I4 ⊢
  have pg := hg s3 H3 s3.heap.objs.size cl fp
  have pt := ht s3 H3 s3.heap.objs.size cl fp
  have pk := hk s3 H3 s3.heap.objs.size cl fp
  have pe := he s3 H3 s3.heap.objs.size cl fp
  have pp := hput s3 H3 s3.heap.objs.size cl fp
  generalize hce : compEnvC scope cl s3.heap.objs.size X.env = ce at I4 pg pt pk pe pp ⊢
  have cL : ce.locals = s3.heap.objs.size := by subst hce; rfl
  generalize hs4 : ({ s3 with heap := pushCells (s3.heap.push { cls := .type "dict", data := .dict #[] }) scope.names } : Shared) = s4 at I4 ⊢
  have st4 : tn 0 s4.heap := T.keep _ _ _ st3 fun b _ o e => by rw [← hs4]; exact pushCells_keeps _ _ _ _ (Heap.get?_push_of_some _ e)
  generalize hB : X.blk s3 H3 scope ce fp = B at I4 pg pt pk pe pp
  have calmB : B.calm = true := by rw [← hB]; exact hc
  have stat : ∀ {σ' : L2.St} {H' : Hp} {s' : Shared}, Inv B [] σ' H' s' → (∀ b ∈ fp, H' b = none) → ∀ b ∈ fp, FpOk B [] H' b := fun {σ' H' s'} I' hn b hb => by
    subst hB
    exact ⟨hn b hb, (I'.ok.exf b hb).1, I'.ok.exfs b hb, .inl hb, fun x c e => (I'.ok.exf b hb).2 x c e, fun p hp => absurd (show p ∈ ([] : List (Addr × Obj)) ++ [] from hp) (by simp)⟩
  have loop : codeAny (model X.prog X.w) X.A (.compLoop (.DictComp kx vx [⟨tg, iter, ifs, 0⟩] scope pos) 0 (.ref it) (.ref D) ce) (compPost (model X.prog X.w) X.A X.xe use Qf (.ref D) s3.heap.objs.size) s4 := by
    refine compLoop_anyD (fun n s' => ∃ i H', Inv B [] (wipe σ (own.map (·.2))) H' s' ∧ tn i s'.heap ∧ (∀ b ∈ fp, H' b = none) ∧ W i n H') ?_ m0 ⟨0, H3, I4, st4, fun b hb => (f3 b hb).1.1, w0⟩
    rintro n s5 ⟨i, H5, I5, st5, n5, w5⟩
    rcases turn i n H5 w5 with ⟨stop, qq⟩ | ⟨go, Nx, hNx, step⟩
    · subst hB
      have td := T.done (X.blk s3 H3 scope ce fp) rfl rfl rfl hc i [] s5 _ H5 (fun _ _ => False) I5 (stat I5 n5) st5 stop
      refine thnF td fun r s6 ⟨hr, I6⟩ => ?_
      subst hr
      have I7 : Inv X pins σ H5 s6 := I3.call' (ch := fp) I6.os I6.base I6.hok I6.bare fun b hb => ⟨(f3 b hb).1.2.2.2.1, (f3 b hb).1.2.1, (f3 b hb).1.2.2.2.2.1, (f3 b hb).1.2.2.2.2.2⟩
      have nC : H5 s3.heap.objs.size = none := by
        have z : H5 ce.locals = none := I6.free
        rw [cL] at z
        exact z
      obtain ⟨m, hn, _⟩ := I6.loc
      have hn : s6.heap.Ns ce.locals m := hn
      rw [cL] at hn
      exact hRR D s3.heap.objs.size s6 m H5 I7 qq hn (I3.fpOk (Nat.le_refl _) nC)
    · subst hB
      have ti := T.item (X.blk s3 H3 scope ce fp) rfl rfl rfl hc i [] s5 _ H5 (fun _ _ => False) I5 (stat I5 n5) st5 go
      refine thnF ti fun r s6 ⟨u, hr, h6⟩ => ?_
      subst hr
      refine thnF h6 fun _ s7 ⟨x, H7, I7, r7, y7, st7, n7⟩ => ?_
      have I7' := I7.pinned (stat I7 n7) (T.obj _ _ st7)
      refine thnF (pg.run _ s7 _ H7 x u _ I7' r7 (step x H7 y7)) fun _ s8 ⟨σ8, H8, I8, hw8, q8⟩ => ?_
      refine thnF (pt.run _ s8 σ8 H8 _ I8 q8) fun b s9 ⟨H9, I9, q9⟩ => ?_
      have fin : ∀ {s' : Shared} {H' : Hp}, Inv (X.blk s3 H3 scope ce fp) ([] ++ pinsAt fp s7.heap) σ8 H' s' → Nx H' → ∃ m, m < n ∧ ∃ i H', Inv (X.blk s3 H3 scope ce fp) [] (wipe σ (own.map (·.2))) H' s' ∧ tn i s'.heap ∧ (∀ b ∈ fp, H' b = none) ∧ W i m H' := fun {s' H'} I' nx => by
        obtain ⟨m', hm, w'⟩ := hNx H' nx
        have pin' : ∀ b ∈ fp, ∀ o, s7.heap.get? b = some o → s'.heap.get? b = some o ∧ H' b = none := fun b hb o e =>
          let z := I'.pin (b, o) (List.mem_append_right _ (List.mem_append_right _ (mem_pinsAt hb e)))
          ⟨z.1, z.2.1⟩
        have hl : (wipe σ (own.map (·.2))).length = σ8.length := by rw [← hw8, wipe_length]
        refine ⟨m', hm, i + 1, H', (I'.unpinned (pins := [])).weak hl (fun j v e => ?_), T.keep _ _ _ st7 fun b hb o e => (pin' b hb o e).1, fun b hb => ?_, w'⟩
        · rw [← hw8] at e
          exact (wipe_some e).1
        · obtain ⟨o, e, _⟩ := T.obj _ _ st7 b hb
          exact (pin' b hb o e).2
      cases b with
      | false =>
        simp only [Bool.false_eq_true, if_false] at q9 ⊢
        exact fin I9 q9
      | true =>
        simp only [if_true] at q9 ⊢
        refine thnF (pk.run _ s9 σ8 H9 _ I9 q9) fun z s10 ⟨yk, H10, I10, r10, q10⟩ => ?_
        refine thnF (pe.run _ s10 σ8 H10 _ I10 q10) fun z2 s11 ⟨yv, H11, I11, r11, q11⟩ => ?_
        refine thnF (pp X.A rfl _ σ8 H11 s11 _ D yk yv z z2 Nx I11 r10 r11 q11) fun _ s12 ⟨H12, I12, nx⟩ => fin I12 nx
  exact codeAny_compStart_dict loop (T.self X.A 0 _ _ _ st4 loop)
theorem pe_dcG {kx vx tg iter : Expr} {ifs : List Expr} {scope : Scope} {own : List (Str × Nat)} {pos : Pos} {wi : TI} {g : TG} {tt : TT} {tk tv : TE} (hnew : NewOk X.prog X.w new) (hput : ∀ (s : Shared) (H : Hp) (C : Addr) (cl : List (Str × Addr)) (fp : List Addr), PutOk (X.blk s H scope (compEnvC scope cl C X.env) fp) put)
    (hc : X.calm = true) (hN : X.N.Nodup) (hi : PI X tg iter wi) (ok : BlkOk X.N X.env.scope scope own)
    (hg : ∀ (s : Shared) (H : Hp) (C : Addr) (cl : List (Str × Addr)) (fp : List Addr), PG (X.blk s H scope (compEnvC scope cl C X.env) fp) tg g) (ht : ∀ (s : Shared) (H : Hp) (C : Addr) (cl : List (Str × Addr)) (fp : List Addr), PTs (X.blk s H scope (compEnvC scope cl C X.env) fp) ifs tt)
    (hk : ∀ (s : Shared) (H : Hp) (C : Addr) (cl : List (Str × Addr)) (fp : List Addr), PE (X.blk s H scope (compEnvC scope cl C X.env) fp) kx tk)
    (he : ∀ (s : Shared) (H : Hp) (C : Addr) (cl : List (Str × Addr)) (fp : List Addr), PE (X.blk s H scope (compEnvC scope cl C X.env) fp) vx tv) (hs : ∀ x, foldedSetIterable iter X.env x = pure x := by intro _; rfl) :
    PE X (.DictComp kx vx [⟨tg, iter, ifs, 0⟩] scope pos) (tDcG new put wi g tt tk tv (own.map (·.2))) := by
  refine ⟨fun pins s σ H Q I h => ?_⟩
  rw [arm_eval_DictComp]
  refine dcG_core hnew hput hc hN I hi ok hg ht hk he hs h fun D C s' m H' I' q hn f => ⟨m, hn, fun h'' sb => ?_⟩
  obtain ⟨f0, f1, f2, f3, f4, f5⟩ := f
  exact ⟨.ref D, H', I'.turned (t' := s'.toks) (fun b o hb e => (sb.2 b hb).trans e) f0 f1 f3 f4 f5, rfl, q⟩
end
def putG (P : Program) (w : World) (K : PySem.W.Frag) : PutG := fun D y z H N => ∃ (L : NL) (k : NestedKey) (b : Addr), y = .ref b ∧ KeyA K H b k ∧ H D = some (DN P w D L) ∧ (∀ e ∈ L, KeyA K H e.2.1 e.1) ∧ L.length < sizeLine ∧ N (upd H D (DN P w D (putN L k b z)))
theorem newN {P : Program} {w : World} : NewOk P w fun D => DN P w D [] := fun _ h hb => dn_empty h hb
theorem putN_ok {X : Cx} {P : Program} {w : World} {K : PySem.W.Frag} (hx : XI X P w K) (hu : X.A.units + 64 < cLine) : PutOk X (putG P w K) := by
  obtain ⟨rfl, rfl, rfl⟩ := hx
  intro A hA pins σ H s E D y z u r N I ry rz h
  obtain ⟨L, k, b, rfl, hb, hD, hk, hz, n⟩ := h
  obtain rfl : u = Value.ref b := ry
  subst hA
  exact n_dictSet hu I hD hk hb hz rz fun s' I' => ⟨_, I', n⟩
/-- a dict comprehension by its walk: Pv by the turn and the heap (the new dict at D within) -/
theorem dcG_it {new : Addr → HO} {put : PutG} {J : It} {n : Nat} {G : Hp → Prop} {Y : Nat → Hp → V → Hp → Prop} (w : Walk J n G Y) {g : TG} {tt : TT} {tk tv : TE} {vs : List Nat} {σ : L2.St} {H1 : Hp} {D : Addr} {Qd : Hp → Prop} (Pv : Nat → Hp → Prop) (h0 : Pv 0 (upd H1 D (new D))) (hG : ∀ i H, i ≤ n → Pv i H → G H)
    (hs : ∀ i x H H', i < n → Pv i H → Y i H x H' → g x (wipe σ vs) H' fun σ2 H2 => wipe σ2 vs = wipe σ vs ∧ tt σ2 H2 fun b H3 =>
      if b = true then tk σ2 H3 fun y H4 => tv σ2 H4 fun z H5 => put D y z H5 (Pv (i + 1)) else Pv (i + 1) H3) (hd : ∀ H, Pv n H → Qd H) :
    ∃ W : Nat → Nat → Hp → Prop, (∃ m, W 0 m (upd H1 D (new D))) ∧ ∀ i m H, W i m H →
      (J.stop i H ∧ Qd H) ∨ (J.go i H ∧ ∃ Nx : Hp → Prop, (∀ H', Nx H' → ∃ m', m' < m ∧ W (i + 1) m' H') ∧ ∀ x H', J.yld i H x H' → g x (wipe σ vs) H' fun σ2 H2 => wipe σ2 vs = wipe σ vs ∧ tt σ2 H2 fun b H3 =>
        if b = true then tk σ2 H3 fun y H4 => tv σ2 H4 fun z H5 => put D y z H5 Nx else Nx H3) := by
  refine ⟨fun i m H => m = n - i ∧ i ≤ n ∧ Pv i H, ⟨n, by simp, Nat.zero_le _, h0⟩, ?_⟩
  rintro i m H ⟨rfl, hi, p⟩
  have q := hG i H hi p
  by_cases hlt : i < n
  · exact .inr ⟨w.goes i H hlt q, Pv (i + 1), fun H' p' => ⟨n - (i + 1), by omega, rfl, hlt, p'⟩, fun x H' y => hs i x H H' hlt p (w.yields i H x H' hlt q y)⟩
  · have e : i = n := by omega
    subst e
    exact .inl ⟨w.stops H q, hd H p⟩
end Gx
set_option maxRecDepth 100000
set_option maxHeartbeats 4000000
namespace Kl
open PySem PySem.Spec PyProof.Rows L2 Gx Mx
def ltT : List Str → List Str → Bool
  | [], [] => false
  | [], _ :: _ => true
  | _ :: _, [] => false
  | x :: xs, y :: ys => if x = y then ltT xs ys else ltCps x.cps.toList y.cps.toList
theorem alike_texts : ∀ xs ys : List Str, PySem.W.alikeAll (tD xs) (tD ys) = true
  | [], _ => by simp [tD, PySem.W.alikeAll]
  | _ :: _, [] => by simp [tD, PySem.W.alikeAll]
  | x :: xs, y :: ys => by
    have ih := alike_texts xs ys
    unfold tD at ih ⊢
    rw [List.map_cons, List.map_cons, PySem.W.alikeAll, ih]
    simp [PySem.W.alike]
theorem lt_texts : ∀ xs ys : List Str, PySem.W.dataLt (.tuple (tD xs)) (.tuple (tD ys)) = ltT xs ys
  | [], [] => by
    rw [PySem.W.dataLt_tuple]
    exact lex_irrefl _
  | [], y :: ys => by
    rw [PySem.W.dataLt_tuple]
    unfold tD
    rw [List.map_nil, List.map_cons, PySem.W.keyToksAll, PySem.W.keyToksAll, PyProof.Rows.lex_diff (by decide)]
    rfl
  | x :: xs, [] => by
    rw [PySem.W.dataLt_tuple]
    unfold tD
    rw [List.map_nil, List.map_cons, PySem.W.keyToksAll, PySem.W.keyToksAll, PyProof.Rows.lex_diff (by decide)]
    rfl
  | x :: xs, y :: ys => by
    have ih := lt_texts xs ys
    rw [PySem.W.dataLt_tuple] at ih ⊢
    have al : PySem.W.alike (.str x) (.str y) = true := rfl
    unfold ltT
    by_cases e : x = y
    · subst e
      rw [if_pos rfl, ← ih]
      exact PySem.W.dataLt_all_yes al (by simp [PyData.eqv])
    · rw [if_neg e]
      have h := PySem.W.dataLt_all_no (xs := tD xs) (ys := tD ys) al (show PyData.eqv (.str x) (.str y) = false by simp [PyData.eqv, e])
      exact h.trans (by rw [PySem.W.dataLt_str, ltCps_eq])
theorem ltT_irrefl : ∀ xs : List Str, ltT xs xs = false
  | [] => rfl
  | x :: xs => by
    unfold ltT
    rw [if_pos rfl, ltT_irrefl xs]
theorem cps_total {x y : Str} (n : x ≠ y) (h : ltCps x.cps.toList y.cps.toList = false) : ltCps y.cps.toList x.cps.toList = true := by
  cases e : ltCps y.cps.toList x.cps.toList with
  | true => rfl
  | false => exact absurd (leS_anti ((leS_iff x y).mpr e) ((leS_iff y x).mpr h)) n
theorem cps_trans {x y z : Str} (h1 : ltCps x.cps.toList y.cps.toList = true) (h2 : ltCps y.cps.toList z.cps.toList = true) : ltCps x.cps.toList z.cps.toList = true := by
  rw [ltCps_eq, decide_eq_true_iff] at h1 h2 ⊢
  exact List.lt_trans h1 h2
theorem cps_irrefl (x : Str) : ltCps x.cps.toList x.cps.toList = false := (leS_iff x x).mp (leS_refl x)
theorem ltT_total : ∀ xs ys : List Str, ltT xs ys = true ∨ xs = ys ∨ ltT ys xs = true
  | [], [] => .inr (.inl rfl)
  | [], _ :: _ => .inl rfl
  | _ :: _, [] => .inr (.inr rfl)
  | x :: xs, y :: ys => by
    unfold ltT
    by_cases e : x = y
    · subst e
      rw [if_pos rfl, if_pos rfl]
      rcases ltT_total xs ys with h | h | h
      · exact .inl h
      · exact .inr (.inl (by rw [h]))
      · exact .inr (.inr h)
    · rw [if_neg e, if_neg fun q => e q.symm]
      cases c : ltCps x.cps.toList y.cps.toList with
      | true => exact .inl rfl
      | false => exact .inr (.inr (cps_total e c))
theorem ltT_trans : ∀ xs ys zs : List Str, ltT xs ys = true → ltT ys zs = true → ltT xs zs = true
  | [], [], _, h, _ => nomatch h
  | [], _ :: _, [], _, h => nomatch h
  | [], _ :: _, _ :: _, _, _ => rfl
  | _ :: _, [], _, h, _ => nomatch h
  | _ :: _, _ :: _, [], _, h => nomatch h
  | x :: xs, y :: ys, z :: zs, h1, h2 => by
    unfold ltT at h1 h2 ⊢
    by_cases e : x = y
    · subst e
      rw [if_pos rfl] at h1
      by_cases e2 : x = z
      · subst e2
        rw [if_pos rfl] at h2 ⊢
        exact ltT_trans xs ys zs h1 h2
      · rw [if_neg e2] at h2 ⊢
        exact h2
    · rw [if_neg e] at h1
      by_cases e2 : y = z
      · subst e2
        rw [if_neg e]
        exact h1
      · rw [if_neg e2] at h2
        have h3 := cps_trans h1 h2
        by_cases e3 : x = z
        · subst e3
          rw [cps_irrefl] at h3
          cases h3
        · rw [if_neg e3]
          exact h3
end Kl
set_option maxRecDepth 100000
set_option maxHeartbeats 4000000
namespace Gx
open PySem PySem.W PySem.Calls PyProof.Rows PyProof.V PySem.Spec
section
variable {prog : Program} {w : World} {A : Around} {E : Value → Shared → Prop} {s : Shared} {T : String} {r d : Addr} {n : Nat} {P : Nat → Value → Prop} {OK : Heap → Prop}
theorem collectK {R : List Value → Shared → Prop} (K : KdlSrc prog w T r d n P OK) (hh : A.handled = none) (hok : OK s.heap) (hn : n ≤ sizeLine)
    (h : ∀ (h' : Heap) (tk : Nat) (acc : Array Value), (∀ b o, s.heap.get? b = some o → h'.get? b = some o) → s.heap.objs.size < h'.objs.size → ItemsOf P acc n → R acc.toList { s with heap := h', toks := tk }) :
    wpAny (model prog w) A (collect (.ref r)) R E s := by
  obtain ⟨hr, hd⟩ := K.there _ hok
  unfold collect
  refine wpAny_bind (wpAny_runValue (codeAny_builtin entry_proto_collect' ?_))
  rw [Around.under_plainId PySem.F.plain_proto_collect _]
  show wpAny _ A.in1 (newList [] >>= fun l => again (.builtin "list.__iadd__" ⟨[l, .ref r], []⟩)) _ _ s
  refine wpAny_bind (wpAny_newObj_type ?_)
  refine wpAny_pure ⟨plainId_quiet PySem.F.plain_list_iadd _, codeAny_builtin entry_list_iadd' ?_⟩
  rw [Around.under_plainId PySem.F.plain_list_iadd _]
  have hS₁ : (s.heap.push { cls := .type "list", data := .seq ([] : List Value).toArray }).get? s.heap.objs.size = some { cls := .type "list", data := .seq #[] } := Heap.get?_push_size _ rfl
  show wpAny _ A.in1 (Builtin.List.listExtendWith (.ref s.heap.objs.size) (.ref r) (.ref s.heap.objs.size)) _ _ _
  have key := kdl_extend (prog := prog) (w := w) (A := A) (s := { s with heap := s.heap.push { cls := .type "list", data := .seq ([] : List Value).toArray } })
    (R := fun (q : Result) (s' : Shared) => ∃ (h' : Heap) (tk : Nat) (acc' : Array Value) (c' : Nat), q = .ok (.ret (.ref s.heap.objs.size)) ∧ s' = { s with heap := h', toks := tk } ∧
      (∀ b o, s.heap.get? b = some o → h'.get? b = some o) ∧ h'.get? s.heap.objs.size = some { cls := .type "list", dict := none, data := .seq acc' c', slots := #[] } ∧ ItemsOf P acc' n)
    K hh (K.keep _ _ hok fun b _ o e => Heap.get?_push_of_some _ e) s.heap.objs.size (Nat.ne_of_gt hr) (Nat.ne_of_gt hd) (.ref s.heap.objs.size) 0 hS₁
    (fun h' tk acc' c' hk hS' hacc => ⟨h', tk, acc', c', rfl, rfl, fun b o e => hk b o (Nat.ne_of_lt (Heap.lt_size e)) (Heap.get?_push_of_some _ e), hS', hacc⟩) hn
  refine wpAny_mono key (fun fin s' x => ?_) fun e s' x => ?_
  · cases fin with
    | done f =>
      obtain ⟨h', tk, acc', c', e, rfl, hk, hS', hacc⟩ := x
      cases e
      show wpAny _ A (load s.heap.objs.size >>= _) _ _ _
      refine wpAny_bind (wpAny_load hS' ?_)
      refine wpAny_pure ?_
      show R acc'.toList _
      exact h h' tk acc' hk (Heap.lt_size hS') hacc
    | again c₁ =>
      refine ⟨x.1, codeAny_mono x.2 fun q s₂ y => ?_⟩
      obtain ⟨h', tk, acc', c', rfl, rfl, hk, hS', hacc⟩ := y
      show wpAny _ A (load s.heap.objs.size >>= _) _ _ _
      refine wpAny_bind (wpAny_load hS' ?_)
      refine wpAny_pure ?_
      show R acc'.toList _
      exact h h' tk acc' hk (Heap.lt_size hS') hacc
  · obtain ⟨_, _, _, _, e', _⟩ := x
    cases e'
/-- sorted(r), r collected by K, its items data that can be told apart by < -/
theorem sortedK {β : Type} {Q : Value → Shared → Prop} (K : KdlSrc prog w T r d n P OK) (hh : A.handled = none) (hok : OK s.heap) (hn : n ≤ sizeLine) (R : Value → β → Prop) (enc : β → PyData) (bs : List β)
    (hP : ∀ acc : Array Value, ItemsOf P acc n → EachIs R acc.toList bs) (hR : ∀ v b, b ∈ bs → R v b → ∃ as, Reads s.heap v (enc b) as) (hal : AllAlike (bs.map enc)) (hk : Sortable (bs.map enc)) (hu : ∀ b, b ∈ bs → A.units + 2 + (enc b).depth < cLine)
    (h : ∀ (h' : Heap) (tk p : Nat) (out : List Value) (c : Nat), (∀ b o, s.heap.get? b = some o → h'.get? b = some o) → s.heap.objs.size ≤ p → h'.get? p = some (seqObj "list" out.toArray c) → EachIs R out (bs.mergeSort (dataLe false enc)) → Q (.ref p) { s with heap := h', toks := tk }) :
    wpAny (model prog w) A (call (.builtin "sorted") [.ref r]) Q E s := by
  refine call_function_entry kind_sorted plain_sorted entry_sorted (args_sorted1 _) ?_
  unfold Builtin.«sorted»
  refine wpAny_bind (m := checkCount "sorted" 1 1 _) (wpAny_pure ?_)
  refine wpAny_bind (collectK (A := A.in1) K hh hok hn fun h' tk acc hk' hlt hacc => ?_)
  have e := hP acc hacc
  have hlen : acc.toList.length ≤ sizeLine := by rw [Array.length_toList, hacc.1]; exact hn
  refine wpAny_bind (wpAny_newList ?_ hlen)
  generalize acc.toList = vs at e hlen ⊢
  have hoL : (h'.push (seqObj "list" vs.toArray 0)).get? h'.objs.size = some (seqObj "list" vs.toArray 0) := Heap.get?_push_size _ rfl
  have old : ∀ b o, s.heap.get? b = some o → (sortingHeap (h'.push (seqObj "list" vs.toArray 0)) h'.objs.size vs).get? b = some o := fun b o q => by
    have q1 := hk' b o q
    have lt := Heap.lt_size q1
    exact sortingHeap_old (Nat.ne_of_lt lt) (Heap.get?_push_of_some _ q1)
  have er' : EachIs (fun v b => ∃ as, Reads (sortingHeap (h'.push (seqObj "list" vs.toArray 0)) h'.objs.size vs) v (enc b) as) vs bs := by
    refine (each_mem e).mono fun v b x => ?_
    obtain ⟨as, q⟩ := hR v b x.2 x.1
    exact ⟨as, PyProof.Rows.Reads.keeps old q⟩
  refine wpAny_bind (wpAny_holding (wpAny_call_entry slot_list_sort ⟨_, hoL, rfl⟩ entry_list_sort
    (list_sort_vals (κ := dataKind (sortingHeap (h'.push (seqObj "list" vs.toArray 0)) h'.objs.size vs) (bs.map enc)) (s := { s with heap := h'.push (seqObj "list" vs.toArray 0), toks := tk }) hoL
      (SortsAt.data (s := { s with heap := sortingHeap (h'.push (seqObj "list" vs.toArray 0)) h'.objs.size vs, toks := tk }) (each_map (R := fun v d => ∃ as, Reads (sortingHeap (h'.push (seqObj "list" vs.toArray 0)) h'.objs.size vs) v d as) enc er') hal hk (bound_map hu)) hlen ⟨.none, rfl, ?_⟩) (args_list_sort _)))
  have out := sortVals_data false e er' hal
  obtain ⟨c, hc⟩ := sortedHeap_at (vs := vs) (out := (sortVals (dataKind (sortingHeap (h'.push (seqObj "list" vs.toArray 0)) h'.objs.size vs) (bs.map enc)) false vs vs).toArray) hoL
  refine wpAny_pure ⟨_, rfl, h _ tk h'.objs.size _ c (fun b o q => ?_) (Nat.le_of_lt hlt) hc out⟩
  have q1 := hk' b o q
  have lt := Heap.lt_size q1
  exact (sortedHeap_old (Nat.ne_of_lt lt) (by rw [Heap.size_push]; exact Nat.lt_succ_of_lt lt)).trans (Heap.get?_push_of_some _ q1)
end
end Gx
set_option maxRecDepth 100000
set_option maxHeartbeats 4000000
namespace Kl
open PySem PySem.Spec PyProof.Rows L2 Gx Mx
abbrev KW := Str × List Str
def keyK (p : KW) : NestedKey := .tup [.text p.1, .tup (p.2.map .text)]
theorem texts_injK : ∀ {a b : List Str}, a.map NestedKey.text = b.map NestedKey.text → a = b
  | [], [], _ => rfl
  | [], _ :: _, e => by simp at e
  | _ :: _, [], e => by simp at e
  | x :: xs, y :: ys, e => by
    rw [List.map_cons, List.map_cons] at e
    injection e with e1 e2
    injection e1 with e1
    rw [e1, texts_injK e2]
theorem keyK_inj {p q : KW} (e : keyK p = keyK q) : p = q := by
  obtain ⟨a, b⟩ := p
  obtain ⟨c, d⟩ := q
  unfold keyK at e
  injection e with e
  injection e with e1 e2
  injection e1 with e1
  injection e2 with e2 _
  injection e2 with e2
  rw [show a = c from e1, show b = d from texts_injK e2]
theorem depth_keyT : ∀ l : List Str, NestedKey.depthAll (l.map .text) = 0
  | [] => by simp [NestedKey.depthAll]
  | x :: xs => by rw [List.map_cons, NestedKey.depthAll, depth_keyT xs]; simp [NestedKey.depth]
theorem depthK (p : KW) : (keyK p).depth = 2 := by
  unfold keyK
  rw [NestedKey.depth, NestedKey.depthAll, NestedKey.depthAll, NestedKey.depthAll, NestedKey.depth, NestedKey.depth, depth_keyT]
  rfl
theorem keyT_all {K : PySem.W.Frag} {H : Hp} : ∀ l : List Str, KeyAll K H (l.map .text) (l.map V.str)
  | [] => .nil
  | x :: xs => .cons (.text x) (keyT_all xs)
theorem keyT_inv {K : PySem.W.Frag} {H : Hp} : ∀ {l : List Str} {vs : List V}, KeyAll K H (l.map .text) vs → vs = l.map V.str
  | [], _, h => by cases h; rfl
  | x :: xs, _, h => by
    rw [List.map_cons] at h
    cases h with
    | cons h1 h2 =>
      cases h1
      rw [keyT_inv h2]
      rfl
theorem keyK_at {K : PySem.W.Frag} {H : Hp} {a : Addr} {p : KW} : KeyA K H a (keyK p) ↔ ∃ g, SqT K H a [.str p.1, .ref g] ∧ SqT K H g (p.2.map V.str) := by
  constructor
  · rintro ⟨h, _⟩
    unfold keyK at h
    cases h with
    | tup h1 h2 =>
      cases h2 with
      | cons q1 q2 =>
        cases q1
        cases q2 with
        | cons q3 q4 =>
          cases q4
          cases q3 with
          | tup q5 q6 =>
            rw [keyT_inv q6] at q5
            exact ⟨_, h1, q5⟩
  · rintro ⟨g, h1, h2⟩
    refine ⟨?_, by rw [depthK]; omega⟩
    unfold keyK
    exact .tup h1 (.cons (.text _) (.cons (.tup h2 (keyT_all p.2)) .nil))
/-- entries with such keys -/
abbrev ML := List (KW × Addr × V)
def toN (M : ML) : NL := M.map fun x => (keyK x.1, x.2)
def prM (M : ML) : List (KW × V) := M.map fun x => (x.1, x.2.2)
theorem valV_keyK (p : KW) : ∀ M : ML, valV (M.map fun x => (keyK x.1, x.2.2)) (keyK p) = valV (M.map fun x => (x.1, x.2.2)) p
  | [] => rfl
  | x :: M => by
    have ih := valV_keyK p M
    rw [List.map_cons, List.map_cons]
    by_cases e : x.1 = p
    · rw [valV_pos (p := (keyK x.1, x.2.2)) (show keyK x.1 = keyK p by rw [e]), valV_pos (p := (x.1, x.2.2)) e]
    · rw [valV_neg (p := (keyK x.1, x.2.2)) (fun z : keyK x.1 = keyK p => e (keyK_inj z)), valV_neg (p := (x.1, x.2.2)) e]
      exact ih
theorem getN_to (M : ML) (p : KW) : getN (toN M) (keyK p) = valV (prM M) p := by
  unfold getN toN prN prM
  rw [List.map_map]
  exact valV_keyK p M
def putM (M : ML) (k : KW) (a : Addr) (v : V) : ML := if (valV (prM M) k).isSome = true then M.map (fun x => if x.1 = k then (x.1, x.2.1, v) else x) else M ++ [(k, a, v)]
theorem putN_to (M : ML) (k : KW) (a : Addr) (v : V) : putN (toN M) (keyK k) a v = toN (putM M k a v) := by
  unfold putN putM
  rw [getN_to]
  split
  · unfold toN
    rw [List.map_map, List.map_map]
    refine List.map_congr_left fun x _ => ?_
    by_cases e : x.1 = k
    · simp [e]
    · have : ¬ keyK x.1 = keyK k := fun z => e (keyK_inj z)
      simp [e, this]
  · simp [toN]
def ltK (p q : KW) : Bool := if p.1 = q.1 then ltT p.2 q.2 else ltCps p.1.cps.toList q.1.cps.toList
def encK (p : KW) : PyData := .tuple [.str p.1, .tuple (tD p.2)]
theorem ltK_irrefl (p : KW) : ltK p p = false := by
  unfold ltK
  rw [if_pos rfl, ltT_irrefl]
theorem ltK_total (p q : KW) : ltK p q = true ∨ p = q ∨ ltK q p = true := by
  obtain ⟨a, b⟩ := p
  obtain ⟨c, d⟩ := q
  unfold ltK
  by_cases e : a = c
  · subst e
    rw [if_pos rfl, if_pos rfl]
    rcases ltT_total b d with h | h | h
    · exact .inl h
    · exact .inr (.inl (by rw [show b = d from h]))
    · exact .inr (.inr h)
  · rw [if_neg e, if_neg fun z => e z.symm]
    cases q : ltCps a.cps.toList c.cps.toList with
    | true => exact .inl rfl
    | false => exact .inr (.inr (cps_total e q))
theorem ltK_trans {p q r : KW} (h1 : ltK p q = true) (h2 : ltK q r = true) : ltK p r = true := by
  obtain ⟨a, b⟩ := p
  obtain ⟨c, d⟩ := q
  obtain ⟨x, y⟩ := r
  unfold ltK at h1 h2 ⊢
  dsimp only at h1 h2 ⊢
  by_cases e : a = c
  · subst e
    rw [if_pos rfl] at h1
    by_cases e2 : a = x
    · rw [if_pos e2] at h2 ⊢
      exact ltT_trans _ _ _ h1 h2
    · rw [if_neg e2] at h2 ⊢
      exact h2
  · rw [if_neg e] at h1
    by_cases e2 : c = x
    · subst e2
      rw [if_neg e]
      exact h1
    · rw [if_neg e2] at h2
      have h3 := cps_trans h1 h2
      by_cases e3 : a = x
      · subst e3
        rw [cps_irrefl] at h3
        cases h3
      · rw [if_neg e3]
        exact h3
theorem ltK_asym {p q : KW} (h : ltK p q = true) : ltK q p = false := by
  cases e : ltK q p with
  | false => rfl
  | true =>
    have := ltK_trans h e
    rw [ltK_irrefl] at this
    cases this
theorem leK_trans {p q r : KW} (h1 : ltK q p = false) (h2 : ltK r q = false) : ltK r p = false := by
  cases e : ltK r p with
  | false => rfl
  | true =>
    rcases ltK_total q p with h | h | h
    · rw [h] at h1; cases h1
    · rw [← h, h2] at e
      cases e
    · rw [ltK_trans e h] at h2
      cases h2
theorem alike_keys (p q : KW) : PySem.W.alike (encK p) (encK q) = true := by
  unfold encK
  simp only [PySem.W.alike, PySem.W.alikeAll, alike_texts, Bool.and_self]
theorem lt_keys (p q : KW) : PySem.W.dataLt (encK p) (encK q) = ltK p q := by
  unfold encK ltK
  rw [PySem.W.dataLt_pair (by rfl) (by simp only [PySem.W.alike]; exact alike_texts _ _)]
  by_cases e : p.1 = q.1
  · rw [if_pos e, if_pos (by simp [PyData.eqv, e])]
    by_cases e2 : p.2 = q.2
    · rw [if_pos (by rw [e2, PyData.eqv, eqv_texts]; simp), e2, ltT_irrefl]
    · rw [if_neg (by rw [PyData.eqv, eqv_texts]; simp [e2]), lt_texts]
  · rw [if_neg e, if_neg (by simp [PyData.eqv, e]), PySem.W.dataLt_str, ltCps_eq]
section
variable {X : Cx} {P : Program} {w : World} {K : PySem.W.Frag}
theorem key_dp {H : Hp} {a : Addr} {p : KW} (h : KeyA K H a (keyK p)) : Dp K H (.ref a) (encK p) := by
  obtain ⟨g, h1, h2⟩ := keyK_at.mp h
  exact .tup h1 (.cons (.str _) (.cons (.tup h2 (dp_texts p.2)) .nil))
def rSortN (P : Program) (w : World) (K : PySem.W.Frag) : List V → Hp → VK → Prop := fun vs H Q => ∃ (a : Addr) (L : ML), vs = [V.ref a] ∧ NDict P w K H a (toN L) ∧ L.length ≤ 100000 ∧
  ∀ (L' : ML) (p : Addr), L'.Perm L → L'.Pairwise (fun a b => ltK b.1 a.1 = false) → H p = none → Q (.ref p) (upd H p (.lst (L'.map fun x => V.ref x.2.1)))
theorem eachN : ∀ {L : ML} {us : List Value}, (∀ (i : Nat) (x : KW × Addr × V), L[i]? = some x → us[i]? = some (Value.ref x.2.1)) → us.length = L.length → PySem.W.EachIs (fun v (b : KW × Addr × V) => v = Value.ref b.2.1) us L
  | [], [], _, _ => .nil
  | [], _ :: _, _, h => by simp at h
  | _ :: _, [], _, h => by simp at h
  | x :: L, u :: us, h, hl => .cons (Option.some.inj (h 0 x rfl)) (eachN (fun i y hy => by simpa using h (i + 1) y (by simpa using hy)) (by simpa using hl))
theorem valsN : ∀ {L : ML} {us : List Value}, PySem.W.EachIs (fun v (b : KW × Addr × V) => v = Value.ref b.2.1) us L → Vals (L.map fun x => V.ref x.2.1) us
  | [], _, .nil => .nil
  | _ :: _, _, .cons h t => .cons h (valsN t)
theorem cr_sortedN (hx : XI X P w K) (hc : X.calm = true) (hu : X.A.units + 64 < cLine) : CallR X (.builtin "sorted") (rSortN P w K) := by
  obtain ⟨rfl, rfl, rfl⟩ := hx
  intro pins s σ H vs us Q I r h
  obtain ⟨a, L, rfl, ha, hL, q⟩ := h
  rw [Vals.ref1 r]
  obtain ⟨z, hd, es, ep, raw, hs, hi0⟩ := n_raw I ha.1
  have hi : ∀ (i : Nat) (x : KW × Addr × V), L[i]? = some x → ∃ en, es[i]? = some en ∧ en.key = .ref x.2.1 ∧ RelV x.2.2 en.val := fun i x e => hi0 i (keyK x.1, x.2) (by unfold toN; rw [List.getElem?_map, e]; rfl)
  have hl : (toN L).length = L.length := by unfold toN; rw [List.length_map]
  rw [hl] at z hs
  refine sortedK (KdlSrc.rawDict hd) (I.ok.hd hc) raw (by rw [hs]; exact z) (fun v b => v = Value.ref b.2.1) (fun b : KW × Addr × V => encK b.1) L (fun acc hacc => ?_) (fun v b hb e => ?_) ?_ ?_ (fun b hb => ?_) fun h' tk p out c hk hp hg ho => ?_
  · refine eachN (fun i x hx => ?_) (by rw [Array.length_toList, hacc.1, hs])
    obtain ⟨en, e1, e2, _⟩ := hi i x hx
    have hj : i < acc.size := by
      have : i < L.length := (List.getElem?_eq_some_iff.mp hx).1
      rw [hacc.1, hs]; exact this
    obtain ⟨hlt, e3⟩ := hacc.2 i _ (Array.getElem?_eq_getElem hj)
    rw [Array.getElem?_toList, Array.getElem?_eq_getElem hj, e3]
    rw [Array.getElem?_eq_getElem hlt] at e1
    rw [Option.some.inj e1, e2]
  · exact Dp.reads I (encK b.1) (.ref b.2.1) v (key_dp (ha.2 _ (List.mem_map.mpr ⟨b, hb, rfl⟩))) e
  · exact PySem.W.AllAlike.of fun b b' => alike_keys b.1 b'.1
  · exact .inl fun d hd => by
      obtain ⟨b, hb, rfl⟩ := List.mem_map.mp hd
      exact ⟨_, _, rfl⟩
  · have := depth_texts b.1.2
    unfold encK
    simp only [PyData.depth, PyData.depthAll]
    omega
  · have hperm : (L.mergeSort (PySem.W.dataLe false fun b : KW × Addr × V => encK b.1)).Perm L := List.mergeSort_perm _ _
    have ele : ∀ a b : KW × Addr × V, PySem.W.dataLe false (fun b : KW × Addr × V => encK b.1) a b = !ltK b.1 a.1 := fun a b => by
      rw [PySem.W.dataLe_eq]
      show (!PySem.W.dataLt (encK b.1) (encK a.1)) = _
      rw [lt_keys]
    have hsrt := List.pairwise_mergeSort (le := PySem.W.dataLe false fun b : KW × Addr × V => encK b.1) (fun a b c h1 h2 => by
      rw [ele, Bool.not_eq_true'] at h1 h2 ⊢
      exact leK_trans h1 h2) (fun a b => by
      rw [ele, ele]
      cases e : ltK b.1 a.1 with
      | false => rfl
      | true => rw [ltK_asym e]; rfl) L
    generalize L.mergeSort (PySem.W.dataLe false fun b : KW × Addr × V => encK b.1) = L' at ho hperm hsrt
    have hlen : (L'.map fun x => V.ref x.2.1).length ≤ sizeLine := by rw [List.length_map, hperm.length_eq]; exact z
    exact ⟨.ref p, upd H p (.lst (L'.map fun x => V.ref x.2.1)), I.laid (t' := tk) hk hp ⟨hlen, out, c, valsN ho, hg⟩, rfl, q L' p hperm (hsrt.imp fun {a b} h => by rw [ele] at h; simpa using h) (I.hok.fresh hp)⟩
end
end Kl
set_option maxRecDepth 100000
set_option maxHeartbeats 4000000
namespace Gx
open PySem PySem.W PySem.Calls PyProof.Rows PyProof.V PySem.Spec
end Gx
namespace Gx
open PySem PySem.Spec PyProof.Rows L2
end Gx
set_option maxRecDepth 100000
set_option maxHeartbeats 4000000
namespace Gx
open PySem PySem.Spec PyProof.Rows L2
def foldN (acc M : NL) : NL := M.foldl (fun a e => putN a e.1 e.2.1 e.2.2) acc
theorem NR.merge : ∀ {M : NL} {ps : List (NestedKey × Addr × Value)} {acc : NL} {xs : List (NestedKey × Addr × Value)}, NR M ps → NR acc xs → NR (foldN acc M) (storedAllH xs ps)
  | [], _, _, _, .nil, r => r
  | x :: M, q :: ps, acc, xs, .cons h t, r => by
    obtain ⟨h1, h2, h3⟩ := h
    have e : NR (putN acc x.1 x.2.1 x.2.2) (storedH xs q.1 q.2.1 q.2.2) := by
      rw [h1, h2]
      exact r.put x.1 h3
    have z := NR.merge t e
    exact z
theorem foldN_len : ∀ (M acc : NL), (foldN acc M).length ≤ acc.length + M.length
  | [], acc => by show acc.length ≤ acc.length + 0; omega
  | x :: M, acc => by
    have h1 := foldN_len M (putN acc x.1 x.2.1 x.2.2)
    have h2 := putN_len acc x.1 x.2.1 x.2.2
    show (foldN (putN acc x.1 x.2.1 x.2.2) M).length ≤ _
    rw [List.length_cons]
    omega
theorem putN_new {L : NL} {k : NestedKey} {a : Addr} {v : V} (h : k ∉ L.map (·.1)) : putN L k a v = L ++ [(k, a, v)] := by
  unfold putN
  rw [if_neg]
  intro q
  unfold getN at q
  rw [← valV_any] at q
  obtain ⟨x, hx, e⟩ := List.any_eq_true.mp q
  unfold prN at hx
  obtain ⟨y, hy, rfl⟩ := List.mem_map.mp hx
  exact h (List.mem_map.mpr ⟨y, hy, by simpa using e⟩)
theorem foldN_nodup : ∀ (M acc : NL), ((acc ++ M).map (·.1)).Nodup → foldN acc M = acc ++ M
  | [], acc, _ => by rw [List.append_nil]; rfl
  | x :: M, acc, h => by
    have e : acc ++ x :: M = (acc ++ [x]) ++ M := by rw [List.append_assoc]; rfl
    have hn : x.1 ∉ acc.map (·.1) := by
      rw [List.map_append, List.map_cons] at h
      have := (List.nodup_append.mp h).2.2
      exact fun z => this _ z _ List.mem_cons_self rfl
    show foldN (putN acc x.1 x.2.1 x.2.2) M = _
    rw [putN_new hn, e, ← foldN_nodup M (acc ++ [x]) (by rw [← e]; exact h)]
section
variable {X : Cx} {P : Program} {w : World} {K : PySem.W.Frag}
theorem pairsN {pins : List (Addr × Obj)} {σ : L2.St} {H : Hp} {s : Shared} (I : Inv X pins σ H s) : ∀ {ps : List Addr} {M : NL}, Paired (fun p e => SqT X.K H p [V.ref e.2.1, e.2.2]) ps M →
    ∃ prs : List (NestedKey × Addr × Value), NR M prs ∧ prs.length = ps.length ∧ ∀ (j : Nat) (q : NestedKey × Addr × Value), prs[j]? = some q → ∃ b : Addr, ps[j]? = some b ∧ IsTup s.heap b #[Value.ref q.2.1, q.2.2]
  | _, _, .nil => ⟨[], .nil, rfl, fun j q e => by simp at e⟩
  | _, _, .cons (a := p) (b := x) h t => by
    obtain ⟨prs, r, hl, hp⟩ := pairsN I t
    obtain ⟨its, rv, ht, _⟩ := I.tuple h
    obtain ⟨u, y, ei, ru, ry⟩ := vals2 rv
    subst ei
    obtain rfl : u = Value.ref x.2.1 := ru
    refine ⟨(x.1, x.2.1, y) :: prs, .cons ⟨rfl, rfl, ry⟩ r, by rw [List.length_cons, List.length_cons, hl], fun j q e => ?_⟩
    cases j with
    | zero =>
      have e' : (x.1, x.2.1, y) = q := Option.some.inj e
      subst e'
      exact ⟨p, rfl, ht⟩
    | succ j =>
      obtain ⟨b, e1, e2⟩ := hp j q (by simpa using e)
      exact ⟨b, by simpa using e1, e2⟩
def rDictN (P : Program) (w : World) (K : PySem.W.Frag) : List V → Hp → VK → Prop := fun vs H Q => ∃ (a : Addr) (ps : List Addr) (M : NL), vs = [V.ref a] ∧ SqL K H a (ps.map V.ref) ∧ Paired (fun p e => SqT K H p [V.ref e.2.1, e.2.2]) ps M ∧
  (∀ e ∈ M, KeyA K H e.2.1 e.1) ∧ ∀ p, H p = none → Q (.ref p) (upd H p (DN P w p (foldN [] M)))
theorem call_dictN (hx : XI X P w K) (hc : X.calm = true) (hu : X.A.units + 64 < cLine) : CallR X (.type "dict") (rDictN P w K) := by
  obtain ⟨rfl, rfl, rfl⟩ := hx
  intro pins s σ H vs us Q I r h
  obtain ⟨a, ps, M, rfl, ha, hp, hk, q⟩ := h
  rw [Vals.ref1 r]
  obtain ⟨its, rv, ⟨o, n, ho, hcl, hdi, hdat⟩, hz⟩ := I.list ha
  have ei := refs_at rv
  subst ei
  rw [List.length_map] at hz
  obtain ⟨prs, rel, hl, hpr⟩ := pairsN I hp
  have hM : M.length = prs.length := rel.length
  let pv : List (Value × Value) := prs.map fun x => (Value.ref x.2.1, x.2.2)
  have hpv : pv.length = prs.length := by simp [pv]
  have pat : ∀ (j : Nat) (k v : Value), pv[j]? = some (k, v) → ∃ x : NestedKey × Addr × Value, prs[j]? = some x ∧ k = Value.ref x.2.1 ∧ v = x.2.2 := fun j k v e => by
    simp only [pv, List.getElem?_map] at e
    cases hx : prs[j]? with
    | none => rw [hx] at e; cases e
    | some x =>
      rw [hx] at e
      cases e
      exact ⟨x, rfl, rfl, rfl⟩
  refine call_dict_pairsH (knd := nestedKind X.prog X.w) (ps := prs) (PairArg.list a (ps.map Value.ref).toArray (fun j => ps.getD j 0) pv) (I.ok.hd hc) (show X.A.units + 1 + 1 + 8 < cLine by omega)
    ⟨⟨o, n, ho, hcl, hdi, hdat⟩, by rw [hpv, List.size_toArray, List.length_map, hl], fun j k v e => ?_⟩ ⟨hpv.symm, fun j k v e => ?_⟩ ?_ (by rw [hpv, hl]; exact hz) fun h' tk hd' hk' => ?_
  · obtain ⟨x, hx, rfl, rfl⟩ := pat j k v e
    obtain ⟨b, hb, ht⟩ := hpr j x hx
    refine ⟨?_, .inl ?_⟩
    · simp [hb]
    · have eb : ps.getD j 0 = b := by simp [hb]
      show s.heap.IsTuple (ps.getD j 0) _
      rw [eb]
      exact ht
  · obtain ⟨x, hx, rfl, rfl⟩ := pat j k v e
    exact ⟨x.1, x.2.1, hx, rfl⟩
  · intro h' hk' x hx
    have hd0 : ∀ b o, s.heap.get? b = some o → b ≠ s.heap.objs.size := fun b o e => Nat.ne_of_lt (Heap.lt_size e)
    obtain ⟨i, hi⟩ := List.mem_iff_getElem?.mp hx
    have all : ∀ {l : NL} {m : List (NestedKey × Addr × Value)}, NR l m → (∀ x ∈ l, KeyA X.K H x.2.1 x.1) → ∀ x ∈ m, (nestedKind X.prog X.w).is s.heap x.1 x.2.1 := by
      intro l m q
      induction q with
      | nil => intro _ x hx; exact nomatch hx
      | @cons p q ps qs hq t ih =>
        intro hl x hx
        rcases List.mem_cons.mp hx with e | hx
        · subst e
          rw [hq.1, hq.2.1]
          exact nkey_of I (hl p List.mem_cons_self)
        · exact ih (fun y hy => hl y (List.mem_cons_of_mem _ hy)) x hx
    exact nestedKind_stays.stays (fun b ob _ _ e _ => hk' b ob (hd0 b ob e) (fun z => nomatch z) e) (all rel hk x hx)
  · have hm : (s.heap.objs.size == sysModules) = false := beq_eq_false_iff_ne.mpr (Nat.ne_of_gt I.big)
    have hlen : (foldN [] M).length ≤ sizeLine := by
      refine Nat.le_trans (foldN_len M []) ?_
      rw [List.length_nil, Nat.zero_add, hM, hl]
      exact hz
    obtain ⟨o', es, ep, h1, h2, h3, h4, _, h5⟩ := hd'
    exact ⟨.ref s.heap.objs.size, upd H s.heap.objs.size (DN X.prog X.w s.heap.objs.size (foldN [] M)), I.laid (t' := tk) (fun b ob e => hk' b ob (fun z => nomatch z) e) (Nat.le_refl _)
      (dn_ok ⟨hlen, hm, _, NR.merge rel .nil, o', es, ep, h1, h2, h3, h4, h5⟩), rfl, q _ (I.hok.fresh (Nat.le_refl _))⟩
end
end Gx
set_option maxRecDepth 100000
set_option maxHeartbeats 4000000
namespace Kl
open PySem PySem.Spec PyProof.Rows L2 Gx
def topS (i : Nat) : Stmt := PySem.Challenge.pw_linkbooks_k19_whole_rows_taken.main.body.getD i (.Pass ⟨0, 0, 0, 0⟩)
abbrev s_wall : Stmt := topS 0
abbrev s_is_integer : Stmt := topS 10
theorem sc_is_integer : FnScope ["value"] ["value"] (defScope s_is_integer) := ⟨rfl, rfl, rfl, by decide +kernel, rfl, by decide +kernel, by decide +kernel⟩
abbrev s_is_count : Stmt := topS 11
theorem sc_is_count : FnScope ["value"] ["value"] (defScope s_is_count) := ⟨rfl, rfl, rfl, by decide +kernel, rfl, by decide +kernel, by decide +kernel⟩
abbrev s_is_name : Stmt := topS 12
theorem sc_is_name : FnScope ["value"] ["value"] (defScope s_is_name) := ⟨rfl, rfl, rfl, by decide +kernel, rfl, by decide +kernel, by decide +kernel⟩
abbrev s_is_sorted : Stmt := topS 13
theorem sc_is_sorted : FnScope ["value", "most", "name"] ["value", "most"] (defScope s_is_sorted) := ⟨rfl, rfl, rfl, by decide +kernel, rfl, by decide +kernel, by decide +kernel⟩
abbrev s_text_of : Stmt := topS 15
theorem sc_text_of : FnScope ["names"] ["names"] (defScope s_text_of) := ⟨rfl, rfl, rfl, by decide +kernel, rfl, by decide +kernel, by decide +kernel⟩
abbrev s_are_digits : Stmt := topS 20
theorem sc_are_digits : FnScope ["value", "digit"] ["value"] (defScope s_are_digits) := ⟨rfl, rfl, rfl, by decide +kernel, rfl, by decide +kernel, by decide +kernel⟩
abbrev s_are_loose_digits : Stmt := topS 21
theorem sc_are_loose_digits : FnScope ["value"] ["value"] (defScope s_are_loose_digits) := ⟨rfl, rfl, rfl, by decide +kernel, rfl, by decide +kernel, by decide +kernel⟩
abbrev s_is_digit : Stmt := topS 22
theorem sc_is_digit : FnScope ["value"] ["value"] (defScope s_is_digit) := ⟨rfl, rfl, rfl, by decide +kernel, rfl, by decide +kernel, by decide +kernel⟩
abbrev s_is_ascending : Stmt := topS 26
theorem sc_is_ascending : FnScope ["value"] ["value"] (defScope s_is_ascending) := ⟨rfl, rfl, rfl, by decide +kernel, rfl, by decide +kernel, by decide +kernel⟩
abbrev s_is_place : Stmt := topS 27
theorem sc_is_place : FnScope ["value"] ["value"] (defScope s_is_place) := ⟨rfl, rfl, rfl, by decide +kernel, rfl, by decide +kernel, by decide +kernel⟩
abbrev s_are_reads : Stmt := topS 28
theorem sc_are_reads : FnScope ["value", "place"] ["value"] (defScope s_are_reads) := ⟨rfl, rfl, rfl, by decide +kernel, rfl, by decide +kernel, by decide +kernel⟩
abbrev s_all_states : Stmt := topS 29
theorem sc_all_states : FnScope ["first", "ends", "reads", "befores", "afters", "state", "_", "place"] ["first", "ends", "reads"] (defScope s_all_states) := ⟨rfl, rfl, rfl, by decide +kernel, rfl, by decide +kernel, by decide +kernel⟩
abbrev s_is_reader : Stmt := topS 30
theorem sc_is_reader : FnScope ["first", "ends", "reads", "_", "digit", "after"] ["first", "ends", "reads"] (defScope s_is_reader) := ⟨rfl, rfl, rfl, by decide +kernel, rfl, by decide +kernel, by decide +kernel⟩
abbrev s_reached : Stmt := topS 31
theorem sc_reached : FnScope ["starts", "pairs", "found", "at", "before", "after"] ["starts", "pairs"] (defScope s_reached) := ⟨rfl, rfl, rfl, by decide +kernel, rfl, by decide +kernel, by decide +kernel⟩
abbrev s_spare : Stmt := topS 32
theorem sc_spare : FnScope ["first", "ends", "reads", "pairs", "begun", "live", "place", "after", "before"] ["first", "ends", "reads"] (defScope s_spare) := ⟨rfl, rfl, rfl, by decide +kernel, rfl, by decide +kernel, by decide +kernel⟩
abbrev s_representatives : Stmt := topS 33
abbrev s_lines_from : Stmt := topS 34
abbrev s_merged_states : Stmt := topS 35
abbrev s_law_dice : Stmt := topS 38
theorem sc_law_dice : FnScope ["_law_script", "_law_spot", "_law_cell", "_law_left"] ["_law_script", "_law_spot"] (defScope s_law_dice) := ⟨rfl, rfl, rfl, by decide +kernel, rfl, by decide +kernel, by decide +kernel⟩
abbrev s_law_roll : Stmt := topS 39
theorem sc_law_roll : FnScope ["_law_dice_here", "_law_total", "_law_found", "_law_one", "_law_two"] ["_law_dice_here", "_law_total"] (defScope s_law_roll) := ⟨rfl, rfl, rfl, by decide +kernel, rfl, by decide +kernel, by decide +kernel⟩
abbrev s_law_pick : Stmt := topS 40
theorem sc_law_pick : FnScope ["_law_dice_here", "_law_items"] ["_law_dice_here", "_law_items"] (defScope s_law_pick) := ⟨rfl, rfl, rfl, by decide +kernel, rfl, by decide +kernel, by decide +kernel⟩
abbrev s_law_mixed : Stmt := topS 41
theorem sc_law_mixed : FnScope ["_law_dice_here", "_law_items", "_law_left", "_law_found", "_law_turn"] ["_law_dice_here", "_law_items"] (defScope s_law_mixed) := ⟨rfl, rfl, rfl, by decide +kernel, rfl, by decide +kernel, by decide +kernel⟩
abbrev s_law_digit_text : Stmt := topS 42
theorem sc_law_digit_text : FnScope ["_law_digit"] ["_law_digit"] (defScope s_law_digit_text) := ⟨rfl, rfl, rfl, by decide +kernel, rfl, by decide +kernel, by decide +kernel⟩
abbrev s_law_made_reader : Stmt := topS 43
theorem sc_law_made_reader : FnScope ["_law_plain"] ["_law_plain"] (defScope s_law_made_reader) := ⟨rfl, rfl, rfl, by decide +kernel, rfl, by decide +kernel, by decide +kernel⟩
abbrev s_law_state_names : Stmt := topS 44
theorem sc_law_state_names : FnScope ["_law_dice_here", "_law_many"] ["_law_dice_here", "_law_many"] (defScope s_law_state_names) := ⟨rfl, rfl, rfl, by decide +kernel, rfl, by decide +kernel, by decide +kernel⟩
abbrev s_law_all_digits : Stmt := topS 45
theorem sc_law_all_digits : FnScope ["_law_names", "_law_found", "_law_at", "_law_one", "_law_second", "_law_more"] ["_law_names"] (defScope s_law_all_digits) := ⟨rfl, rfl, rfl, by decide +kernel, rfl, by decide +kernel, by decide +kernel⟩
abbrev s_law_some_digits : Stmt := topS 46
theorem sc_law_some_digits : FnScope ["_law_dice_here", "_law_most", "_law_names", "_law_others"] ["_law_dice_here", "_law_most"] (defScope s_law_some_digits) := ⟨rfl, rfl, rfl, by decide +kernel, rfl, by decide +kernel, by decide +kernel⟩
abbrev s_law_plain_reader : Stmt := topS 47
theorem sc_law_plain_reader : FnScope ["_law_dice_here", "_law_states", "_law_digits", "_law_names", "_law_some", "_law_reads", "_law_ends", "_law_calm", "_law_state", "_law_digit", "_law_pool"] ["_law_dice_here", "_law_states", "_law_digits"] (defScope s_law_plain_reader) := ⟨rfl, rfl, rfl, by decide +kernel, rfl, by decide +kernel, by decide +kernel⟩
abbrev s_law_reader_lines : Stmt := topS 48
theorem sc_law_reader_lines : FnScope ["_law_plain", "_law_found", "_law_state", "_law_digit"] ["_law_plain"] (defScope s_law_reader_lines) := ⟨rfl, rfl, rfl, by decide +kernel, rfl, by decide +kernel, by decide +kernel⟩
abbrev s_law_words : Stmt := topS 49
theorem sc_law_words : FnScope ["_law_digits", "_law_most", "_law_found", "_law_layer", "_law_turn", "_law_later", "_law_word", "_law_digit"] ["_law_digits", "_law_most"] (defScope s_law_words) := ⟨rfl, rfl, rfl, by decide +kernel, rfl, by decide +kernel, by decide +kernel⟩
abbrev s_law_is_walked : Stmt := topS 50
theorem sc_law_is_walked : FnScope ["_law_plain", "_law_reader", "_law_word", "_law_state", "_law_digit", "_law_due"] ["_law_plain", "_law_reader", "_law_word"] (defScope s_law_is_walked) := ⟨rfl, rfl, rfl, by decide +kernel, rfl, by decide +kernel, by decide +kernel⟩
abbrev s_law_long : Stmt := topS 51
theorem sc_law_long : FnScope ["_law_dice_here", "_law_plain", "_law_digits", "_law_word", "_law_state", "_law_many", "_law_turn", "_law_some", "_law_digit"] ["_law_dice_here", "_law_plain", "_law_digits"] (defScope s_law_long) := ⟨rfl, rfl, rfl, by decide +kernel, rfl, by decide +kernel, by decide +kernel⟩
abbrev s_law : Stmt := topS 52
theorem sc_law : FnScope ["_law_script", "_law_spot", "_law_dice_here", "_law_digits", "_law_plain", "_law_reader", "_law_other", "_law_aside", "_law_word", "_law_turn", "_law_lines", "_law_rows", "_law_told", "_law_row"] ["_law_script"] (defScope s_law) := ⟨rfl, rfl, rfl, by decide +kernel, rfl, by decide +kernel, by decide +kernel⟩
abbrev s_Reader_init : Stmt := inClass (topS 36) 0
theorem sc_Reader_init : FnScope ["self", "first", "ends", "reads", "place"] ["self", "first", "ends", "reads"] (defScope s_Reader_init) := ⟨rfl, rfl, rfl, by decide +kernel, rfl, by decide +kernel, by decide +kernel⟩
abbrev s_Reader_first : Stmt := inClass (topS 36) 2
abbrev s_Reader_ends : Stmt := inClass (topS 36) 3
abbrev s_Reader_reads : Stmt := inClass (topS 36) 4
abbrev s_Reader_states : Stmt := inClass (topS 36) 5
abbrev s_Reader_digits : Stmt := inClass (topS 36) 6
abbrev s_Reader_lines : Stmt := inClass (topS 36) 7
theorem sc_Reader_lines : FnScope ["self", "reads", "ends", "place"] ["self"] (defScope s_Reader_lines) := ⟨rfl, rfl, rfl, by decide +kernel, rfl, by decide +kernel, by decide +kernel⟩
abbrev s_Reader_behind : Stmt := inClass (topS 36) 9
theorem sc_Reader_behind : FnScope ["self", "digits", "state", "digit"] ["self", "digits"] (defScope s_Reader_behind) := ⟨rfl, rfl, rfl, by decide +kernel, rfl, by decide +kernel, by decide +kernel⟩
abbrev s_Reader_takes : Stmt := inClass (topS 36) 10
theorem sc_Reader_takes : FnScope ["self", "digits", "state"] ["self", "digits"] (defScope s_Reader_takes) := ⟨rfl, rfl, rfl, by decide +kernel, rfl, by decide +kernel, by decide +kernel⟩
abbrev s_Reader_least : Stmt := inClass (topS 36) 11
abbrev s_Reader_len : Stmt := inClass (topS 36) 12
abbrev s_Reader_eq : Stmt := inClass (topS 36) 13
abbrev s_Reader_str : Stmt := inClass (topS 36) 14
/-- the class Reader as the top has made it -/
structure Cl_Reader (K : PySem.W.Frag) (mg : Str → Option Value) (C : Addr) : Prop where
  gC : mg "Reader" = some (.ref C)
  cl : Cls K C
  n_first : NoAttr K C "_first"
  n_ends : NoAttr K C "_ends"
  n_reads : NoAttr K C "_reads"
  n_states : NoAttr K C "_states"
  n_spare : NoAttr K C "_spare"
  made : ∃ f fd, Mk K C f ∧ Fun K "__init__" "Reader.__init__" s_Reader_init f fd ∧ Binds K fd ["self", "first", "ends", "reads"] []
  p_first : PropD K C "first" "Reader.first" s_Reader_first
  p_ends : PropD K C "ends" "Reader.ends" s_Reader_ends
  p_reads : PropD K C "reads" "Reader.reads" s_Reader_reads
  p_states : PropD K C "states" "Reader.states" s_Reader_states
  p_digits : PropD K C "digits" "Reader.digits" s_Reader_digits
  p_lines : PropD K C "lines" "Reader.lines" s_Reader_lines
  m_behind : DefM K C "behind" "Reader.behind" s_Reader_behind ["self", "digits"]
  m_takes : DefM K C "takes" "Reader.takes" s_Reader_takes ["self", "digits"]
  m_least : DefM K C "least" "Reader.least" s_Reader_least ["self"]
  m_len : DefM K C "__len__" "Reader.__len__" s_Reader_len ["self"]
  m_eq : DefM K C "__eq__" "Reader.__eq__" s_Reader_eq ["self", "other"]
  m_str : DefM K C "__str__" "Reader.__str__" s_Reader_str ["self"]
  ne : PySem.W.findIn K (.ref C) "__ne__" = some (some (.builtin "object.__ne__"))
  ob : PySem.W.mroIn K C (.type "object") = some true
  kit : PySem.W.kitOne K (.ref C) (.ref C) = some true
  kitT : PySem.W.kitOne K (.type "tuple") (.ref C) = some false
  kitD : PySem.W.kitOne K (.type "dict") (.ref C) = some false
  kitR : PySem.W.kitOne K (.ref C) (.type "tuple") = some false
  kitS : PySem.W.kitOne K (.ref C) (.type "str") = some false
  kit_NoneType : PySem.W.kitOne K (.type "NoneType") (.ref C) = some false
  kit_int : PySem.W.kitOne K (.type "int") (.ref C) = some false
  kit_bool : PySem.W.kitOne K (.type "bool") (.ref C) = some false
  kit_str : PySem.W.kitOne K (.type "str") (.ref C) = some false
  kit_list : PySem.W.kitOne K (.type "list") (.ref C) = some false
  ca : PySem.W.findIn K (.ref C) "__class__" = some (some (.builtin "object.__class__"))
  cg : PySem.W.specialIn K (.builtin "object.__class__") "__get__" = some (some (.builtin "getset_descriptor.__get__"))
  ct : PySem.W.takesIn K (.builtin "object.__class__") = some true
/-- what the walk asks of the top -/
structure Top (K : PySem.W.Frag) (mg : Str → Option Value) : Prop where
  b_IndexError : mg "IndexError" = none
  b_ValueError : mg "ValueError" = none
  b_abs : mg "abs" = none
  b_all : mg "all" = none
  b_bool : mg "bool" = none
  b_classmethod : mg "classmethod" = none
  b_dict : mg "dict" = none
  b_enumerate : mg "enumerate" = none
  b_int : mg "int" = none
  b_isinstance : mg "isinstance" = none
  b_len : mg "len" = none
  b_list : mg "list" = none
  b_max : mg "max" = none
  b_min : mg "min" = none
  b_property : mg "property" = none
  b_range : mg "range" = none
  b_repr : mg "repr" = none
  b_set : mg "set" = none
  b_sorted : mg "sorted" = none
  b_str : mg "str" = none
  b_tuple : mg "tuple" = none
  g_MAX_LETTERS : ∃ t, mg "MAX_LETTERS" = some (.int 8 t)
  g__TOO_LONG : ∃ t, mg "_TOO_LONG" = some (.int 1000000000000000000000000000000000000000000000000000000000000 t)
  g_MAX_DIGIT : ∃ t, mg "MAX_DIGIT" = some (.int 3 t)
  g_LOOSE_DIGIT : ∃ t, mg "LOOSE_DIGIT" = some (.int 20 t)
  g__LOOSE_RANKS : ∃ t, mg "_LOOSE_RANKS" = some (.int 402 t)
  g_MAX_STATES : ∃ t, mg "MAX_STATES" = some (.int 6 t)
  g_MAX_READS : ∃ t, mg "MAX_READS" = some (.int 40 t)
  d_wall : Def K mg "_wall" "_wall" s_wall ["k"]
  d_is_integer : Def K mg "is_integer" "is_integer" s_is_integer ["value"]
  d_is_count : Def K mg "is_count" "is_count" s_is_count ["value"]
  d_is_name : Def K mg "is_name" "is_name" s_is_name ["value"]
  d_is_sorted : DefK K mg "is_sorted" "is_sorted" s_is_sorted ["value", "most"] 1 ["most"]
  d_text_of : Def K mg "text_of" "text_of" s_text_of ["names"]
  d_are_digits : Def K mg "are_digits" "are_digits" s_are_digits ["value"]
  d_are_loose_digits : Def K mg "are_loose_digits" "are_loose_digits" s_are_loose_digits ["value"]
  d_is_digit : Def K mg "is_digit" "is_digit" s_is_digit ["value"]
  d_is_ascending : Def K mg "_is_ascending" "_is_ascending" s_is_ascending ["value"]
  d_is_place : Def K mg "_is_place" "_is_place" s_is_place ["value"]
  d_are_reads : Def K mg "_are_reads" "_are_reads" s_are_reads ["value"]
  d_all_states : Def K mg "_all_states" "_all_states" s_all_states ["first", "ends", "reads"]
  d_is_reader : Def K mg "_is_reader" "_is_reader" s_is_reader ["first", "ends", "reads"]
  d_reached : Def K mg "_reached" "_reached" s_reached ["starts", "pairs"]
  d_spare : Def K mg "_spare" "_spare" s_spare ["first", "ends", "reads"]
  d_representatives : Def K mg "_representatives" "_representatives" s_representatives ["marks"]
  d_lines_from : Def K mg "_lines_from" "_lines_from" s_lines_from ["state", "reads", "names"]
  d_merged_states : Def K mg "_merged_states" "_merged_states" s_merged_states ["first", "ends", "reads"]
  d_law_dice : Def K mg "_law_dice" "_law_dice" s_law_dice ["_law_script", "_law_spot"]
  d_law_roll : Def K mg "_law_roll" "_law_roll" s_law_roll ["_law_dice_here", "_law_total"]
  d_law_pick : Def K mg "_law_pick" "_law_pick" s_law_pick ["_law_dice_here", "_law_items"]
  d_law_mixed : Def K mg "_law_mixed" "_law_mixed" s_law_mixed ["_law_dice_here", "_law_items"]
  d_law_digit_text : Def K mg "_law_digit_text" "_law_digit_text" s_law_digit_text ["_law_digit"]
  d_law_made_reader : Def K mg "_law_made_reader" "_law_made_reader" s_law_made_reader ["_law_plain"]
  d_law_state_names : Def K mg "_law_state_names" "_law_state_names" s_law_state_names ["_law_dice_here", "_law_many"]
  d_law_all_digits : Def K mg "_law_all_digits" "_law_all_digits" s_law_all_digits ["_law_names"]
  d_law_some_digits : Def K mg "_law_some_digits" "_law_some_digits" s_law_some_digits ["_law_dice_here", "_law_most"]
  d_law_plain_reader : Def K mg "_law_plain_reader" "_law_plain_reader" s_law_plain_reader ["_law_dice_here", "_law_states", "_law_digits"]
  d_law_reader_lines : Def K mg "_law_reader_lines" "_law_reader_lines" s_law_reader_lines ["_law_plain"]
  d_law_words : Def K mg "_law_words" "_law_words" s_law_words ["_law_digits", "_law_most"]
  d_law_is_walked : Def K mg "_law_is_walked" "_law_is_walked" s_law_is_walked ["_law_plain", "_law_reader", "_law_word"]
  d_law_long : Def K mg "_law_long" "_law_long" s_law_long ["_law_dice_here", "_law_plain", "_law_digits"]
  c_Reader : ∃ C, Cl_Reader K mg C
  p_InvalidReader : ∃ C, XPln K mg "InvalidReader" "ValueError.__new__" "ValueError.__init__" [.type "ValueError", .type "Exception", .type "BaseException", .type "object"] C ∧ XCls K C ∧ PySem.W.exmOne K (.ref C) (.ref C) = some true
end Kl
set_option maxRecDepth 100000
set_option maxHeartbeats 4000000
namespace Kl
open PySem PySem.Spec PyProof.Rows L2 Gx Mx
section
variable {P : Program} {w : World} {K : PySem.W.Frag} {mg : Str → Option Value} {base : Heap}
theorem tyx_same {H H' : Hp} (sm : Same H H') {v : V} {t : Value} (h : TyX K H v t) : TyX K H' v t := by
  cases h with
  | base b =>
    cases b with
    | non => exact .base .non
    | bl x => exact .base (.bl x)
    | int i => exact .base (.int i)
    | str x => exact .base (.str x)
    | flt x => exact .base (.flt x)
    | lst e => exact .base (.lst (sm _ _ e))
    | frz e => exact .base (.frz (sm _ _ e))
    | tup e => exact .base (.tup (sm _ _ e))
    | dK e => exact .base (.dK (sm _ _ e))
    | dT e => exact .base (.dT (sm _ _ e))
    | ins e cl ha hn htk hm => exact .base (.ins (sm _ _ e) cl ha hn htk hm)
  | byt b => exact .byt b
  | set e => exact .set (sm _ _ e)
  | kList e c => exact .kList e c
  | kTuple e c => exact .kTuple e c
  | kDict e c => exact .kDict e c
  | fTuple e => exact .fTuple (sm _ _ e)
  | fDict e => exact .fDict (sm _ _ e)
/-- the value is no instance of this built-in class -/
def Not (K : PySem.W.Frag) (H : Hp) (v : V) (T : String) : Prop := ∃ t, TyX K H v t ∧ PySem.W.kitOne K t (.type T) = some false
theorem Not.same {H H' : Hp} (sm : Same H H') {v : V} {T : String} (h : Not K H v T) : Not K H' v T := by
  obtain ⟨t, a, b⟩ := h
  exact ⟨t, tyx_same sm a, b⟩
/-- text, or not -/
def NameArg (K : PySem.W.Frag) (H : Hp) (v : V) : Prop := (∃ z : Str, v = .str z ∧ z.length ≤ sizeLine) ∨ ((∀ z, v ≠ .str z) ∧ Not K H v "str")
theorem NameArg.same {H H' : Hp} (sm : Same H H') {v : V} (h : NameArg K H v) : NameArg K H' v := by
  rcases h with h | ⟨a, b⟩
  · exact .inl h
  · exact .inr ⟨a, b.same sm⟩
/-- int, truth, or neither -/
def IntArg (K : PySem.W.Frag) (H : Hp) (v : V) : Prop := (∃ i, v = .int i) ∨ (∃ b, v = .bl b) ∨ ((∀ i, v ≠ .int i) ∧ Not K H v "int")
theorem IntArg.same {H H' : Hp} (sm : Same H H') {v : V} (h : IntArg K H v) : IntArg K H' v := by
  rcases h with h | h | ⟨a, b⟩
  · exact .inl h
  · exact .inr (.inl h)
  · exact .inr (.inr ⟨a, b.same sm⟩)
def TEN60 : Int := 1000000000000000000000000000000000000000000000000000000000000
def intV : V → Bool
  | .int i => decide (-TEN60 < i) && decide (i < TEN60)
  | _ => false
def cntV : V → Bool
  | .int i => (decide (-TEN60 < i) && decide (i < TEN60)) && decide (0 ≤ i)
  | _ => false
def spInt (K : PySem.W.Frag) : Sp := fun vs H Q _ => ∃ v : V, vs = [v] ∧ IntArg K H v ∧ Q (.bl (intV v)) H
theorem ok_int {f : Addr} {fd : FuncData} (F : Fun K "is_integer" "is_integer" s_is_integer f fd) (T : Top K mg) : FnOk P w K mg base CX0 1 f fd ["value"] (spInt K) := by
  obtain ⟨tm, gm⟩ := T.g__TOO_LONG
  refine F.ok sc_is_integer (fun vs H Q E h => ?_) (fun cdv A outer s H vs Q E hr h => ?_)
  · obtain ⟨v, rfl, _⟩ := h
    rfl
  · obtain ⟨v, rfl, hv, q⟩ := h
    refine ⟨_, pss_cons (ps_if (PW.pt (pw_or (pt_not (pt_val (pe_callB call_isi (by rfl) T.b_isinstance (by decide +kernel) (pa_cons (pv 0) (pa_cons (pe_bltn (v := .ty "int") (by rfl) T.b_int (by decide +kernel) rfl) pa_nil)))))
          (pw_or1 (pt_val (pe_callB call_isi (by rfl) T.b_isinstance (by decide +kernel) (pa_cons (pv 0) (pa_cons (pe_bltn (v := .ty "bool") (by rfl) T.b_bool (by decide +kernel) rfl) pa_nil)))))))
        (pss_one (ps_ret pe_bl)) pss_nil)
      (pss_one (ps_ret (pe_chain op_lt op_lt (pe_un un_neg (pe_glob (v := .int TEN60) (by rfl) gm ⟨_, rfl⟩)) (pv 0) (pe_glob (v := .int TEN60) (by rfl) gm ⟨_, rfl⟩)))), ?_⟩
    rcases hv with ⟨i, rfl⟩ | ⟨b, rfl⟩ | ⟨hn, t, ht, hk⟩
    · refine ⟨_, rfl, _, .ty "int", .type "int", .type "int", true, rfl, .ty _, .base (.int i), kit_ty (by decide +kernel), true, rfl, ?_⟩
      refine ⟨_, rfl, _, .ty "bool", .type "int", .type "bool", false, rfl, .ty _, .base (.int i), kit_ty (by decide +kernel), false, rfl, ?_⟩
      refine ⟨_, rfl, _, rfl, _, _, rfl, rfl, _, rfl, ?_⟩
      have q' : Q (.bl (decide (-TEN60 < i) && decide (i < TEN60))) H := q
      cases e : decide (-TEN60 < i) with
      | false =>
        rw [e] at q'
        exact q'
      | true =>
        rw [e] at q'
        exact ⟨_, _, rfl, rfl, q'⟩
    · refine ⟨_, rfl, _, .ty "int", .type "bool", .type "int", true, rfl, .ty _, .base (.bl b), kit_ty (by decide +kernel), true, rfl, ?_⟩
      exact ⟨_, rfl, _, .ty "bool", .type "bool", .type "bool", true, rfl, .ty _, .base (.bl b), kit_ty (by decide +kernel), true, rfl, q⟩
    · refine ⟨_, rfl, _, .ty "int", t, .type "int", false, rfl, .ty _, ht, hk, false, rfl, ?_⟩
      have e : intV v = false := by
        cases v with
        | int i => exact absurd rfl (hn i)
        | _ => rfl
      rw [e] at q
      exact q
def spCnt (K : PySem.W.Frag) : Sp := fun vs H Q _ => ∃ v : V, vs = [v] ∧ IntArg K H v ∧ Q (.bl (cntV v)) H
theorem ok_cnt {f : Addr} {fd : FuncData} (F : Fun K "is_count" "is_count" s_is_count f fd) (T : Top K mg) : FnOk P w K mg base CX0 2 f fd ["value"] (spCnt K) := by
  have ci : Cal P w K mg base 1 "is_integer" ["value"] (spInt K) := T.d_is_integer.cal fun f fd F => ok_int F T
  refine F.ok sc_is_count (fun vs H Q E h => ?_) (fun cdv A outer s H vs Q E hr h => ?_)
  · obtain ⟨v, rfl, _⟩ := h
    rfl
  · obtain ⟨v, rfl, hv, q⟩ := h
    refine ⟨_, pss_one (ps_ret (pe_and (pe_cal ci hr (by rfl) (pa_cons (pv 0) pa_nil)) (pe_one (pe_cmpR op_ge (pv 0) pe_int (nomark _))))), ?_⟩
    refine ⟨_, rfl, v, rfl, hv, _, rfl, ?_⟩
    cases v with
    | int i =>
      have q' : Q (.bl (intV (.int i) && decide (0 ≤ i))) H := q
      cases e : intV (.int i) with
      | false =>
        rw [e] at q'
        exact q'
      | true =>
        rw [e] at q'
        exact ⟨_, rfl, _, _, rfl, rfl, q'⟩
    | _ => exact q
def nameV : V → Bool
  | .str z => nameB z
  | _ => false
def spName (K : PySem.W.Frag) : Sp := fun vs H Q _ => ∃ v : V, vs = [v] ∧ NameArg K H v ∧ Q (.bl (nameV v)) H
theorem nameV_no {v : V} (h : ∀ z, v ≠ .str z) : nameV v = false := by
  cases v with
  | str z => exact absurd rfl (h z)
  | _ => rfl
theorem ok_name {f : Addr} {fd : FuncData} (F : Fun K "is_name" "is_name" s_is_name f fd) (T : Top K mg) : FnOk P w K mg base CX0 1 f fd ["value"] (spName K) := by
  obtain ⟨tm, gm⟩ := T.g_MAX_LETTERS
  refine F.ok sc_is_name (fun vs H Q E h => ?_) (fun cdv A outer s H vs Q E hr h => ?_)
  · obtain ⟨v, rfl, _⟩ := h
    rfl
  · obtain ⟨v, rfl, hv, q⟩ := h
    refine ⟨_, pss_cons (ps_if (PW.pt (pw_or (pt_not (pt_val (pe_callB call_isi (by rfl) T.b_isinstance (by decide +kernel) (pa_cons (pv 0) (pa_cons (pe_bltn (v := .ty "str") (by rfl) T.b_str (by decide +kernel) rfl) pa_nil)))))
          (pw_or1 (pt_not (pt_chain op_le op_le pe_int (pe_callB call_len_str (by rfl) T.b_len PySem.boot_len (pa_cons (pv 0) pa_nil)) (pe_glob (v := .int 8) (by rfl) gm ⟨_, rfl⟩))))))
        (pss_one (ps_ret pe_bl)) pss_nil)
      (pss_one (ps_ret (pe_and (pe_m0 PySem.F.slot_str_isascii PySem.F.type_str_isascii mt_isascii (pv 0))
        (pe_and (pe_m0 PySem.F.slot_str_isalpha PySem.F.type_str_isalpha mt_isalpha (pv 0)) (pe_one (pe_m0 PySem.F.slot_str_islower PySem.F.type_str_islower mt_islower (pv 0))))))), ?_⟩
    rcases hv with ⟨z, rfl, hz⟩ | ⟨hn, t, ht, hk⟩
    · have q' : Q (.bl (nameB z)) H := q
      refine ⟨_, rfl, _, .ty "str", .type "str", .type "str", true, rfl, .ty _, .base (.str z), kit_ty (by decide +kernel), true, rfl, ?_⟩
      refine ⟨_, rfl, _, rfl, hz, _, _, rfl, rfl, _, rfl, ite2 (fun e1 => ?_) (fun e1 => ?_)⟩
      · have h1 : 1 ≤ z.cps.size := by
          have e2 : (1 : Int) ≤ (z.length : Int) := of_decide_eq_true e1
          have e3 : z.length = z.cps.size := rfl
          omega
        refine ⟨_, _, rfl, rfl, _, rfl, ?_⟩
        have e3 : decide ((z.length : Int) ≤ 8) = decide (z.cps.size ≤ 8) := decide_eq_decide.mpr (by
          have e3 : z.length = z.cps.size := rfl
          omega)
        by_cases h8 : z.cps.size ≤ 8
        · have e4 : decide ((z.length : Int) ≤ 8) = true := e3.trans (decide_eq_true h8)
          rw [e4]
          have e5 : nameB z = (Txt.isascii z && (Txt.isalpha z && Txt.islower z)) := by
            rw [name_by z h1]
            unfold nameB
            rw [decide_eq_true h1, decide_eq_true h8, Bool.true_and, Bool.true_and]
          rw [e5] at q'
          refine ⟨_, rfl, ⟨_, rfl⟩, z, rfl, rfl, trivial, _, rfl, ?_⟩
          cases a1 : Txt.isascii z with
          | false =>
            rw [a1] at q'
            exact q'
          | true =>
            rw [a1] at q'
            refine ⟨_, rfl, ⟨_, rfl⟩, z, rfl, rfl, trivial, _, rfl, ?_⟩
            cases a2 : Txt.isalpha z with
            | false =>
              rw [a2] at q'
              exact q'
            | true =>
              rw [a2] at q'
              exact ⟨_, rfl, ⟨_, rfl⟩, z, rfl, rfl, trivial, q'⟩
        · have e4 : decide ((z.length : Int) ≤ 8) = false := e3.trans (decide_eq_false h8)
          rw [e4]
          show Q (.bl false) H
          have e5 : nameB z = false := by
            unfold nameB
            rw [decide_eq_false h8, Bool.and_false, Bool.false_and]
          rw [← e5]
          exact q'
      · have h1 : ¬ 1 ≤ z.cps.size := fun h => e1 (decide_eq_true (by
          have e3 : z.length = z.cps.size := rfl
          omega))
        refine ⟨_, rfl, ?_⟩
        show Q (.bl false) H
        have e5 : nameB z = false := by
          unfold nameB
          rw [decide_eq_false h1, Bool.false_and, Bool.false_and]
        rw [← e5]
        exact q'
    · refine ⟨_, rfl, _, .ty "str", t, .type "str", false, rfl, .ty _, ht, hk, false, rfl, ?_⟩
      rw [nameV_no hn] at q
      exact q
end
end Kl
set_option maxRecDepth 100000
set_option maxHeartbeats 4000000
namespace Kl
open PySem PySem.Spec PyProof.Rows L2 Gx Mx
abbrev Mak := List (Str × List Str)
/-- the names that are drawn -/
def POOL : List Str := ["a", "b", "ab", "c", "leaf", "zzzzzzzz", "d", "e", "f"]
def keysOf (M : Mak) : List Str := M.map (·.1)
/-- these are kinds of drawn names -/
structure Vld (leaf : Str) (M : Mak) : Prop where
  lf : leaf ∈ POOL
  keys : ∀ z ∈ keysOf M, z ∈ POOL
  nd : (keysOf M).Nodup
  parts : ∀ m ∈ M, sortedS m.2 = true ∧ 2 ≤ m.2.length ∧ m.2.length ≤ 3 ∧ ∀ p ∈ m.2, p = leaf ∨ p ∈ keysOf M
  few : ∀ ns : List Str, ns.Nodup → (∀ z ∈ ns, z = leaf ∨ z ∈ keysOf M) → ns.length ≤ 6
theorem Vld.len {leaf : Str} {M : Mak} (v : Vld leaf M) : M.length ≤ 6 := by
  have h := v.few (keysOf M) v.nd fun z hz => .inr hz
  unfold keysOf at h
  rw [List.length_map] at h
  exact h
/-- the ascending names of kinds -/
structure IsNames (leaf : Str) (ks ns : List Str) : Prop where
  srt : sortedS ns = true
  nd : ns.Nodup
  mem : ∀ z, z ∈ ns ↔ z = leaf ∨ z ∈ ks
theorem sorted_same {l m : List Str} (hl : sortedS l = true) (hm : sortedS m = true) (dl : l.Nodup) (dm : m.Nodup) (e : ∀ z, z ∈ l ↔ z ∈ m) : l = m :=
  sortedS_unique ((List.perm_ext_iff_of_nodup dl dm).mpr e) hl hm
theorem IsNames.unique {leaf : Str} {ks ks' ns ms : List Str} (h : IsNames leaf ks ns) (h' : IsNames leaf ks' ms) (e : ∀ z, z ∈ ks ↔ z ∈ ks') : ns = ms :=
  sorted_same h.srt h'.srt h.nd h'.nd fun z => by rw [h.mem, h'.mem, e]
def lookM (M : Mak) (z : Str) : Option (List Str) := (M.find? fun m => decide (m.1 = z)).map (·.2)
theorem lookM_cons (m : Str × List Str) (M : Mak) (z : Str) : lookM (m :: M) z = if m.1 = z then some m.2 else lookM M z := by
  unfold lookM
  rw [List.find?_cons]
  by_cases h : m.1 = z
  · rw [if_pos h, decide_eq_true h]
    rfl
  · rw [if_neg h, decide_eq_false h]
theorem lookM_mem {M : Mak} (nd : (keysOf M).Nodup) {m : Str × List Str} (h : m ∈ M) : lookM M m.1 = some m.2 := by
  induction M with
  | nil => cases h
  | cons x M ih =>
    have nd' : (x.1 :: keysOf M).Nodup := nd
    rw [List.nodup_cons] at nd'
    rw [lookM_cons]
    rcases List.mem_cons.mp h with rfl | h
    · rw [if_pos rfl]
    · rw [if_neg fun e => nd'.1 (by rw [e]; exact List.mem_map.mpr ⟨m, h, rfl⟩)]
      exact ih nd'.2 h
theorem lookM_none {M : Mak} {z : Str} : lookM M z = none ↔ z ∉ keysOf M := by
  induction M with
  | nil => exact ⟨(fun _ h => nomatch h), fun _ => rfl⟩
  | cons x M ih =>
    rw [lookM_cons]
    show _ ↔ z ∉ x.1 :: keysOf M
    rw [List.mem_cons, not_or]
    by_cases e : x.1 = z
    · rw [if_pos e]
      exact ⟨(fun h => nomatch h), fun h => absurd e.symm h.1⟩
    · rw [if_neg e, ih]
      exact ⟨fun h => ⟨fun q => e q.symm, h⟩, fun h => h.2⟩
theorem lookM_in {M : Mak} {z : Str} (h : z ∈ keysOf M) : ∃ ps, lookM M z = some ps := by
  cases e : lookM M z with
  | none => exact absurd h (lookM_none.mp e)
  | some ps => exact ⟨ps, rfl⟩
/-- M' is M, ascending by its keys -/
structure OrdOf (M M' : Mak) : Prop where
  srt : sortedS (keysOf M') = true
  nd : (keysOf M').Nodup
  look : ∀ z, lookM M' z = lookM M z
theorem OrdOf.keys {M M' : Mak} (h : OrdOf M M') (z : Str) : z ∈ keysOf M' ↔ z ∈ keysOf M := by
  have e := h.look z
  constructor
  · intro q
    obtain ⟨ps, hp⟩ := lookM_in q
    rw [hp] at e
    cases c : decide (z ∈ keysOf M) with
    | true => exact of_decide_eq_true c
    | false =>
      rw [lookM_none.mpr (of_decide_eq_false c)] at e
      cases e
  · intro q
    obtain ⟨ps, hp⟩ := lookM_in q
    rw [hp] at e
    cases c : decide (z ∈ keysOf M') with
    | true => exact of_decide_eq_true c
    | false =>
      rw [lookM_none.mpr (of_decide_eq_false c)] at e
      cases e
theorem mak_of_keys {M : Mak} (nd : (keysOf M).Nodup) : M = (keysOf M).map fun z => (z, (lookM M z).getD []) := by
  unfold keysOf
  rw [List.map_map]
  refine (List.map_id M).symm.trans (List.map_congr_left fun m hm => ?_)
  show m = (m.1, (lookM M m.1).getD [])
  rw [lookM_mem nd hm]
  rfl
theorem OrdOf.eq {M M' : Mak} (h : OrdOf M M') {ys : List Str} (hs : sortedS ys = true) (hp : ys.Perm (keysOf M)) (nd : (keysOf M).Nodup) : M' = ys.map fun z => (z, (lookM M z).getD []) := by
  have e : keysOf M' = ys := sorted_same h.srt hs h.nd (hp.nodup_iff.mpr nd) fun z => by rw [h.keys, hp.mem_iff]
  rw [mak_of_keys h.nd, e]
  exact List.map_congr_left fun z _ => by rw [h.look]
/-- a tuple in the heap whose object has no dict of its own -/
def TupZ (H : Hp) (a : Addr) (xs : List V) : Prop := ∃ ob : Obj, ob.dict = none ∧ H a = some (.frz ob (.tup xs))
theorem TupZ.sq {K : PySem.W.Frag} {H : Hp} {a : Addr} {xs : List V} (h : TupZ H a xs) : SqT K H a xs := by
  obtain ⟨ob, _, e⟩ := h
  exact .inl (.inr ⟨ob, e⟩)
theorem TupZ.ty {K : PySem.W.Frag} {H : Hp} {a : Addr} {xs : List V} (h : TupZ H a xs) : TyX K H (.ref a) (.type "tuple") := by
  obtain ⟨ob, _, e⟩ := h
  exact .fTuple e
theorem TupZ.at {H H' : Hp} {a : Addr} {xs : List V} (h : TupZ H a xs) (s : ∀ o, H a = some o → H' a = some o) : TupZ H' a xs := by
  obtain ⟨ob, d, e⟩ := h
  exact ⟨ob, d, s _ e⟩
theorem TupZ.mono {H H' : Hp} {a : Addr} {xs : List V} (h : TupZ H a xs) (s : Same H H') : TupZ H' a xs := h.at fun o e => s _ _ e
theorem TupZ.ne {H : Hp} {a b : Addr} {xs : List V} (h : TupZ H a xs) {o : HO} (e : H b = some o) (n : ∀ ob, o ≠ .frz ob (.tup xs)) : a ≠ b := fun z => by
  obtain ⟨ob, _, q⟩ := h
  rw [z, e] at q
  exact n ob (Option.some.inj q)
def MakAt (H : Hp) (kvs : List (Key × V)) (M : Mak) : Prop := Paired (fun (kv : Key × V) (m : Str × List Str) => kv.1 = Sum.inr m.1 ∧ ∃ a, kv.2 = .ref a ∧ TupZ H a (m.2.map V.str)) kvs M
theorem MakAt.same {H H' : Hp} {kvs : List (Key × V)} {M : Mak} (h : MakAt H kvs M) (s : ∀ a xs, TupZ H a xs → TupZ H' a xs) : MakAt H' kvs M := by
  unfold MakAt at h ⊢
  induction h with
  | nil => exact .nil
  | cons h _ ih =>
    obtain ⟨h1, a, h2, h3⟩ := h
    exact .cons ⟨h1, a, h2, s a _ h3⟩ ih
theorem MakAt.len {H : Hp} {kvs : List (Key × V)} {M : Mak} (h : MakAt H kvs M) : kvs.length = M.length := Paired.length h
theorem MakAt.keys {H : Hp} {kvs : List (Key × V)} {M : Mak} (h : MakAt H kvs M) : kvs.map (·.1) = (keysOf M).map Sum.inr := by
  unfold MakAt at h
  induction h with
  | nil => rfl
  | cons h _ ih =>
    exact congr (congrArg List.cons h.1) ih
theorem MakAt.get {H : Hp} {kvs : List (Key × V)} {M : Mak} (h : MakAt H kvs M) (z : Str) : (lookM M z = none ∧ valV kvs (Sum.inr z) = none) ∨ ∃ ps a, lookM M z = some ps ∧ valV kvs (Sum.inr z) = some (.ref a) ∧ TupZ H a (ps.map V.str) := by
  unfold MakAt at h
  induction h with
  | nil => exact .inl ⟨rfl, rfl⟩
  | @cons kv m kvs M h _ ih =>
    obtain ⟨h1, a, h2, h3⟩ := h
    rw [lookM_cons]
    by_cases e : m.1 = z
    · rw [if_pos e, valV_pos (by rw [h1, e])]
      exact .inr ⟨m.2, a, rfl, by rw [h2], h3⟩
    · rw [if_neg e, valV_neg (by rw [h1]; exact fun q => e (Sum.inr.inj q))]
      exact ih
theorem MakAt.at {H : Hp} {kvs : List (Key × V)} {M : Mak} (h : MakAt H kvs M) {i : Nat} {k : Key} {v : V} (e : kvs[i]? = some (k, v)) : ∃ m a, M[i]? = some m ∧ k = Sum.inr m.1 ∧ v = .ref a ∧ TupZ H a (m.2.map V.str) := by
  unfold MakAt at h
  induction h generalizing i with
  | nil => cases e
  | @cons kv m kvs M h _ ih =>
    cases i with
    | zero =>
      cases e
      obtain ⟨h1, a, h2, h3⟩ := h
      exact ⟨m, a, rfl, h1, h2, h3⟩
    | succ i => exact ih e
theorem MakAt.key {H : Hp} {kvs : List (Key × V)} {M : Mak} (h : MakAt H kvs M) {z : Str} (hz : z ∈ keysOf M) : ∃ ps a, lookM M z = some ps ∧ valV kvs (Sum.inr z) = some (.ref a) ∧ TupZ H a (ps.map V.str) := by
  rcases h.get z with ⟨e, _⟩ | h
  · exact absurd hz (lookM_none.mp e)
  · exact h
/-- kinds with this leaf and these makings stand at x, their dict at md, their names ns -/
def KindsAt (C : Addr) (H : Hp) (x md : Addr) (leaf : Str) (M : Mak) (ns : List Str) : Prop :=
  ∃ dx nt kvs, H x = some (.ins C dx [("_leaf", .str leaf), ("_makings", .ref md), ("_names", .ref nt)]) ∧ H md = some (.dK kvs) ∧ MakAt H kvs M ∧ H nt = some (.tup (ns.map V.str))
theorem KindsAt.keep {C : Addr} {H H' : Hp} {x md e : Addr} {leaf : Str} {M : Mak} {ns : List Str} (h : KindsAt C H x md leaf M ns) (s : ∀ b o, b ≠ e → H b = some o → H' b = some o) (n1 : x ≠ e) (n2 : md ≠ e) (n3 : ∀ xs, H e ≠ some (.tup xs)) (n4 : ∀ xs, ¬ TupZ H e xs) : KindsAt C H' x md leaf M ns := by
  obtain ⟨dx, nt, kvs, h1, h2, h3, h4⟩ := h
  have t : ∀ a xs, H a = some (.tup xs) → H' a = some (.tup xs) := fun a xs q => s a _ (fun z => n3 xs (z ▸ q)) q
  exact ⟨dx, nt, kvs, s _ _ n1 h1, s _ _ n2 h2, h3.same fun a xs q => q.at fun o e' => s _ _ (fun z => n4 xs (z ▸ q)) e', t _ _ h4⟩
theorem KindsAt.same {C : Addr} {H H' : Hp} {x md : Addr} {leaf : Str} {M : Mak} {ns : List Str} (h : KindsAt C H x md leaf M ns) (s : Same H H') : KindsAt C H' x md leaf M ns := by
  obtain ⟨dx, nt, kvs, h1, h2, h3, h4⟩ := h
  exact ⟨dx, nt, kvs, s _ _ h1, s _ _ h2, h3.same fun a xs q => q.mono s, s _ _ h4⟩
end Kl
set_option maxRecDepth 100000
set_option maxHeartbeats 4000000
namespace Gx
open PySem PySem.Spec PyProof.Rows L2
/-- the name x is a def called with n values by position and keywords ks, that keeps sp and raises nothing -/
def CalO (P : Program) (w : World) (K : PySem.W.Frag) (mg : Str → Option Value) (base : Heap) (k : Nat) (x : Str) (ps : List Str) (n : Nat) (ks : List Str) (gV : List V → List V → List V) (sp : Sp) : Prop :=
  ∃ (f : Addr) (fd : FuncData) (g : List Value → List Value → List Value), FnOk P w K mg base CX0 k f fd ps sp ∧ PySem.W.keepIn K (.ref f) = true ∧ KBn K fd ps n ks g gV ∧ mg x = some (.ref f)
section
variable {P : Program} {w : World} {K : PySem.W.Frag} {mg : Str → Option Value} {base : Heap}
theorem DefK.calO {x qual : Str} {st : Stmt} {ps ks : List Str} {n : Nat} (d : DefK K mg x qual st ps n ks) {k : Nat} {sp : Sp} (h : ∀ f fd, Fun K x qual st f fd → FnOk P w K mg base CX0 k f fd ps sp) : CalO P w K mg base k x ps n ks (fun vs zs => vs ++ zs) sp := by
  obtain ⟨f, fd, F, b, g⟩ := d
  exact ⟨f, fd, _, h f fd F, F.kp, b, g⟩
theorem CalO.mono {x : Str} {ps ks : List Str} {n j k : Nat} {gV : List V → List V → List V} {sp : Sp} (c : CalO P w K mg base j x ps n ks gV sp) (h : j ≤ k) : CalO P w K mg base k x ps n ks gV sp := by
  obtain ⟨f, fd, g, F, more⟩ := c
  exact ⟨f, fd, g, F.mono h, more⟩
end
section
variable {X : Cx}
def tClO (n m : Nat) (sp : Sp) (gV : List V → List V → List V) (t tk : TA) : TE := fun σ H Q => t σ H fun vs H1 => tk σ H1 fun zs H2 => vs.length = n ∧ zs.length = m ∧ sp (gV vs zs) H2 Q E0
theorem pe_calO {x : Str} {ps ks : List Str} {n : Nat} {gV : List V → List V → List V} {sp : Sp} {k : Nat} {e : Expr} {es : List Expr} {kws : List Keyword} {t tk : TA} {p pos : Pos} (c : CalO X.prog X.w X.K X.mg X.base k x ps n ks gV sp) (room : Room k X.A) (hg : Gl X x)
    (h : PA X (e :: es) t) (hk : PK X kws tk) (hall : (backToKw pos (keywordEach kws X.env)).all (·.1.isSome) = true := by rfl) (hks : (backToKw pos (keywordEach kws X.env)).filterMap (·.1) = ks := by rfl)
    (hdb : (x == ("__debug__" : Str)) = false := by decide) (hst : starEach (e :: es) X.env = (false, eval e X.env) :: starEach es X.env := by rfl)
    (hpl : ((backTo pos (starEach (e :: es) X.env)).any (·.1) || (backToKw pos (keywordEach kws X.env)).any (·.1.isNone)) = false := by rfl) :
    PE X (.Call (.Name x p) (e :: es) kws pos) (tClO n ks.length sp gV t tk) := by
  obtain ⟨f, fd, gg, F, kp, b, hm⟩ := c
  refine ⟨fun pins s σ H Q I want => wpAny_Call_Name_kw (ld_glob I hg hm ?_ hdb)⟩
  refine PySem.W.callWith_KW (h₀ := X.base) I.ok.mod.kin kp hall (thn (h.run pos pins s σ H _ I want) ?_) hpl hst
  rintro us s1 ⟨vs, H1, I1, r, q⟩
  refine thn (hk.run pos pins s1 σ H1 _ I1 q) ?_
  rintro ws s2 ⟨zs, H2, I2, rz, l1, l2, q2⟩
  refine ⟨I2.kIn, ?_⟩
  rw [hks]
  have rel := b.rel r rz
  have bt := b.to s2 us ws I2.kIn (r.length.symm.trans l1) (rz.length.symm.trans l2)
  refine wpAny_call (codeAny_mono (F.run X.A X.stack s2 H2 ⟨us, ks.zip ws⟩ _ _ Q E0 room I2.env0 bt rel q2) fun res s' hres => ?_)
  match res, hres with
  | .error e, hres => exact hres.elim
  | .ok (.ret u), hres => exact I2.after hres
end
section
variable {X : Cx} {K : PySem.W.Frag}
theorem pi_listK {tg l : Expr} {tl : TE} (hk : X.K = K) (hl : PE X l tl) : PI X tg l (iList K tl) := by
  subst hk
  exact pi_list hl
theorem op_inSeqK (hk : X.K = K) : OpR X (compareOp .In) (rIn K false) := by
  subst hk
  exact op_in_seq
end
end Gx
namespace Kl
open PySem PySem.Spec PyProof.Rows L2 Gx Mx
section
variable {P : Program} {w : World} {K : PySem.W.Frag} {mg : Str → Option Value} {base : Heap}
def spSorted (K : PySem.W.Frag) : Sp := fun vs H Q _ => ∃ (p : Addr) (zs : List Str) (M : Int), vs = [.ref p, .int M] ∧ SqT K H p (zs.map V.str) ∧ TyX K H (.ref p) (.type "tuple") ∧ 0 ≤ M ∧ M ≤ 100 ∧ zs.length ≤ 1000 ∧ (∀ z ∈ zs, z.length ≤ 1000) ∧
  ∀ H', Same H H' → Q (.bl (decide ((zs.length : Int) ≤ M) && (zs.all nameB && sortedS zs))) H'
theorem names_low {z : Str} (h : nameB z = true) : PyData.strOk z = true := by
  unfold nameB at h
  rw [Bool.and_eq_true] at h
  show z.cps.all _ = true
  rw [Array.all_eq_true']
  intro c hc
  have := List.all_eq_true.mp h.2 c (Array.mem_toList_iff.mpr hc)
  exact decide_eq_true (Nat.lt_trans (isLow_lt this) (by decide))
theorem ok_sorted {f : Addr} {fd : FuncData} (F : Fun K "is_sorted" "is_sorted" s_is_sorted f fd) (T : Top K mg) : FnOk P w K mg base CX0 3 f fd ["value", "most"] (spSorted K) := by
  have cc : Cal P w K mg base 2 "is_count" ["value"] (spCnt K) := T.d_is_count.cal fun f fd F => ok_cnt F T
  have cn : Cal P w K mg base 2 "is_name" ["value"] (spName K) := (T.d_is_name.cal fun f fd F => ok_name F T).mono (by decide)
  refine F.ok sc_is_sorted (fun vs H Q E h => ?_) (fun cdv A outer s H vs Q E hr h => ?_)
  · obtain ⟨p, zs, M, rfl, _⟩ := h
    rfl
  · obtain ⟨p, zs, M, rfl, hp, hT, hM, hM2, hlen, hz, hq⟩ := h
    refine ⟨_, pss_cons (ps_if (pt_not (pt_val (pe_cal cc hr (by rfl) (pa_cons (pv 1) pa_nil)))) (pss_one ps_never) pss_nil)
      (pss_cons (ps_if (PW.pt (pw_or (pt_not (pt_val (pe_callB call_isi (by rfl) T.b_isinstance (by decide +kernel) (pa_cons (pv 0) (pa_cons (pe_bltn (v := .ty "tuple") (by rfl) T.b_tuple (by decide +kernel) rfl) pa_nil)))))
          (pw_or1 (pt_cmpR op_gt (pe_callB call_len_seq (by rfl) T.b_len PySem.boot_len (pa_cons (pv 0) pa_nil)) (pv 1) (nomark _))))) (pss_one (ps_ret pe_bl)) pss_nil)
      (pss_cons (ps_if (pt_not (pt_val (pe_callB (cr_all rfl) (by rfl) T.b_all (by decide +kernel) (pa_cons (pe_lc (own := [("name", 2)]) (g := gName 2) (tt := tYes) rfl sc_is_sorted.nd (pi_tup (pv 0))
            (blkOk_by (N := ["value", "most", "name"]) (sc := defScope s_is_sorted) (by decide +kernel))
            (fun _ _ _ _ _ => pg_name (i := 2) sc_is_sorted.nd rfl (.inl rfl)) (fun _ _ _ _ _ => pts_nil) (fun _ _ _ _ _ => pe_cal cn hr (by rfl) (pa_cons (pv 2) pa_nil))) pa_nil)))) (pss_one (ps_ret pe_bl)) pss_nil)
      (pss_one (ps_ret (pe_cmpR (op_eqD hr.units) (pe_callTy call_list_of (by rfl) T.b_list (by decide +kernel) (pa_cons (pv 0) pa_nil)) (pe_callB cr_sortedTS (by rfl) T.b_sorted (by decide +kernel) (pa_cons (pv 0) pa_nil)) (nomark _)))))), ?_⟩
    have hc : cntV (.int M) = true := by
      show ((decide (-TEN60 < M) && decide (M < TEN60)) && decide (0 ≤ M)) = true
      rw [decide_eq_true (show -TEN60 < M by unfold TEN60; omega), decide_eq_true (show M < TEN60 by unfold TEN60; omega), decide_eq_true hM]
      rfl
    refine ⟨_, rfl, .int M, rfl, .inl ⟨M, rfl⟩, _, rfl, ?_⟩
    rw [hc]
    refine ⟨_, rfl, _, .ty "tuple", .type "tuple", .type "tuple", true, rfl, .ty _, hT, kit_ty (by decide +kernel), true, rfl, ?_⟩
    refine ⟨_, rfl, p, _, rfl, .inr hp, _, rfl, _, _, rfl, rfl, _, rfl, ite2 (fun e => ?_) (fun e => ?_)⟩
    · have e1 : decide ((zs.length : Int) ≤ M) = false := decide_eq_false (by
        have := of_decide_eq_true e
        rw [List.length_map] at this
        omega)
      rw [e1, Bool.false_and] at hq
      exact hq H (Same.refl H)
    · have e1 : decide ((zs.length : Int) ≤ M) = true := decide_eq_true (by
        have : ¬ (M < ((zs.map V.str).length : Int)) := fun z => e (decide_eq_true z)
        rw [List.length_map] at this
        omega)
      rw [e1, Bool.true_and] at hq
      refine ⟨_, rfl, p, rfl, ⟨_, hp⟩, fun D hD => ?_⟩
      refine lc_tup (xs := zs.map V.str) (fun j H2 => H2 D = some (.lst ((zs.take j).map fun z => V.bl (nameB z))) ∧ Same H H2) ⟨upd_same, fun b u e => by rw [upd_ne (ne_of_none e hD)]; exact e⟩ (fun j H2 _ hP => ?_) (fun j x H2 hj hP => ?_) (fun H2 hP => ?_)
      · rcases hp with (h | ⟨u, h⟩) | h
        · exact .inl (.inl (hP.2 _ _ h))
        · exact .inl (.inr ⟨u, hP.2 _ _ h⟩)
        · exact .inr h
      · obtain ⟨eD, sm⟩ := hP
        obtain ⟨z, hzj, rfl⟩ : ∃ z, zs[j]? = some z ∧ V.str z = x := by
          rw [List.getElem?_map] at hj
          cases e : zs[j]? with
          | none => rw [e] at hj; cases hj
          | some z => rw [e] at hj; exact ⟨z, rfl, by cases hj; rfl⟩
        refine ⟨rfl, _, rfl, _, rfl, .inl ⟨z, rfl, Nat.le_trans (hz z (List.mem_of_getElem? hzj)) (by decide)⟩, _, eD, ?_, ?_, fun b u e => by rw [upd_ne (ne_of_none e hD)]; exact sm b u e⟩
        · rw [List.length_map, List.length_take]
          exact Nat.lt_of_le_of_lt (Nat.le_trans (Nat.min_le_right _ _) hlen) (by decide)
        · rw [upd_same, List.take_add_one, hzj, List.map_append]
          rfl
      · obtain ⟨eD, sm⟩ := hP
        rw [List.length_map, List.take_length] at eD
        refine ⟨D, zs.map nameB, rfl, .inl (.inl (by rw [eD, List.map_map]; rfl)), _, rfl, ?_⟩
        have ea : (zs.map nameB).all id = zs.all nameB := by rw [List.all_map]; rfl
        rw [ea]
        cases hall : zs.all nameB with
        | false =>
          rw [hall, Bool.false_and] at hq
          exact hq _ sm
        | true =>
          rw [hall, Bool.true_and] at hq
          have hok : ∀ z ∈ zs, PyData.strOk z = true := fun z hz => names_low (List.all_eq_true.mp hall z hz)
          have hp2 : SqT K H2 p (zs.map V.str) := by
            rcases hp with (h | ⟨u, h⟩) | h
            · exact .inl (.inl (sm _ _ h))
            · exact .inl (.inr ⟨u, sm _ _ h⟩)
            · exact .inr h
          refine ⟨_, rfl, p, _, rfl, .inr hp2, fun l nl => ?_⟩
          have sm2 : Same H (upd H2 l (.lst (zs.map V.str))) := fun b u e => by rw [upd_ne (ne_of_none (sm b u e) nl)]; exact sm b u e
          have hp3 : SqT K (upd H2 l (.lst (zs.map V.str))) p (zs.map V.str) := by
            rcases hp with (h | ⟨u, h⟩) | h
            · exact .inl (.inl (sm2 _ _ h))
            · exact .inl (.inr ⟨u, sm2 _ _ h⟩)
            · exact .inr h
          refine ⟨_, rfl, p, zs, rfl, hp3, by omega, fun ys l2 hperm hsrt nl2 => ?_⟩
          refine ⟨.list (tD zs), .list (tD ys), ?_, ?_, shaped_texts hok, shaped_texts (fun z hz => hok z (hperm.mem_iff.mp hz)), ?_⟩
          · exact .lst (.inl (.inl (by rw [upd_ne (ne_of_none upd_same nl2), upd_same]))) (dp_texts zs)
          · exact .lst (.inl (.inl upd_same)) (dp_texts ys)
          · rw [PyData.eqv, eqv_texts, eq_sorted_iff hperm hsrt]
            exact hq _ (fun b u e => by rw [upd_ne (ne_of_none (sm2 b u e) nl2)]; exact sm2 b u e)
end
end Kl
set_option maxRecDepth 100000
set_option maxHeartbeats 4000000
namespace Gx
open PySem PySem.Spec PyProof.Rows L2 PpSet
section
variable {P : Program} {w : World} {A : Around} {E : Value → Shared → Prop} {s : Shared} {a : Addr} {L : List Str}
theorem SetX.typeIs (R : SetX P w s.heap a L) : s.TypeIs (.ref a) "set" := by
  obtain ⟨ob, _, _, _, here, ex, _⟩ := R
  exact ⟨ob, here, ex.1⟩
end
end Gx
set_option maxRecDepth 100000
set_option maxHeartbeats 4000000
namespace Gx
open PySem PySem.Spec PyProof.Rows L2
theorem nodup_le : ∀ {ms L : List Str}, ms.Nodup → (∀ z ∈ ms, z ∈ L) → ms.length ≤ L.length
  | [], _, _, _ => Nat.zero_le _
  | x :: ms, L, nd, h => by
    obtain ⟨n1, n2⟩ := List.nodup_cons.mp nd
    have hx := h x List.mem_cons_self
    have ih := nodup_le (L := L.erase x) n2 fun z hz => (List.mem_erase_of_ne fun e => n1 (by rw [← e]; exact hz)).mpr (h z (List.mem_cons_of_mem _ hz))
    rw [List.length_erase_of_mem hx] at ih
    have := List.length_pos_of_mem hx
    rw [List.length_cons]
    omega
theorem nodup_back : ∀ {L ms : List Str}, ms.Nodup → (∀ z, z ∈ ms ↔ z ∈ L) → ms.length = L.length → L.Nodup
  | [], _, _, _, _ => List.nodup_nil
  | x :: L, ms, nd, e, hl => by
    rw [List.length_cons] at hl
    have hx : x ∈ ms := (e x).mpr List.mem_cons_self
    by_cases c : x ∈ L
    · have := nodup_le nd fun z hz => by
        rcases List.mem_cons.mp ((e z).mp hz) with rfl | h
        · exact c
        · exact h
      omega
    · refine List.nodup_cons.mpr ⟨c, nodup_back (ms := ms.erase x) (nd.erase x) (fun z => ?_) (by rw [List.length_erase_of_mem hx]; omega)⟩
      rw [nd.mem_erase_iff, e, List.mem_cons]
      constructor
      · rintro ⟨h1, h2⟩
        exact h2.resolve_left h1
      · intro h
        exact ⟨fun q => c (by rw [← q]; exact h), .inr h⟩
theorem cr_lenX2 {X : Cx} : CallR X (.builtin "len") (fun xs G Q => ∃ (a : Addr) (L : List Str), xs = [.ref a] ∧ G a = some (SetO' X.prog X.w a L) ∧ L.length ≤ 1000 ∧ ∀ m : Nat, m ≤ L.length → (m = L.length ↔ L.Nodup) → Q (.int (m : Nat)) G) := by
  intro pins s σ G xs us Q inv r want
  obtain ⟨a, L, rfl, ea, few, q⟩ := want
  rw [Vals.ref1 r]
  obtain ⟨ob, ms, ep, tb, here, ex, dt, _, nd2, mem, _, ft, _⟩ : SetX X.prog X.w s.heap a L := (inv.hok a _ ea).1
  have sz : (ms.toList.map txE).length = ms.size := by rw [List.length_map, Array.length_toList]
  have mem2 : ∀ z, z ∈ ms.toList.map txE ↔ z ∈ L := fun z => (mem z).symm
  have le : ms.size ≤ L.length := by
    rw [← sz]
    exact nodup_le nd2 fun z hz => (mem2 z).mp hz
  refine call_len_set here ex dt ft (by omega) ⟨.int (ms.size : Nat), G, inv.tok _, ⟨_, rfl⟩, q ms.size le ⟨fun h => nodup_back nd2 mem2 (by rw [sz]; exact h), fun h => ?_⟩⟩
  have p := ((List.perm_ext_iff_of_nodup h nd2).mpr mem).length_eq
  rw [sz] at p
  exact p.symm
end Gx
set_option maxRecDepth 100000
set_option maxHeartbeats 4000000
namespace Gx
open PySem PySem.Spec PyProof.Rows L2
section
variable {X : Cx} {P : Program} {w : World} {K : PySem.W.Frag}
def rIsiN (P : Program) (w : World) (K : PySem.W.Frag) : List V → Hp → VK → Prop := fun xs H Q => ∃ (a : Addr) (L : NL) (c : V) (u : Value) (b : Bool), xs = [.ref a, c] ∧ ClsV c u ∧ Rd H a (DN P w a L) ∧ PySem.W.kitOne K (.type "dict") u = some b ∧ Q (.bl b) H
theorem call_isiN (hx : XI X P w K) : CallR X (.builtin "isinstance") (rIsiN P w K) := by
  obtain ⟨rfl, rfl, rfl⟩ := hx
  intro pins s σ H xs us Q I r h
  obtain ⟨a, L, c, u, b, rfl, k, hd, e, q⟩ := h
  obtain ⟨u1, u2, rfl, r1, r2⟩ := vals2 r
  have e2 := k.eq r2
  subst e2
  obtain rfl : u1 = Value.ref a := r1
  obtain ⟨o, h1, h2⟩ := (n_type I hd).1
  exact PySem.W.kia_one PySem.W.kitx_dict I.kIn ⟨o, h1, h2⟩ e (fun z => nomatch z) fun tk => ⟨.bl b, H, I.tok tk, rfl, q⟩
end
end Gx
set_option maxRecDepth 100000
set_option maxHeartbeats 4000000
namespace Kl
open PySem PySem.Spec PyProof.Rows L2 Gx Mx
theorem ty_sq {K : PySem.W.Frag} {G : Hp} {a : Addr} {zs : List V} (hp : SqT K G a zs) : TyX K G (.ref a) (.type "tuple") := by
  rcases id hp with (h | ⟨o, h⟩) | ⟨o, its, m, h, c, _⟩
  · exact .base (.tup h)
  · exact .fTuple h
  · exact .kTuple h c
theorem same_new {H H1 : Hp} {p : Addr} {o : HO} (s : Same H H1) (n : H1 p = none) : Same H (upd H1 p o) := fun b u e => by
  rw [upd_ne (ne_of_none (s b u e) n)]
  exact s b u e
theorem sqT_same {K : PySem.W.Frag} {H H' : Hp} {a : Addr} {xs : List V} (s : Same H H') (h : SqT K H a xs) : SqT K H' a xs := by
  rcases h with (h | ⟨o, h⟩) | h
  · exact .inl (.inl (s _ _ h))
  · exact .inl (.inr ⟨o, s _ _ h⟩)
  · exact .inr h
theorem keyA_same {K : PySem.W.Frag} {H H' : Hp} {a : Addr} {k : NestedKey} (s : Same H H') (h : KeyA K H a k) : KeyA K H' a k := h.mono fun _ _ q => sqT_same s q
section
variable {P : Program} {w : World} {K : PySem.W.Frag} {mg : Str → Option Value} {base : Heap}
def digB (zs : List Str) : Bool := decide ((zs.length : Int) ≤ 3) && (zs.all nameB && sortedS zs)
def ascB (zs : List Str) : Bool := (zs.all nameB && sortedS zs) && (decide (0 < zs.length) && decide zs.Nodup)
def spDig (K : PySem.W.Frag) : Sp := fun vs H Q _ => ∃ (p : Addr) (zs : List Str), vs = [.ref p] ∧ SqT K H p (zs.map V.str) ∧ zs.length ≤ 1000 ∧ (∀ z ∈ zs, z.length ≤ 1000) ∧ ∀ H', Same H H' → Q (.bl (digB zs)) H'
theorem ok_dig {f : Addr} {fd : FuncData} (F : Fun K "is_digit" "is_digit" s_is_digit f fd) (T : Top K mg) : FnOk P w K mg base CX0 4 f fd ["value"] (spDig K) := by
  obtain ⟨tm, gm⟩ := T.g_MAX_DIGIT
  have cs : CalO P w K mg base 3 "is_sorted" ["value", "most"] 1 ["most"] (fun vs zs => vs ++ zs) (spSorted K) := T.d_is_sorted.calO fun f fd F => ok_sorted F T
  refine F.ok sc_is_digit (fun vs H Q E h => ?_) (fun cdv A outer s H vs Q E hr h => ?_)
  · obtain ⟨p, zs, rfl, _⟩ := h
    rfl
  · obtain ⟨p, zs, rfl, hp, hl, hz, q⟩ := h
    refine ⟨_, pss_one (ps_ret (pe_calO cs hr (by rfl) (pa_cons (pv 0) pa_nil) (pk_cons (pe_glob (v := .int 3) (by rfl) gm ⟨_, rfl⟩) pk_nil))), ?_⟩
    exact ⟨_, rfl, rfl, rfl, p, zs, 3, rfl, hp, ty_sq hp, by decide, by decide, hl, hz, q⟩
/-- a tuple of texts, or None -/
def spAsc (K : PySem.W.Frag) : Sp := fun vs H Q _ => ∃ (p : Addr) (zs : List Str), vs = [.ref p] ∧ SqT K H p (zs.map V.str) ∧ zs.length ≤ 100 ∧ (∀ z ∈ zs, z.length ≤ 1000) ∧ ∀ H', Same H H' → Q (.bl (ascB zs)) H'
theorem ok_asc {f : Addr} {fd : FuncData} (F : Fun K "_is_ascending" "_is_ascending" s_is_ascending f fd) (T : Top K mg) : FnOk P w K mg base CX0 4 f fd ["value"] (spAsc K) := by
  have cs : CalO P w K mg base 3 "is_sorted" ["value", "most"] 1 ["most"] (fun vs zs => vs ++ zs) (spSorted K) := T.d_is_sorted.calO fun f fd F => ok_sorted F T
  refine F.ok sc_is_ascending (fun vs H Q E h => ?_) (fun cdv A outer s H vs Q E hr h => ?_)
  · obtain ⟨p, zs, rfl, _⟩ := h
    rfl
  · obtain ⟨p, zs, rfl, hp, hl, hz, q⟩ := h
    refine ⟨_, pss_cons (ps_if (PW.pt (pw_or (pt_not (pt_val (pe_callB call_isi (by rfl) T.b_isinstance (by decide +kernel) (pa_cons (pv 0) (pa_cons (pe_bltn (v := .ty "tuple") (by rfl) T.b_tuple (by decide +kernel) rfl) pa_nil)))))
        (pw_or1 (pt_not (pt_val (pe_calO cs hr (by rfl) (pa_cons (pv 0) pa_nil) (pk_cons (pe_callB call_len_seq (by rfl) T.b_len PySem.boot_len (pa_cons (pv 0) pa_nil)) pk_nil))))))) (pss_one (ps_ret pe_bl)) pss_nil)
      (pss_one (ps_ret (pe_and (pe_cmpR op_gt (pe_callB call_len_seq (by rfl) T.b_len PySem.boot_len (pa_cons (pv 0) pa_nil)) pe_int (nomark _))
        (pe_one (pe_cmpR op_eq (pe_callB cr_lenX2 (by rfl) T.b_len PySem.boot_len (pa_cons (pe_callTy (cr_setXT rfl) (by rfl) T.b_set (by decide +kernel) (pa_cons (pv 0) pa_nil)) pa_nil)) (pe_callB call_len_seq (by rfl) T.b_len PySem.boot_len (pa_cons (pv 0) pa_nil)) (nomark _)))))), ?_⟩
    refine ⟨_, rfl, _, .ty "tuple", .type "tuple", .type "tuple", true, rfl, .ty _, ty_sq hp, kit_ty (by decide +kernel), true, rfl, ?_⟩
    refine ⟨_, rfl, _, rfl, p, _, rfl, .inr hp, rfl, rfl, p, zs, _, rfl, hp, ty_sq hp, by omega, by rw [List.length_map]; omega, by omega, hz, fun H1 s1 => ⟨_, rfl, ?_⟩⟩
    have e0 : decide ((zs.length : Int) ≤ ((zs.map V.str).length : Int)) = true := decide_eq_true (by rw [List.length_map]; omega)
    rw [e0, Bool.true_and]
    refine ite2 (fun e => ?_) (fun e => ?_)
    · have eb : ascB zs = false := by
        unfold ascB
        rw [(Bool.not_eq_true' _).mp e, Bool.false_and]
      rw [eb] at q
      exact q H1 s1
    · have eb : ascB zs = (decide (0 < zs.length) && decide zs.Nodup) := by
        unfold ascB
        rw [show (zs.all nameB && sortedS zs) = true from by
          cases c : (zs.all nameB && sortedS zs) with
          | true => rfl
          | false => exact absurd (by rw [c]; rfl) e, Bool.true_and]
      refine ⟨_, rfl, p, _, rfl, .inr (sqT_same s1 hp), _, _, rfl, rfl, ?_⟩
      rw [List.length_map]
      have hs1 : SqT K H1 p (zs.map V.str) := sqT_same s1 hp
      refine ⟨_, rfl, ite2 (fun e2 => ?_) (fun e2 => ?_)⟩
      · refine ⟨_, rfl, p, zs, rfl, hs1, by omega, fun D hD => ⟨D, zs, rfl, upd_same, by omega, fun m hm hnd => ?_⟩⟩
        have s2 : Same H1 (upd H1 D (SetO' P w D zs)) := same_new (Same.refl H1) hD
        refine ⟨_, rfl, p, _, rfl, .inr (sqT_same s2 hs1), ?_⟩
        have e3 : decide (V.int (m : Int) = V.int ((zs.map V.str).length : Int)) = ascB zs := by
          have e2' : 0 < zs.length := by have := of_decide_eq_true e2; omega
          rw [eb, decide_eq_true e2', Bool.true_and, List.length_map]
          by_cases c : zs.Nodup
          · rw [decide_eq_true c, decide_eq_true (by rw [hnd.mpr c])]
          · rw [decide_eq_false c, decide_eq_false fun z => c (hnd.mp (by injection z with z; omega))]
        have z := q _ (s1.trans s2)
        rw [← e3] at z
        exact ⟨rfl, z⟩
      · have e3 : ascB zs = false := by
          have : ¬ 0 < zs.length := fun z => e2 (decide_eq_true (by omega))
          rw [eb, decide_eq_false this, Bool.false_and]
        rw [e3] at q
        exact q H1 s1
/-- a key, or a value that is a pair (text, tuple of texts) -/
def spPlace (K : PySem.W.Frag) : Sp := fun vs H Q _ => ∃ (a g : Addr) (z : Str) (zs : List Str), vs = [.ref a] ∧ SqT K H a [.str z, .ref g] ∧ SqT K H g (zs.map V.str) ∧ z.length ≤ 1000 ∧ zs.length ≤ 1000 ∧ (∀ y ∈ zs, y.length ≤ 1000) ∧ ∀ H', Same H H' → Q (.bl (nameB z && digB zs)) H'
theorem ok_place {f : Addr} {fd : FuncData} (F : Fun K "_is_place" "_is_place" s_is_place f fd) (T : Top K mg) : FnOk P w K mg base CX0 5 f fd ["value"] (spPlace K) := by
  have cn : Cal P w K mg base 4 "is_name" ["value"] (spName K) := (T.d_is_name.cal fun f fd F => ok_name F T).mono (by decide)
  have cd : Cal P w K mg base 4 "is_digit" ["value"] (spDig K) := T.d_is_digit.cal fun f fd F => ok_dig F T
  refine F.ok sc_is_place (fun vs H Q E h => ?_) (fun cdv A outer s H vs Q E hr h => ?_)
  · obtain ⟨a, g, z, zs, rfl, _⟩ := h
    rfl
  · obtain ⟨a, g, z, zs, rfl, ha, hg, hz, hl, hy, q⟩ := h
    refine ⟨_, pss_one (ps_ret (pe_and (pe_callB call_isi (by rfl) T.b_isinstance (by decide +kernel) (pa_cons (pv 0) (pa_cons (pe_bltn (v := .ty "tuple") (by rfl) T.b_tuple (by decide +kernel) rfl) pa_nil)))
      (pe_and (pe_cmpR op_eq (pe_callB call_len_seq (by rfl) T.b_len PySem.boot_len (pa_cons (pv 0) pa_nil)) pe_int (nomark _))
        (pe_and (pe_cal cn hr (by rfl) (pa_cons (pe_ix ix_tup (pv 0) pe_int (fun _ _ => rfl)) pa_nil))
          (pe_one (pe_cal cd hr (by rfl) (pa_cons (pe_ix ix_tup (pv 0) pe_int (fun _ _ => rfl)) pa_nil))))))), ?_⟩
    refine ⟨_, rfl, _, .ty "tuple", .type "tuple", .type "tuple", true, rfl, .ty _, ty_sq ha, kit_ty (by decide +kernel), true, rfl, ?_⟩
    refine ⟨_, rfl, a, _, rfl, .inr ha, rfl, _, rfl, ?_⟩
    refine ⟨_, rfl, a, _, 0, _, rfl, rfl, ha, rfl, _, rfl, .inl ⟨z, rfl, Nat.le_trans hz (by decide)⟩, _, rfl, ite2 (fun e => ?_) (fun e => ?_)⟩
    · refine ⟨_, rfl, a, _, 1, _, rfl, rfl, ha, rfl, g, zs, rfl, hg, hl, hy, fun H1 s1 => ?_⟩
      have z1 := q H1 s1
      rw [show nameB z = true from e, Bool.true_and] at z1
      exact z1
    · have z1 := q H (Same.refl H)
      rw [show nameB z = false from by cases c : nameB z with | false => rfl | true => exact absurd c e, Bool.false_and] at z1
      exact z1
end
end Kl
set_option maxRecDepth 100000
set_option maxHeartbeats 4000000
namespace Kl
open PySem PySem.Spec PyProof.Rows L2 Gx Mx
abbrev Rds := List (KW × Str)
/-- at d stands the dict of the lines R -/
def RDict (P : Program) (w : World) (K : PySem.W.Frag) (H : Hp) (d : Addr) (R : Rds) : Prop := ∃ L : ML, H d = some (DN P w d (toN L)) ∧ (∀ x ∈ L, KeyA K H x.2.1 (keyK x.1)) ∧ prM L = R.map fun r => (r.1, V.str r.2)
theorem RDict.same {P : Program} {w : World} {K : PySem.W.Frag} {H H' : Hp} {d : Addr} {R : Rds} (h : RDict P w K H d R) (s : Same H H') : RDict P w K H' d R := by
  obtain ⟨L, h1, h2, h3⟩ := h
  exact ⟨L, s _ _ h1, fun x hx => keyA_same s (h2 x hx), h3⟩
/-- the lines' texts are short -/
def Shrt (R : Rds) : Prop := ∀ r ∈ R, r.1.1.length ≤ 1000 ∧ r.1.2.length ≤ 1000 ∧ (∀ y ∈ r.1.2, y.length ≤ 1000) ∧ r.2.length ≤ 1000
/-- all but d stays, d is locked -/
structure Lkd (P : Program) (w : World) (H H' : Hp) (d : Addr) (od : Obj) (L : NL) : Prop where
  at_ : H' d = some (.frz od (DN P w d L))
  sm : ∀ b u, b ≠ d → H b = some u → H' b = some u
section
variable {P : Program} {w : World} {K : PySem.W.Frag} {H H' H2 : Hp} {d : Addr} {od : Obj} {L : NL}
theorem Lkd.of : Lkd P w H (upd H d (.frz od (DN P w d L))) d od L := ⟨upd_same, fun b u n e => by rw [upd_ne n]; exact e⟩
theorem Lkd.more (k : Lkd P w H H' d od L) (s : Same H' H2) : Lkd P w H H2 d od L := ⟨s _ _ k.at_, fun b u n e => s _ _ (k.sm b u n e)⟩
theorem Lkd.sq (k : Lkd P w H H' d od L) (e : H d = some (DN P w d L)) {a : Addr} {xs : List V} (h : SqT K H a xs) : SqT K H' a xs := by
  have ne : ∀ b u, H b = some u → (∀ φ, u ≠ .ext φ) → b ≠ d := fun b u q n z => by
    subst z
    rw [e] at q
    exact n _ (Option.some.inj q).symm
  rcases h with (h | ⟨o, h⟩) | h
  · exact .inl (.inl (k.sm _ _ (ne _ _ h fun _ z => nomatch z) h))
  · exact .inl (.inr ⟨o, k.sm _ _ (ne _ _ h fun _ z => nomatch z) h⟩)
  · exact .inr h
theorem Lkd.key (k : Lkd P w H H' d od L) (e : H d = some (DN P w d L)) {a : Addr} {q : NestedKey} (h : KeyA K H a q) : KeyA K H' a q := h.mono fun _ _ z => k.sq e z
/-- .. and unlocked again -/
theorem Lkd.back (k : Lkd P w H H' d od L) (e : H d = some (DN P w d L)) : Same H (upd H' d (DN P w d L)) := fun b u q => by
  by_cases n : b = d
  · subst n
    rw [upd_same, ← e]
    exact q
  · rw [upd_ne n]
    exact k.sm b u n q
end
/-- an entry by its number -/
theorem toN_at {L : ML} {j : Nat} {e : NestedKey × Addr × V} (h : (toN L)[j]? = some e) : ∃ x, L[j]? = some x ∧ e = (keyK x.1, x.2) := by
  unfold toN at h
  rw [List.getElem?_map] at h
  cases c : L[j]? with
  | none => rw [c] at h; cases h
  | some x => rw [c] at h; exact ⟨x, rfl, (Option.some.inj h).symm⟩
theorem prM_at {L : ML} {R : Rds} (h : prM L = R.map fun r => (r.1, V.str r.2)) {j : Nat} {x : KW × Addr × V} (e : L[j]? = some x) : ∃ r, R[j]? = some r ∧ x.1 = r.1 ∧ x.2.2 = V.str r.2 := by
  have h1 : (prM L)[j]? = (R.map fun r => (r.1, V.str r.2))[j]? := by rw [h]
  unfold prM at h1
  rw [List.getElem?_map, List.getElem?_map, e] at h1
  cases c : R[j]? with
  | none => rw [c] at h1; cases h1
  | some r =>
    rw [c] at h1
    have h2 := Option.some.inj h1
    exact ⟨r, rfl, congrArg Prod.fst h2, congrArg Prod.snd h2⟩
theorem prM_len {L : ML} {R : Rds} (h : prM L = R.map fun r => (r.1, V.str r.2)) : L.length = R.length := by
  have := congrArg List.length h
  unfold prM at this
  rw [List.length_map, List.length_map] at this
  exact this
theorem toN_len (L : ML) : (toN L).length = L.length := by unfold toN; rw [List.length_map]
/-- the value at an entry's own key -/
theorem getN_own {L : ML} (nd : (L.map (·.1)).Nodup) {j : Nat} {x : KW × Addr × V} (e : L[j]? = some x) : getN (toN L) (keyK x.1) = some x.2.2 := by
  rw [getN_to]
  unfold prM
  induction L generalizing j with
  | nil => simp at e
  | cons y L ih =>
    rw [List.map_cons] at nd ⊢
    obtain ⟨n1, n2⟩ := List.nodup_cons.mp nd
    cases j with
    | zero =>
      have : y = x := Option.some.inj e
      subst this
      exact valV_pos (p := (y.1, y.2.2)) rfl
    | succ j =>
      have e' : L[j]? = some x := by simpa using e
      have hn : ¬ y.1 = x.1 := fun z => n1 (by rw [z]; exact List.mem_map.mpr ⟨x, List.mem_of_getElem? e', rfl⟩)
      rw [valV_neg (p := (y.1, y.2.2)) hn]
      exact ih n2 e'
def lineB (r : KW × Str) : Bool := (nameB r.1.1 && digB r.1.2) && nameB r.2
def readsB (R : Rds) : Bool := decide ((R.length : Int) ≤ 40) && R.all lineB
section
variable {P : Program} {w : World} {K : PySem.W.Frag} {mg : Str → Option Value} {base : Heap}
def spReads (P : Program) (w : World) (K : PySem.W.Frag) : Sp := fun vs H Q _ => ∃ (d : Addr) (R : Rds), vs = [.ref d] ∧ RDict P w K H d R ∧ (R.map (·.1)).Nodup ∧ R.length ≤ 1000 ∧ Shrt R ∧ ∀ H', Same H H' → Q (.bl (readsB R)) H'
theorem ok_reads {f : Addr} {fd : FuncData} (F : Fun K "_are_reads" "_are_reads" s_are_reads f fd) (T : Top K mg) : FnOk P w K mg base CX0 6 f fd ["value"] (spReads P w K) := by
  obtain ⟨tm, gm⟩ := T.g_MAX_READS
  have cn : Cal P w K mg base 5 "is_name" ["value"] (spName K) := (T.d_is_name.cal fun f fd F => ok_name F T).mono (by decide)
  have cp : Cal P w K mg base 5 "_is_place" ["value"] (spPlace K) := T.d_is_place.cal fun f fd F => ok_place F T
  refine F.ok sc_are_reads (fun vs H Q E h => ?_) (fun cdv A outer s H vs Q E hr h => ?_)
  · obtain ⟨d, R, rfl, _⟩ := h
    rfl
  · obtain ⟨d, R, rfl, ⟨L, hd, hk, hL⟩, hnd, hl, hsh, q⟩ := h
    refine ⟨_, pss_cons (ps_if (PW.pt (pw_or (pt_not (pt_val (pe_callB (call_isiN (P := P) (w := w) (K := K) (by exact ⟨rfl, rfl, rfl⟩)) (by rfl) T.b_isinstance (by decide +kernel) (pa_cons (pv 0) (pa_cons (pe_bltn (v := .ty "dict") (by rfl) T.b_dict (by decide +kernel) rfl) pa_nil)))))
        (pw_or1 (pt_cmpR op_gt (pe_callB (call_lenN (P := P) (w := w) (K := K) (by exact ⟨rfl, rfl, rfl⟩)) (by rfl) T.b_len PySem.boot_len (pa_cons (pv 0) pa_nil)) (pe_glob (v := .int 40) (by rfl) gm ⟨_, rfl⟩) (nomark _))))) (pss_one (ps_ret pe_bl)) pss_nil)
      (pss_one (ps_ret (pe_callB (cr_all rfl) (by rfl) T.b_all (by decide +kernel) (pa_cons (pe_lock (pe_lc (own := [("place", 1)]) (g := gName 1) (tt := tYes) rfl sc_are_reads.nd (pi_keysN (P := P) (w := w) (K := K) (by exact ⟨rfl, rfl, rfl⟩) (pv 0))
            (blkOk_by (N := ["value", "place"]) (sc := defScope s_are_reads) (by decide +kernel))
            (fun _ _ _ _ _ => pg_name (i := 1) sc_are_reads.nd rfl (.inl rfl)) (fun _ _ _ _ _ => pts_nil)
            (fun _ _ _ _ _ => pe_and (pe_cal cp hr (by rfl) (pa_cons (pv 1) pa_nil)) (pe_one (pe_cal cn hr (by rfl) (pa_cons (pe_nget (P := P) (w := w) (K := K) (by exact ⟨rfl, rfl, rfl⟩) (by exact hr.units) (pv 0) (pv 1) (by intro _ _; rfl)) pa_nil)))))) pa_nil)))), ?_⟩
    refine ⟨_, rfl, d, toN L, .ty "dict", .type "dict", true, rfl, .ty _, .inl hd, kit_ty (by decide +kernel), true, rfl, ?_⟩
    have hlen := prM_len hL
    have ndL : (L.map (·.1)).Nodup := by
      have e : L.map (·.1) = R.map (·.1) := by
        have := congrArg (List.map Prod.fst) hL
        unfold prM at this
        rw [List.map_map, List.map_map] at this
        exact this
      rw [e]
      exact hnd
    refine ⟨_, rfl, d, toN L, rfl, .inl hd, _, _, rfl, rfl, _, rfl, ite2 (fun e => ?_) (fun e => ?_)⟩
    · have e1 : readsB R = false := by
        have := of_decide_eq_true e
        rw [toN_len, hlen] at this
        unfold readsB
        rw [decide_eq_false (by omega), Bool.false_and]
      rw [e1] at q
      exact q H (Same.refl H)
    · have e1 : readsB R = R.all lineB := by
        have : ¬ ((40 : Int) < ((toN L).length : Int)) := fun z => e (decide_eq_true z)
        rw [toN_len, hlen] at this
        unfold readsB
        rw [decide_eq_true (by omega), Bool.true_and]
      rw [e1] at q
      refine ⟨d, _, hd, True.intro, fun od => ⟨_, rfl, d, od, toN L, rfl, upd_same, fun D hD => ?_⟩⟩
      have hDd : D ≠ d := fun z => by rw [z, upd_same] at hD; cases hD
      refine lc_it (walk_keysN (P := P) (w := w) (d := d) (o := od) (L := toN L)) (fun j H2 => H2 D = some (.lst ((R.take j).map fun r => V.bl (lineB r))) ∧ Lkd P w H H2 d od (toN L)) ⟨upd_same, Lkd.of.more (same_new (Same.refl _) hD)⟩ (fun j H2 _ hP => hP.2.at_) (fun j x H2 H2' hj hP hy => ?_) (fun H2 hP => ?_)
      · obtain ⟨eD, lk⟩ := hP
        obtain ⟨rfl, e0, he0, rfl⟩ := hy
        obtain ⟨x0, hx0, rfl⟩ := toN_at he0
        obtain ⟨r, hr0, er1, er2⟩ := prM_at hL hx0
        have key := lk.key hd (hk x0 (List.mem_of_getElem? hx0))
        obtain ⟨g, hg1, hg2⟩ := keyK_at.mp key
        obtain ⟨q1, q2, q3, q4⟩ := hsh r (List.mem_of_getElem? hr0)
        rw [er1] at hg1 hg2
        have hHD : H D = none := by
          rw [upd_ne hDd] at hD
          exact hD
        have put : ∀ {H3 : Hp} {b : Bool}, Same H2' H3 → b = lineB r → ∃ acc, H3 D = some (.lst acc) ∧ acc.length < sizeLine ∧ (upd H3 D (.lst (acc ++ [V.bl b]))) D = some (.lst ((R.take (j + 1)).map fun r => V.bl (lineB r))) ∧ Lkd P w H (upd H3 D (.lst (acc ++ [V.bl b]))) d od (toN L) := fun {H3 b} s3 eb => by
          refine ⟨_, s3 _ _ eD, ?_, ?_, ?_⟩
          · rw [List.length_map, List.length_take]
            exact Nat.lt_of_le_of_lt (Nat.le_trans (Nat.min_le_right _ _) hl) (by decide)
          · rw [upd_same, List.take_add_one, hr0, List.map_append, eb]
            rfl
          · have k3 := lk.more s3
            exact ⟨by rw [upd_ne (Ne.symm hDd)]; exact k3.at_, fun b u n e => by rw [upd_ne (ne_of_none e hHD)]; exact k3.sm b u n e⟩
        refine ⟨rfl, _, rfl, x0.2.1, g, r.1.1, r.1.2, rfl, hg1, hg2, q1, q2, q3, fun H3 s3 => ⟨_, rfl, ite2 (fun e2 => ?_) (fun e2 => ?_)⟩⟩
        · have hv : getN (toN L) (keyK x0.1) = some (V.str r.2) := by rw [getN_own ndL hx0, er2]
          refine ⟨_, rfl, _, rfl, d, x0.2.1, toN L, keyK x0.1, V.str r.2, rfl, rfl, ⟨.inr ⟨od, (lk.more s3).at_⟩, fun e he => ?_⟩, (lk.more s3).key hd (hk x0 (List.mem_of_getElem? hx0)), hv, _, rfl, .inl ⟨r.2, rfl, Nat.le_trans q4 (by decide)⟩, ?_⟩
          · obtain ⟨y, hy, rfl⟩ := List.mem_map.mp he
            exact (lk.more s3).key hd (hk y hy)
          · refine put s3 ?_
            unfold lineB
            rw [show (nameB r.1.1 && digB r.1.2) = true from e2, Bool.true_and]
            rfl
        · refine put s3 ?_
          unfold lineB
          rw [(by cases c : (nameB r.1.1 && digB r.1.2) with | false => rfl | true => exact absurd c e2 : (nameB r.1.1 && digB r.1.2) = false), Bool.false_and]
      · obtain ⟨eD, lk⟩ := hP
        rw [toN_len, hlen, List.take_length] at eD
        have z := q _ (lk.back hd)
        rw [← show (R.map lineB).all id = R.all lineB by rw [List.all_map]; rfl] at z
        refine ⟨lk.at_, D, R.map lineB, rfl, .inl (.inl ?_), z⟩
        rw [upd_ne hDd, eD, List.map_map]
        rfl
end
end Kl
set_option maxRecDepth 100000
set_option maxHeartbeats 4000000
namespace Kl
open PySem PySem.Spec PyProof.Rows L2 Gx Mx
def statesL (first : Str) (ends : List Str) (R : Rds) : List Str := first :: (ends ++ (R.map (fun r => r.1.1) ++ R.map (fun r => r.2)))
/-- the members of l, each once, ascending -/
def IsSt (l ys : List Str) : Prop := sortedS ys = true ∧ ys.Nodup ∧ ∀ z, z ∈ ys ↔ z ∈ l
theorem IsSt.unique {l xs ys : List Str} (h : IsSt l xs) (g : IsSt l ys) : xs = ys :=
  sortedS_unique ((List.perm_ext_iff_of_nodup h.2.1 g.2.1).mpr fun z => (h.2.2 z).trans (g.2.2 z).symm) h.1 g.1
section
variable {P : Program} {w : World} {K : PySem.W.Frag} {mg : Str → Option Value} {base : Heap}
def spStates (P : Program) (w : World) (K : PySem.W.Frag) : Sp := fun vs H Q _ => ∃ (first : Str) (e d : Addr) (ends : List Str) (R : Rds), vs = [.str first, .ref e, .ref d] ∧ SqT K H e (ends.map V.str) ∧ RDict P w K H d R ∧ (R.map (·.1)).Nodup ∧ ends.length ≤ 100 ∧ R.length ≤ 300 ∧
  ∀ (ys : List Str) (p : Addr) (H' : Hp), IsSt (statesL first ends R) ys → Same H H' → H p = none → H' p = some (.tup (ys.map V.str)) → Q (.ref p) H'
theorem ok_states {f : Addr} {fd : FuncData} (F : Fun K "_all_states" "_all_states" s_all_states f fd) (T : Top K mg) : FnOk P w K mg base CX0 1 f fd ["first", "ends", "reads"] (spStates P w K) := by
  refine F.ok sc_all_states (fun vs H Q E h => ?_) (fun cdv A outer s H vs Q E hr h => ?_)
  · obtain ⟨first, e, d, ends, R, rfl, _⟩ := h
    rfl
  · obtain ⟨first, e, d, ends, R, rfl, he, ⟨L, hd, hk, hL⟩, hnd, hle, hl, q⟩ := h
    refine ⟨_, pss_cut (ps_lock (ps_setLc (i := 3) (own := [("state", 5), ("_", 6)]) (g := gTup K 2 (gCons (gName 5) (gCons (gName 6) gNil))) (tt := tYes) (by rfl) sc_all_states.nd rfl rfl (sw_true rfl rfl rfl (by decide +kernel)) (pi_keysN (P := P) (w := w) (K := K) (by exact ⟨rfl, rfl, rfl⟩) (pv 2))
            (blkOk_by (N := ["first", "ends", "reads", "befores", "afters", "state", "_", "place"]) (sc := defScope s_all_states) (by decide +kernel))
            (fun _ _ _ _ _ => pg_tup rfl (pgs_cons (pg_name (i := 5) sc_all_states.nd rfl (.inl rfl)) (pgs_cons (pg_name (i := 6) sc_all_states.nd rfl (.inl rfl)) pgs_nil))) (fun _ _ _ _ _ => pts_nil)
            (fun _ _ _ _ _ => pv 5)))
      (pss_cut (ps_lock (ps_setLc (i := 4) (own := [("place", 7)]) (g := gName 7) (tt := tYes) (by rfl) sc_all_states.nd rfl rfl (sw_true rfl rfl rfl (by decide +kernel)) (pi_keysN (P := P) (w := w) (K := K) (by exact ⟨rfl, rfl, rfl⟩) (pv 2))
            (blkOk_by (N := ["first", "ends", "reads", "befores", "afters", "state", "_", "place"]) (sc := defScope s_all_states) (by decide +kernel))
            (fun _ _ _ _ _ => pg_name (i := 7) sc_all_states.nd rfl (.inl rfl)) (fun _ _ _ _ _ => pts_nil)
            (fun _ _ _ _ _ => pe_nget (P := P) (w := w) (K := K) (by exact ⟨rfl, rfl, rfl⟩) (by exact hr.units) (pv 2) (pv 7) (by intro _ _; rfl))))
      (pss_one (ps_ret (pe_callTy call_tuple_of (by rfl) T.b_tuple (by decide +kernel) (pa_cons (pe_callB (cr_sortedX rfl) (by rfl) T.b_sorted (by decide +kernel) (pa_cons
        (pe_callTy (cr_setX rfl) (by rfl) T.b_set (by decide +kernel) (pa_cons (pe_lst (pa_cons (pv 0) (StX.pa_star (pv 1) (StX.pa_star (pv 3) (StX.pa_star (pv 4) pa_nil))))) pa_nil)) pa_nil)) pa_nil))))), ?_⟩
    have hlen := prM_len hL
    have hHD : ∀ {D : Addr} {od : Obj}, upd H d (.frz od (DN P w d (toN L))) D = none → D ≠ d ∧ H D = none := fun {D od} hD => by
      have n : D ≠ d := fun z => by rw [z, upd_same] at hD; cases hD
      rw [upd_ne n] at hD
      exact ⟨n, hD⟩
    -- the states before
    refine ⟨fun σ' G => ∃ D : Addr, σ' = [some (.str first), some (.ref e), some (.ref d), some (.ref D), none, none, none, none] ∧ G D = some (.lst ((R.map fun r => r.1.1).map V.str)) ∧ Same H G, ?_, ?_⟩
    · refine ⟨d, _, hd, True.intro, fun od => ⟨_, rfl, d, od, toN L, rfl, upd_same, fun D hD => ?_⟩⟩
      obtain ⟨hDd, hD0⟩ := hHD hD
      refine lc_it (walk_keysN (P := P) (w := w) (d := d) (o := od) (L := toN L)) (fun j G => G D = some (.lst (((R.take j).map fun r => r.1.1).map V.str)) ∧ Lkd P w H G d od (toN L)) ⟨upd_same, Lkd.of.more (same_new (Same.refl _) hD)⟩ (fun j G _ hP => hP.2.at_) (fun j x Gx G hj hP hy => ?_) (fun G hP => ?_)
      · obtain ⟨eD, lk⟩ := hP
        obtain ⟨rfl, e0, he0, rfl⟩ := hy
        obtain ⟨x0, hx0, rfl⟩ := toN_at he0
        obtain ⟨r, hr0, er1, er2⟩ := prM_at hL hx0
        obtain ⟨g, hg1, hg2⟩ := keyK_at.mp (lk.key hd (hk x0 (List.mem_of_getElem? hx0)))
        rw [er1] at hg1
        refine ⟨x0.2.1, _, rfl, hg1, rfl, _, _, rfl, _, _, rfl, rfl, rfl, _, rfl, _, eD, ?_, ?_, ?_⟩
        · rw [List.length_map, List.length_map, List.length_take]
          exact Nat.lt_of_le_of_lt (Nat.le_trans (Nat.min_le_right _ _) hl) (by decide)
        · rw [upd_same, List.take_add_one, hr0, List.map_append, List.map_append]
          rfl
        · exact ⟨by rw [upd_ne (Ne.symm hDd)]; exact lk.at_, fun b u n e => by rw [upd_ne (ne_of_none e hD0)]; exact lk.sm b u n e⟩
      · obtain ⟨eD, lk⟩ := hP
        rw [toN_len, hlen, List.take_length] at eD
        exact ⟨lk.at_, D, rfl, by rw [upd_ne hDd]; exact eD, lk.back hd⟩
    rintro σ' G1 ⟨D1, rfl, hD1, s1⟩
    -- the states after
    have hd1 := s1 _ _ hd
    refine ⟨fun σ' G => ∃ D : Addr, σ' = [some (.str first), some (.ref e), some (.ref d), some (.ref D1), some (.ref D), none, none, none] ∧ G D = some (.lst ((R.map fun r => r.2).map V.str)) ∧ Same G1 G, ?_, ?_⟩
    · refine ⟨d, _, hd1, True.intro, fun od => ⟨_, rfl, d, od, toN L, rfl, upd_same, fun D hD => ?_⟩⟩
      have hDd : D ≠ d := fun z => by rw [z, upd_same] at hD; cases hD
      have hD0 : G1 D = none := by rw [upd_ne hDd] at hD; exact hD
      refine lc_it (walk_keysN (P := P) (w := w) (d := d) (o := od) (L := toN L)) (fun j G => G D = some (.lst (((R.take j).map fun r => r.2).map V.str)) ∧ Lkd P w G1 G d od (toN L)) ⟨upd_same, Lkd.of.more (same_new (Same.refl _) hD)⟩ (fun j G _ hP => hP.2.at_) (fun j x Gx G hj hP hy => ?_) (fun G hP => ?_)
      · obtain ⟨eD, lk⟩ := hP
        obtain ⟨rfl, e0, he0, rfl⟩ := hy
        obtain ⟨x0, hx0, rfl⟩ := toN_at he0
        obtain ⟨r, hr0, er1, er2⟩ := prM_at hL hx0
        have ndL : (L.map (·.1)).Nodup := by
          have e := congrArg (List.map Prod.fst) hL
          unfold prM at e
          rw [List.map_map, List.map_map] at e
          have e' : L.map (·.1) = R.map (·.1) := e
          rw [e']
          exact hnd
        have hv : getN (toN L) (keyK x0.1) = some (V.str r.2) := by rw [getN_own ndL hx0, er2]
        have ky : ∀ y ∈ L, KeyA K G y.2.1 (keyK y.1) := fun y hy => lk.key hd1 (keyA_same s1 (hk y hy))
        refine ⟨rfl, _, rfl, _, rfl, d, x0.2.1, toN L, keyK x0.1, V.str r.2, rfl, rfl, ⟨.inr ⟨od, lk.at_⟩, fun e he => ?_⟩, ky x0 (List.mem_of_getElem? hx0), hv, _, eD, ?_, ?_, ?_⟩
        · obtain ⟨y, hy, rfl⟩ := List.mem_map.mp he
          exact ky y hy
        · rw [List.length_map, List.length_map, List.length_take]
          exact Nat.lt_of_le_of_lt (Nat.le_trans (Nat.min_le_right _ _) hl) (by decide)
        · rw [upd_same, List.take_add_one, hr0, List.map_append, List.map_append]
          rfl
        · exact ⟨by rw [upd_ne (Ne.symm hDd)]; exact lk.at_, fun b u n e => by rw [upd_ne (ne_of_none e hD0)]; exact lk.sm b u n e⟩
      · obtain ⟨eD, lk⟩ := hP
        rw [toN_len, hlen, List.take_length] at eD
        exact ⟨lk.at_, D, rfl, by rw [upd_ne hDd]; exact eD, lk.back hd1⟩
    rintro σ' G2 ⟨D2, rfl, hD2, s2⟩
    have s12 : Same H G2 := s1.trans s2
    have hD1' := s2 _ _ hD1
    refine ⟨_, rfl, _, rfl, e, _, rfl, .inl (sqT_same s12 he), _, rfl, D1, _, rfl, .inr (.inl (.inl hD1')), _, rfl, D2, _, rfl, .inr (.inl (.inl hD2)), ?_⟩
    have e1 : V.str first :: (ends.map V.str ++ ((R.map fun r => r.1.1).map V.str ++ ((R.map fun r => r.2).map V.str ++ []))) = (statesL first ends R).map V.str := by
      unfold statesL
      rw [List.append_nil, List.map_cons, List.map_append, List.map_append]
    have ln : (statesL first ends R).length ≤ 1000 := by
      unfold statesL
      rw [List.length_cons, List.length_append, List.length_append, List.length_map, List.length_map]
      omega
    refine ⟨by rw [e1, List.length_map]; exact Nat.le_trans ln (by decide), fun l nl => ?_⟩
    have s3 : Same G2 (upd G2 l (.lst ((statesL first ends R).map V.str))) := same_new (Same.refl G2) nl
    have e2 : upd G2 l (.lst (V.str first :: (ends.map V.str ++ ((R.map fun r => r.1.1).map V.str ++ ((R.map fun r => r.2).map V.str ++ []))))) = upd G2 l (.lst ((statesL first ends R).map V.str)) := by rw [e1]
    rw [e2]
    generalize hH1 : upd G2 l (.lst ((statesL first ends R).map V.str)) = H1 at s3
    have h1l : H1 l = some (.lst ((statesL first ends R).map V.str)) := by rw [← hH1, upd_same]
    refine ⟨l, _, rfl, .inl (.inl h1l), ln, fun a na => ?_⟩
    have s4 : Same G2 (upd H1 a (SetO' P w a (statesL first ends R))) := s3.trans (same_new (Same.refl H1) na)
    refine ⟨a, _, rfl, upd_same, ln, fun ys p hs nd hm np => ?_⟩
    have s5 : Same G2 (upd (upd H1 a (SetO' P w a (statesL first ends R))) p (.lst (ys.map V.str))) := s4.trans (same_new (Same.refl _) np)
    refine ⟨p, ys.map V.str, rfl, .inl ⟨.inl (.inl upd_same), fun t nt => ?_⟩⟩
    have s6 := s12.trans s5
    refine q ys t _ ⟨hs, nd, hm⟩ (s6.trans (same_new (Same.refl _) nt)) ?_ upd_same
    exact s6.free nt
end
end Kl
set_option maxRecDepth 100000
set_option maxHeartbeats 4000000
namespace Kl
open PySem PySem.Spec PyProof.Rows L2 Gx Mx
theorem flat_tx (zs : List Str) : (zs.map V.str).all flatV = true := by
  rw [List.all_map]
  exact List.all_eq_true.mpr fun _ _ => rfl
theorem inV_tx (z : Str) (zs : List Str) : inV (.str z) (zs.map V.str) = decide (z ∈ zs) := by
  unfold inV
  rw [List.any_map]
  have e : (fun y => eqV y (V.str z)) ∘ V.str = fun y => decide (y = z) := by
    funext y
    show (y == z) = decide (y = z)
    by_cases h : y = z
    · subst h
      rw [decide_eq_true rfl]
      exact beq_self_eq_true y
    · rw [decide_eq_false h]
      exact beq_eq_false_iff_ne.mpr h
  rw [e]
  by_cases h : z ∈ zs
  · rw [decide_eq_true h]
    exact List.any_eq_true.mpr ⟨z, h, decide_eq_true rfl⟩
  · rw [decide_eq_false h]
    exact List.any_eq_false.mpr fun y hy => by
      rw [decide_eq_true_eq]
      exact fun q => h (q ▸ hy)
def goodB (first : Str) (ends : List Str) (r : KW × Str) : Bool := !(decide (r.2 = first)) && !(decide (r.2 ∈ ends) && r.1.2.isEmpty)
def readerB (first : Str) (ends : List Str) (R : Rds) (ys : List Str) : Bool := ((nameB first && (ascB ends && readsB R)) && (!decide (first ∈ ends) && decide ((ys.length : Int) ≤ 6))) && R.all (goodB first ends)
section
variable {P : Program} {w : World} {K : PySem.W.Frag} {mg : Str → Option Value} {base : Heap}
def spReader (P : Program) (w : World) (K : PySem.W.Frag) : Sp := fun vs H Q _ => ∃ (first : Str) (e d : Addr) (ends : List Str) (R : Rds), vs = [.str first, .ref e, .ref d] ∧ first.length ≤ 1000 ∧ SqT K H e (ends.map V.str) ∧ (∀ z ∈ ends, z.length ≤ 1000) ∧ RDict P w K H d R ∧ (R.map (·.1)).Nodup ∧ ends.length ≤ 100 ∧ R.length ≤ 300 ∧ Shrt R ∧
  ∀ (b : Bool) (H' : Hp), (∀ ys, IsSt (statesL first ends R) ys → b = readerB first ends R ys) → Same H H' → Q (.bl b) H'
theorem ok_reader {f : Addr} {fd : FuncData} (F : Fun K "_is_reader" "_is_reader" s_is_reader f fd) (T : Top K mg) : FnOk P w K mg base CX0 7 f fd ["first", "ends", "reads"] (spReader P w K) := by
  obtain ⟨tm, gm⟩ := T.g_MAX_STATES
  have cn : Cal P w K mg base 6 "is_name" ["value"] (spName K) := (T.d_is_name.cal fun f fd F => ok_name F T).mono (by decide)
  have ca : Cal P w K mg base 6 "_is_ascending" ["value"] (spAsc K) := (T.d_is_ascending.cal fun f fd F => ok_asc F T).mono (by decide)
  have cr : Cal P w K mg base 6 "_are_reads" ["value"] (spReads P w K) := T.d_are_reads.cal fun f fd F => ok_reads F T
  have cs : Cal P w K mg base 6 "_all_states" ["first", "ends", "reads"] (spStates P w K) := (T.d_all_states.cal fun f fd F => ok_states F T).mono (by decide)
  refine F.ok sc_is_reader (fun vs H Q E h => ?_) (fun cdv A outer s H vs Q E hr h => ?_)
  · obtain ⟨first, e, d, ends, R, rfl, _⟩ := h
    rfl
  · obtain ⟨first, e, d, ends, R, rfl, hfl, he, hes, hD, hnd, hle, hl, hsh, q⟩ := h
    refine ⟨_, pss_cut (ps_if (PW.pt (pw_or (pt_not (pt_val (pe_cal cn hr (by rfl) (pa_cons (pv 0) pa_nil)))) (pw_or (pt_not (pt_val (pe_cal ca hr (by rfl) (pa_cons (pv 1) pa_nil)))) (pw_or1 (pt_not (pt_val (pe_cal cr hr (by rfl) (pa_cons (pv 2) pa_nil)))))))) (pss_one (ps_ret pe_bl)) pss_nil)
      (pss_cut (ps_if (PW.pt (pw_or (pt_cmpR op_in_seq (pv 0) (pv 1) (by rfl)) (pw_or1 (pt_cmpR op_gt (pe_callB call_len_seq (by rfl) T.b_len PySem.boot_len (pa_cons (pe_cal cs hr (by rfl) (pa_cons (pv 0) (pa_cons (pv 1) (pa_cons (pv 2) pa_nil)))) pa_nil)) (pe_glob (v := .int 6) (by rfl) gm ⟨_, rfl⟩) (nomark _))))) (pss_one (ps_ret pe_bl)) pss_nil)
      (pss_cut (ps_lock (ps_for PassesOwn.never rfl (pi_itemsN (P := P) (w := w) (K := K) (by exact ⟨rfl, rfl, rfl⟩) (pv 2)) (pg_tup rfl (pgs_cons (pg_tup rfl (pgs_cons (pg_name (i := 3) sc_is_reader.nd rfl (.inl rfl)) (pgs_cons (pg_name (i := 4) sc_is_reader.nd rfl (.inl rfl)) pgs_nil))) (pgs_cons (pg_name (i := 5) sc_is_reader.nd rfl (.inl rfl)) pgs_nil)))
        (pss_one (ps_if (PW.pt (pw_or (pt_cmpR op_eq (pv 5) (pv 0) (nomark _)) (pw_or1 (PW.pt (pw_and (pt_cmpR op_in_seq (pv 5) (pv 1) (by rfl)) (pw_and1 (pt_not (pt_truth (pv 4) (fun _ => rfl))))))))) (pss_one (ps_ret pe_bl)) pss_nil))))
      (pss_one (ps_ret pe_bl)))), ?_⟩
    have no : ∀ {H' : Hp}, Same H H' → (∀ ys, IsSt (statesL first ends R) ys → readerB first ends R ys = false) → Q (.bl false) H' := fun s h => q false _ (fun ys hy => (h ys hy).symm) s
    have fb : ∀ {x : Bool}, ¬ (x = true) → x = false := fun {x} h => by cases x with | false => rfl | true => exact absurd rfl h
    have nt : ∀ {x : Bool}, ¬ ((!x) = true) → x = true := fun {x} h => by cases x with | true => rfl | false => exact absurd rfl h
    refine ⟨fun σ' G => σ' = [some (.str first), some (.ref e), some (.ref d), none, none, none] ∧ Same H G ∧ (nameB first && (ascB ends && readsB R)) = true, ?_, ?_⟩
    · refine ⟨_, rfl, _, rfl, .inl ⟨first, rfl, Nat.le_trans hfl (by decide)⟩, _, rfl, ite2 (fun e1 => ?_) (fun e1 => ?_)⟩
      · exact no (Same.refl H) fun ys _ => by
          unfold readerB
          rw [show nameB first = false from (Bool.not_eq_true' _).mp e1]
          simp
      refine ⟨_, rfl, e, ends, rfl, he, hle, hes, fun G s1 => ⟨_, rfl, ite2 (fun e2 => ?_) (fun e2 => ?_)⟩⟩
      · exact no s1 fun ys _ => by
          unfold readerB
          rw [show ascB ends = false from (Bool.not_eq_true' _).mp e2]
          simp
      refine ⟨_, rfl, d, R, rfl, hD.same s1, hnd, by omega, hsh, fun G2 s2 => ⟨_, rfl, ite2 (fun e3 => ?_) (fun e3 => ?_)⟩⟩
      · exact no (s1.trans s2) fun ys _ => by
          unfold readerB
          rw [show readsB R = false from (Bool.not_eq_true' _).mp e3]
          simp
      · exact ⟨rfl, s1.trans s2, by rw [show nameB first = true from nt e1, nt e2, nt e3]; rfl⟩
    rintro σ' G1 ⟨rfl, s1, c1⟩
    refine ⟨fun σ' G => σ' = [some (.str first), some (.ref e), some (.ref d), none, none, none] ∧ Same H G ∧ ∃ ys, IsSt (statesL first ends R) ys ∧ (!decide (first ∈ ends) && decide ((ys.length : Int) ≤ 6)) = true, ?_, ?_⟩
    · refine ⟨_, rfl, _, rfl, e, _, rfl, .inr (sqT_same s1 he), rfl, flat_tx ends, ?_⟩
      refine ⟨decide (first ∈ ends), congrArg V.bl (inV_tx first ends), ite2 (fun e1 => ?_) (fun e1 => ?_)⟩
      · exact no s1 fun ys _ => by
          unfold readerB
          rw [show decide (first ∈ ends) = true from e1]
          simp
      refine ⟨_, rfl, _, rfl, _, rfl, first, e, d, ends, R, rfl, sqT_same s1 he, hD.same s1, hnd, hle, hl, fun ys p G hys s p0 hp => ?_⟩
      refine ⟨p, _, rfl, .inr (SqT.of hp), _, _, rfl, rfl, _, rfl, ite2 (fun e2 => ?_) (fun e2 => ?_)⟩
      · exact no (s1.trans s) fun zs hzs => by
          have hz := hzs.unique hys
          subst hz
          have := of_decide_eq_true e2
          rw [List.length_map] at this
          unfold readerB
          rw [decide_eq_false (show ¬ ((zs.length : Int) ≤ 6) by omega)]
          simp
      · refine ⟨rfl, s1.trans s, ys, hys, ?_⟩
        have : ¬ ((6 : Int) < ((ys.map V.str).length : Int)) := fun z => e2 (decide_eq_true z)
        rw [List.length_map] at this
        rw [fb e1, decide_eq_true (show (ys.length : Int) ≤ 6 by omega)]
        rfl
    rintro σ' G2 ⟨rfl, s2, ys, hys, c2⟩
    have good : ∀ zs, IsSt (statesL first ends R) zs → readerB first ends R zs = R.all (goodB first ends) := fun zs hzs => by
      have hz := hzs.unique hys
      subst hz
      unfold readerB
      rw [c1, c2]
      rfl
    obtain ⟨L, hd, hk, hL⟩ := hD.same s2
    have hlen := prM_len hL
    refine ⟨fun σ' G => (∃ a b c, σ' = [some (.str first), some (.ref e), some (.ref d), a, b, c]) ∧ Same H G ∧ R.all (goodB first ends) = true, ?_, ?_⟩
    · refine ⟨d, _, hd, True.intro, fun od => ⟨_, rfl, d, od, toN L, rfl, upd_same, ?_⟩⟩
      refine for_it (walk_itemsN (P := P) (w := w) (d := d) (o := od) (L := toN L)) (fun j σ' G => (∃ a b c, σ' = [some (.str first), some (.ref e), some (.ref d), a, b, c]) ∧ Lkd P w G2 G d od (toN L) ∧ (R.take j).all (goodB first ends) = true) ⟨⟨_, _, _, rfl⟩, Lkd.of, rfl⟩ (fun j σ' G _ hP => hP.2.1.at_) (fun j x σ' G G' hj hP hy => ?_) (fun σ' G hP => ?_)
      · obtain ⟨⟨a, b, c, rfl⟩, lk, hR⟩ := hP
        obtain ⟨Tt, x1, y1, rfl, nT, rfl, h1, h2⟩ := hy
        obtain ⟨e0, he0, rfl⟩ := Option.map_eq_some_iff.mp h1
        obtain ⟨e0', he0', rfl⟩ := Option.map_eq_some_iff.mp h2
        obtain rfl : e0 = e0' := Option.some.inj (he0.symm.trans he0')
        obtain ⟨x0, hx0, rfl⟩ := toN_at he0
        obtain ⟨r, hr0, er1, er2⟩ := prM_at hL hx0
        have lkT := lk.more (same_new (o := HO.tup [V.ref x0.2.1, x0.2.2]) (Same.refl G) nT)
        obtain ⟨g, hg1, hg2⟩ := keyK_at.mp (lkT.key hd (hk x0 (List.mem_of_getElem? hx0)))
        rw [er1] at hg1 hg2
        have heG := lkT.sq hd (sqT_same s2 he)
        have hT : SqT K (upd G Tt (.tup [V.ref x0.2.1, x0.2.2])) Tt [V.ref x0.2.1, V.str r.2] := by
          rw [← er2]
          exact SqT.of upd_same
        have back : Same H (upd (upd G Tt (.tup [V.ref x0.2.1, x0.2.2])) d (DN P w d (toN L))) := s2.trans (lkT.back hd)
        have hno : goodB first ends r = false → (upd G Tt (.tup [V.ref x0.2.1, x0.2.2])) d = some (.frz od (DN P w d (toN L))) ∧ Q (.bl false) (upd (upd G Tt (.tup [V.ref x0.2.1, x0.2.2])) d (DN P w d (toN L))) := fun hb => ⟨lkT.at_, no back fun zs hzs => by
          rw [good zs hzs]
          cases c : R.all (goodB first ends) with
          | false => rfl
          | true =>
            have := List.all_eq_true.mp c r (List.mem_of_getElem? hr0)
            rw [hb] at this
            cases this⟩
        have yes : goodB first ends r = true → (R.take (j + 1)).all (goodB first ends) = true := fun hb => by
          rw [List.take_add_one, hr0, List.all_append, hR]
          show (true && (goodB first ends r && true)) = true
          rw [hb]
          rfl
        refine ⟨Tt, _, rfl, hT, rfl, _, _, rfl, x0.2.1, _, rfl, hg1, rfl, _, _, rfl, _, _, rfl, rfl, _, _, rfl, rfl, ?_⟩
        refine ⟨_, rfl, _, rfl, rfl, _, rfl, ite2 (fun e1 => ?_) (fun e1 => ?_)⟩
        · refine hno ?_
          have : r.2 = first := by
            have := of_decide_eq_true e1
            injection this
          unfold goodB
          rw [decide_eq_true this]
          rfl
        have n1 : ¬ r.2 = first := fun z => e1 (decide_eq_true (by rw [z]))
        refine ⟨_, rfl, _, rfl, e, _, rfl, .inr heG, rfl, flat_tx ends, decide (r.2 ∈ ends), congrArg V.bl (inV_tx r.2 ends), ite2 (fun e2 => ?_) (fun e2 => ?_)⟩
        · refine ⟨_, rfl, !(r.1.2.map V.str).isEmpty, .inr (.inl ⟨_, hg2, rfl⟩), ite2 (fun e3 => ?_) (fun e3 => ?_)⟩
          · refine hno ?_
            have e4 : r.1.2.isEmpty = true := by
              cases c : r.1.2 with
              | nil => rfl
              | cons _ _ => rw [c] at e3; cases e3
            unfold goodB
            rw [show decide (r.2 ∈ ends) = true from e2, e4]
            simp
          · refine ⟨⟨_, _, _, rfl⟩, lkT, yes ?_⟩
            have e4 : r.1.2.isEmpty = false := by
              cases c : r.1.2 with
              | nil => rw [c] at e3; exact absurd rfl e3
              | cons _ _ => rfl
            unfold goodB
            rw [decide_eq_false n1, e4]
            simp
        · refine ⟨⟨_, _, _, rfl⟩, lkT, yes ?_⟩
          unfold goodB
          rw [decide_eq_false n1, fb e2]
          rfl
      · obtain ⟨⟨a, b, c, rfl⟩, lk, hR⟩ := hP
        rw [toN_len, hlen, List.take_length] at hR
        exact ⟨lk.at_, ⟨a, b, c, rfl⟩, s2.trans (lk.back hd), hR⟩
    rintro σ' G3 ⟨⟨a, b, c, rfl⟩, s3, hall⟩
    exact q true _ (fun zs hzs => by rw [good zs hzs, hall]) s3
end
end Kl
set_option maxRecDepth 100000
set_option maxHeartbeats 4000000
namespace Kl
open PySem PySem.Spec PyProof.Rows L2 Gx Mx
inductive Reach (S : List Str) (PS : List (Str × Str)) : Str → Prop
  | start {z : Str} : z ∈ S → Reach S PS z
  | step {b a : Str} : Reach S PS b → (b, a) ∈ PS → Reach S PS a
/-- the pairs at the addresses as -/
def PrsAt (K : PySem.W.Frag) (H : Hp) (as : List Addr) (PS : List (Str × Str)) : Prop := Paired (fun a p => SqT K H a [V.str p.1, V.str p.2]) as PS
theorem PrsAt.same {K : PySem.W.Frag} {H H' : Hp} (s : Same H H') : ∀ {as : List Addr} {PS : List (Str × Str)}, PrsAt K H as PS → PrsAt K H' as PS
  | _, _, .nil => .nil
  | _, _, .cons h t => .cons (sqT_same s h) (PrsAt.same s t)
theorem sqL_sameE {K : PySem.W.Frag} {H H' : Hp} {a : Addr} {xs : List V} (s : Same H H') (h : SqL K H a xs) : SqL K H' a xs := by
  rcases h with (h | ⟨o, h⟩) | h
  · exact .inl (.inl (s _ _ h))
  · exact .inl (.inr ⟨o, s _ _ h⟩)
  · exact .inr h
/-- the list found, its first i members done -/
structure Found (S : List Str) (PS : List (Str × Str)) (F : List Str) (i : Nat) : Prop where
  nd : F.Nodup
  has : ∀ z ∈ S, z ∈ F
  only : ∀ z ∈ F, Reach S PS z
  done : ∀ (j : Nat) (b : Str), j < i → F[j]? = some b → ∀ a, (b, a) ∈ PS → a ∈ F
theorem Found.all {S : List Str} {PS : List (Str × Str)} {F : List Str} (f : Found S PS F F.length) (z : Str) : z ∈ F ↔ Reach S PS z := by
  refine ⟨f.only z, fun h => ?_⟩
  induction h with
  | start h => exact f.has _ h
  | step _ hp ih =>
    obtain ⟨j, hj⟩ := List.mem_iff_getElem?.mp ih
    exact f.done j _ (List.getElem?_eq_some_iff.mp hj).1 hj _ hp
theorem Found.few {S : List Str} {PS : List (Str × Str)} {F : List Str} {i : Nat} (f : Found S PS F i) : F.length ≤ S.length + PS.length := by
  have sub : ∀ z ∈ F, z ∈ S ++ PS.map (·.2) := fun z hz => by
    cases f.only z hz with
    | start h => exact List.mem_append_left _ h
    | step _ hp => exact List.mem_append_right _ (List.mem_map.mpr ⟨_, hp, rfl⟩)
  have := nodup_le f.nd sub
  rw [List.length_append, List.length_map] at this
  exact this
/-- the pairs before k are done for the member at i, too -/
structure FoundK (S : List Str) (PS : List (Str × Str)) (F : List Str) (i k : Nat) : Prop where
  f : Found S PS F i
  upto : ∀ (j : Nat) (p : Str × Str), j < k → PS[j]? = some p → F[i]? = some p.1 → p.2 ∈ F
theorem FoundK.next {S : List Str} {PS : List (Str × Str)} {F : List Str} {i : Nat} (f : FoundK S PS F i PS.length) : Found S PS F (i + 1) :=
  ⟨f.f.nd, f.f.has, f.f.only, fun j b hj hb a ha => by
    rcases Nat.lt_or_ge j i with h | h
    · exact f.f.done j b h hb a ha
    · have e : j = i := by omega
      subst e
      obtain ⟨k, hk⟩ := List.mem_iff_getElem?.mp ha
      exact f.upto k (b, a) (List.getElem?_eq_some_iff.mp hk).1 hk hb⟩
theorem FoundK.skip {S : List Str} {PS : List (Str × Str)} {F : List Str} {i k : Nat} {p : Str × Str} (f : FoundK S PS F i k) (hp : PS[k]? = some p) (h : F[i]? = some p.1 → p.2 ∈ F) : FoundK S PS F i (k + 1) :=
  ⟨f.f, fun j q hj hq hi => by
    rcases Nat.lt_or_ge j k with l | l
    · exact f.upto j q l hq hi
    · have e : j = k := by omega
      subst e
      rw [hp] at hq
      cases hq
      exact h hi⟩
theorem FoundK.put {S : List Str} {PS : List (Str × Str)} {F : List Str} {i k : Nat} {p : Str × Str} (f : FoundK S PS F i k) (hi : i < F.length) (hp : PS[k]? = some p) (hb : F[i]? = some p.1) (hn : p.2 ∉ F) : FoundK S PS (F ++ [p.2]) i (k + 1) := by
  have old : ∀ {j : Nat} {b : Str}, j < F.length → (F ++ [p.2])[j]? = some b → F[j]? = some b := fun {j b} hj e => by rw [List.getElem?_append_left hj] at e; exact e
  refine ⟨⟨?_, fun z hz => List.mem_append_left _ (f.f.has z hz), fun z hz => ?_, fun j b hj hjb a ha => List.mem_append_left _ (f.f.done j b hj (old (by omega) hjb) a ha)⟩, fun j q hj hq hiq => ?_⟩
  · refine List.nodup_append.mpr ⟨f.f.nd, by simp, fun x hx y hy => ?_⟩
    rw [List.mem_singleton] at hy
    rintro rfl
    exact hn (hy ▸ hx)
  · rcases List.mem_append.mp hz with hz | hz
    · exact f.f.only z hz
    · rw [List.mem_singleton] at hz
      subst hz
      exact .step (f.f.only _ (List.mem_of_getElem? hb)) (List.mem_of_getElem? hp)
  · rcases Nat.lt_or_ge j k with l | l
    · exact List.mem_append_left _ (f.upto j q l hq (old hi hiq))
    · have e : j = k := by omega
      subst e
      rw [hp] at hq
      cases hq
      exact List.mem_append_right _ (List.mem_singleton.mpr rfl)
section
variable {P : Program} {w : World} {K : PySem.W.Frag} {mg : Str → Option Value} {base : Heap}
def spReached (K : PySem.W.Frag) : Sp := fun vs H Q _ => ∃ (s0 pl : Addr) (S : List Str) (as : List Addr) (PS : List (Str × Str)), vs = [.ref s0, .ref pl] ∧ (SqL K H s0 (S.map V.str) ∨ SqT K H s0 (S.map V.str)) ∧ S.Nodup ∧ SqL K H pl (as.map V.ref) ∧ PrsAt K H as PS ∧ S.length ≤ 300 ∧ PS.length ≤ 300 ∧
  ∀ (D : Addr) (F : List Str) (H' : Hp), H D = none → Same H H' → H' D = some (.lst (F.map V.str)) → F.Nodup → F.length ≤ 600 → (∀ z, z ∈ F ↔ Reach S PS z) → Q (.ref D) H'
theorem ok_reached {f : Addr} {fd : FuncData} (F : Fun K "_reached" "_reached" s_reached f fd) (T : Top K mg) : FnOk P w K mg base CX0 1 f fd ["starts", "pairs"] (spReached K) := by
  refine F.ok sc_reached (fun vs H Q E h => ?_) (fun cdv A outer s H vs Q E hr h => ?_)
  · obtain ⟨s0, pl, S, as, PS, rfl, _⟩ := h
    rfl
  · obtain ⟨s0, pl, S, as, PS, rfl, hs, hnd, hpl, hps, hl1, hl2, q⟩ := h
    refine ⟨_, pss_cut (ps_set (i := 2) sc_reached.nd rfl (.inl rfl) (pe_callTy call_list_of (by rfl) T.b_list (by decide +kernel) (pa_cons (pv 0) pa_nil)))
      (pss_cut (ps_set (i := 3) sc_reached.nd rfl (.inl rfl) pe_int)
      (pss_cut (ps_while PassesOwn.never (pt_cmpR op_lt (pv 3) (pe_callB call_len_seq (by rfl) T.b_len PySem.boot_len (pa_cons (pv 2) pa_nil)) (nomark _))
        (pss_cut (ps_for PassesOwn.never rfl (pi_listK (K := K) rfl (pv 1)) (pg_tup rfl (pgs_cons (pg_name (i := 4) sc_reached.nd rfl (.inl rfl)) (pgs_cons (pg_name (i := 5) sc_reached.nd rfl (.inl rfl)) pgs_nil)))
          (pss_one (ps_if (PW.pt (pw_and (pt_cmpR op_eq (pv 4) (pe_ix ix_list (pv 2) (pv 3) (fun _ _ => rfl)) (nomark _)) (pw_and1 (pt_cmpR op_notIn_seq (pv 5) (pv 2) (by rfl)))))
            (pss_one (ps_expr (pe_bm PySem.F.plainAttrs_list PySem.F.slot_list_append PySem.F.type_list_append mt_append (pv 2) (pa_cons (pv 5) pa_nil)))) pss_nil)))
        (pss_one (ps_aug (i := 3) sc_reached.nd rfl (.inl rfl) pe_int ip_add))))
      (pss_one (ps_ret (pv 2))))), ?_⟩
    have hst : ∀ {G : Hp}, Same H G → PrsAt K G as PS := fun s => hps.same s
    refine ⟨fun σ' G => ∃ D : Addr, σ' = [some (.ref s0), some (.ref pl), some (.ref D), none, none, none] ∧ G D = some (.lst (S.map V.str)) ∧ Same H G ∧ H D = none, ?_, ?_⟩
    · exact ⟨_, rfl, s0, _, rfl, hs, fun l nl => ⟨l, rfl, upd_same, same_new (Same.refl H) nl, nl⟩⟩
    rintro σ' G1 ⟨D, rfl, eD, s1, nD⟩
    refine ⟨fun σ' G => σ' = [some (.ref s0), some (.ref pl), some (.ref D), some (.int 0), none, none] ∧ G = G1, ⟨rfl, rfl⟩, ?_⟩
    rintro σ' G ⟨rfl, rfl⟩
    refine ⟨fun σ' G => ∃ (F : List Str) (t u : Option V), σ' = [some (.ref s0), some (.ref pl), some (.ref D), some (.int (F.length : Nat)), t, u] ∧ G D = some (.lst (F.map V.str)) ∧ Found S PS F F.length ∧ Same H G, ?_, ?_⟩
    · refine ⟨fun m σ' G => ∃ (F : List Str) (i : Nat) (t u : Option V), σ' = [some (.ref s0), some (.ref pl), some (.ref D), some (.int (i : Nat)), t, u] ∧ G D = some (.lst (F.map V.str)) ∧ Found S PS F i ∧ i ≤ F.length ∧ m = S.length + PS.length - i ∧ Same H G,
        ⟨_, S, 0, _, _, rfl, eD, ⟨hnd, fun _ h => h, fun _ h => .start h, fun j _ hj => absurd hj (Nat.not_lt_zero _)⟩, Nat.zero_le _, rfl, s1⟩, fun m σ' G hW => ?_⟩
      obtain ⟨F, i, t, u, rfl, eF, hF, hi, rfl, sm⟩ := hW
      have few := hF.few
      refine ⟨_, rfl, _, rfl, D, _, rfl, .inl (.inl (.inl eF)), _, _, rfl, rfl, _, rfl, ite2 (fun c0 => ?_) (fun c0 => ?_)⟩
      · have hi2 : i < F.length := by
          have := of_decide_eq_true c0
          rw [List.length_map] at this
          omega
        refine ⟨fun σ' G => ∃ (F : List Str) (t u : Option V), σ' = [some (.ref s0), some (.ref pl), some (.ref D), some (.int ((i + 1 : Nat) : Int)), t, u] ∧ G D = some (.lst (F.map V.str)) ∧ Found S PS F (i + 1) ∧ i + 1 ≤ F.length ∧ Same H G, ?_, ?_⟩
        · rintro σ' G' ⟨F', t', u', e1, e2, e3, e4, e5⟩
          exact ⟨S.length + PS.length - (i + 1), by omega, F', i + 1, t', u', e1, e2, e3, e4, rfl, e5⟩
        refine ⟨fun σ' G => ∃ (F : List Str) (t u : Option V), σ' = [some (.ref s0), some (.ref pl), some (.ref D), some (.int (i : Nat)), t, u] ∧ G D = some (.lst (F.map V.str)) ∧ FoundK S PS F i PS.length ∧ i < F.length ∧ Same H G, ?_, ?_⟩
        · refine ⟨_, rfl, pl, rfl, ⟨_, sqL_sameE sm hpl⟩, ?_⟩
          have las : as.length = PS.length := Paired.length hps
          refine for_it (walk_list (K := K) (a := pl) (xs := as.map V.ref)) (fun j σ' G => ∃ (F : List Str) (t u : Option V), σ' = [some (.ref s0), some (.ref pl), some (.ref D), some (.int (i : Nat)), t, u] ∧ G D = some (.lst (F.map V.str)) ∧ FoundK S PS F i j ∧ i < F.length ∧ Same H G)
            ⟨F, t, u, rfl, eF, ⟨hF, fun j _ hj => absurd hj (Nat.not_lt_zero _)⟩, hi2, sm⟩ (fun j σ' G _ h => by obtain ⟨_, _, _, _, _, _, _, s⟩ := h; exact sqL_sameE s hpl) (fun j x σ' G G' hj h hy => ?_) (fun σ' G h => ?_)
          · obtain ⟨F2, t2, u2, rfl, eF2, hK, hi3, sm2⟩ := h
            obtain ⟨rfl, hx⟩ := hy
            rw [List.getElem?_map] at hx
            obtain ⟨a, ha, rfl⟩ := Option.map_eq_some_iff.mp hx
            obtain ⟨p, hp, hsq⟩ := paired_get (hst sm2) ha
            have hat : atI (F2.map V.str) (i : Int) = some (V.str F2[i]) := by
              unfold atI
              have e1 : ixN (F2.map V.str).length (i : Int) = some i := by
                unfold ixN
                rw [if_pos (Int.natCast_nonneg i), List.length_map]
                simp [hi3]
              rw [e1, Option.bind_some, List.getElem?_map, List.getElem?_eq_getElem hi3]
              rfl
            have eFi : F2[i]? = some F2[i] := List.getElem?_eq_getElem hi3
            refine ⟨a, _, rfl, hsq, rfl, _, _, rfl, _, _, rfl, rfl, ?_⟩
            refine ⟨_, rfl, _, rfl, _, rfl, D, _, _, _, rfl, rfl, .inl (.inl eF2), hat, rfl, _, rfl, ite2 (fun c1 => ?_) (fun c1 => ?_)⟩
            · have eb : p.1 = F2[i] := by
                have := of_decide_eq_true c1
                injection this
              refine ⟨_, rfl, _, rfl, D, _, rfl, .inl (.inl (.inl eF2)), rfl, flat_tx F2, !decide (p.2 ∈ F2), congrArg V.bl (by rw [← inV_tx p.2 F2]; rfl), ite2 (fun c2 => ?_) (fun c2 => ?_)⟩
              · have hn : p.2 ∉ F2 := fun z => by rw [decide_eq_true z] at c2; cases c2
                have fw := hK.f.few
                refine ⟨_, rfl, ⟨.inl ⟨rfl, _, .inl (.inl eF2)⟩, _, rfl, D, _, _, rfl, rfl, eF2, ?_, ?_⟩⟩
                · rw [List.length_map]
                  exact Nat.lt_of_le_of_lt (show F2.length ≤ 600 by omega) (by decide)
                · refine ⟨F2 ++ [p.2], _, _, rfl, ?_, hK.put hi3 hp (by rw [eFi, eb]) hn, by rw [List.length_append]; omega, fun b o e => ?_⟩
                  · rw [upd_same, List.map_append]
                    rfl
                  · rw [upd_ne (ne_of_none e nD)]
                    exact sm2 b o e
              · have hin : p.2 ∈ F2 := by
                  cases c3 : decide (p.2 ∈ F2) with
                  | true => exact of_decide_eq_true c3
                  | false => rw [c3] at c2; exact absurd rfl c2
                exact ⟨F2, _, _, rfl, eF2, hK.skip hp fun _ => hin, hi3, sm2⟩
            · refine ⟨F2, _, _, rfl, eF2, hK.skip hp fun z => ?_, hi3, sm2⟩
              rw [eFi] at z
              exact absurd (decide_eq_true (by rw [Option.some.inj z])) c1
          · rw [List.length_map, las] at h
            exact h
        rintro σ' G' ⟨F', t', u', rfl, e2, e3, e4, e5⟩
        refine ⟨_, rfl, _, _, rfl, rfl, F', t', u', ?_, e2, e3.next, by omega, e5⟩
        rw [show ((i + 1 : Nat) : Int) = (i : Int) + 1 by omega]
        rfl
      · have e : i = F.length := by
          have : ¬ ((i : Int) < ((F.map V.str).length : Int)) := fun z => c0 (decide_eq_true z)
          rw [List.length_map] at this
          omega
        subst e
        exact ⟨F, t, u, rfl, eF, hF, sm⟩
    rintro σ' G ⟨F, t, u, rfl, eF, hF, sm⟩
    have few := hF.few
    exact ⟨_, rfl, q D F G nD sm eF hF.nd (by omega) hF.all⟩
end
end Kl
set_option maxRecDepth 100000
set_option maxHeartbeats 4000000
namespace Kl
open PySem PySem.Spec PyProof.Rows L2 Gx Mx
def fwd (R : Rds) : List (Str × Str) := R.map fun r => (r.1.1, r.2)
def bwd (R : Rds) : List (Str × Str) := R.map fun r => (r.2, r.1.1)
/-- the places of the lines of R that no row needs, at M -/
def SpareAt (K : PySem.W.Frag) (H : Hp) (first : Str) (ends : List Str) (R : Rds) (M : List (Addr × KW)) : Prop := (∀ x ∈ M, KeyA K H x.1 (keyK x.2)) ∧
  ∃ B Lv : List Str, (∀ z, z ∈ B ↔ Reach [first] (fwd R) z) ∧ (∀ z, z ∈ Lv ↔ Reach ends (bwd R) z) ∧ M.map (·.2) = (R.filter fun r => !decide (r.1.1 ∈ B) || !decide (r.2 ∈ Lv)).map (·.1)
theorem sqT_upd {K : PySem.W.Frag} {G : Hp} {d a : Addr} {u : HO} {xs : List V} (n : ∀ ys, ¬ Rd G d (.tup ys)) (h : SqT K G a xs) : SqT K (upd G d u) a xs := by
  rcases h with h | h
  · have na : a ≠ d := fun z => n xs (z ▸ h)
    refine .inl ?_
    rcases h with h | ⟨o, h⟩
    · exact .inl (by rw [upd_ne na]; exact h)
    · exact .inr ⟨o, by rw [upd_ne na]; exact h⟩
  · exact .inr h
theorem no_lst {G : Hp} {d : Addr} {zs : List V} (e : G d = some (.lst zs)) : ∀ ys, ¬ Rd G d (.tup ys) := fun ys h => by
  rcases h with h | ⟨o, h⟩
  · rw [e] at h; cases h
  · rw [e] at h; cases h
theorem no_frz {G : Hp} {d : Addr} {o : Obj} {φ : Heap → Prop} (e : G d = some (.frz o (.ext φ))) : ∀ ys, ¬ Rd G d (.tup ys) := fun ys h => by
  rcases h with h | ⟨o, h⟩
  · rw [e] at h; cases h
  · rw [e] at h; cases h
theorem PrsAt.upd_ {K : PySem.W.Frag} {G : Hp} {d : Addr} {u : HO} (n : ∀ ys, ¬ Rd G d (.tup ys)) : ∀ {as : List Addr} {PS : List (Str × Str)}, PrsAt K G as PS → PrsAt K (upd G d u) as PS
  | _, _, .nil => .nil
  | _, _, .cons h t => .cons (sqT_upd n h) (PrsAt.upd_ n t)
theorem PrsAt.snoc {K : PySem.W.Frag} {H : Hp} : ∀ {as : List Addr} {PS : List (Str × Str)}, PrsAt K H as PS → ∀ {a : Addr} {p : Str × Str}, SqT K H a [V.str p.1, V.str p.2] → PrsAt K H (as ++ [a]) (PS ++ [p])
  | _, _, .nil, _, _, h => .cons h .nil
  | _, _, .cons q t, _, _, h => .cons q (PrsAt.snoc t h)
theorem op_notInK {X : Cx} {K : PySem.W.Frag} (hk : X.K = K) : OpR X (compareOp .NotIn) (rIn K true) := by
  subst hk
  exact op_notIn_seq
theorem ix_tupK {X : Cx} {K : PySem.W.Frag} (hk : X.K = K) : IxR X (rIxT K) := by
  subst hk
  exact ix_tup
section
variable {P : Program} {w : World} {K : PySem.W.Frag} {mg : Str → Option Value} {base : Heap}
def spSpare (P : Program) (w : World) (K : PySem.W.Frag) : Sp := fun vs H Q _ => ∃ (first : Str) (e d : Addr) (ends : List Str) (R : Rds), vs = [.str first, .ref e, .ref d] ∧ (SqL K H e (ends.map V.str) ∨ SqT K H e (ends.map V.str)) ∧ ends.Nodup ∧ RDict P w K H d R ∧ ends.length ≤ 100 ∧ R.length ≤ 300 ∧
  ∀ (M : List (Addr × KW)) (p : Addr) (H' : Hp), Same H H' → H p = none → H' p = some (.tup (M.map fun x => V.ref x.1)) → SpareAt K H' first ends R M → Q (.ref p) H'
theorem ok_spare {f : Addr} {fd : FuncData} (F : Fun K "_spare" "_spare" s_spare f fd) (T : Top K mg) : FnOk P w K mg base CX0 2 f fd ["first", "ends", "reads"] (spSpare P w K) := by
  have cr : Cal P w K mg base 1 "_reached" ["starts", "pairs"] (spReached K) := T.d_reached.cal fun f fd F => ok_reached F T
  refine F.ok sc_spare (fun vs H Q E h => ?_) (fun cdv A outer s H vs Q E hr h => ?_)
  · obtain ⟨first, e, d, ends, R, rfl, _⟩ := h
    rfl
  · obtain ⟨first, e, d, ends, R, rfl, he, hnd, ⟨L, hd, hk, hL⟩, hle, hl, q⟩ := h
    refine ⟨_, pss_cut (ps_lock (ps_setLc (i := 3) (own := [("place", 6), ("after", 7)]) (g := gTup K 2 (gCons (gName 6) (gCons (gName 7) gNil))) (tt := tYes) (by rfl) sc_spare.nd rfl rfl (sw_true rfl rfl rfl (by decide +kernel)) (pi_itemsN (P := P) (w := w) (K := K) (by exact ⟨rfl, rfl, rfl⟩) (pv 2))
            (blkOk_by (N := ["first", "ends", "reads", "pairs", "begun", "live", "place", "after", "before"]) (sc := defScope s_spare) (by decide +kernel))
            (fun _ _ _ _ _ => pg_tup rfl (pgs_cons (pg_name (i := 6) sc_spare.nd rfl (.inl rfl)) (pgs_cons (pg_name (i := 7) sc_spare.nd rfl (.inl rfl)) pgs_nil))) (fun _ _ _ _ _ => pts_nil)
            (fun _ _ _ _ _ => pe_tup (pa_cons (pe_ix (ix_tupK (K := K) (by exact rfl)) (pv 6) pe_int (fun _ _ => rfl)) (pa_cons (pv 7) pa_nil)))))
      (pss_cut (ps_set (i := 4) sc_spare.nd rfl (.inr rfl) (pe_cal cr hr (by rfl) (pa_cons (pe_lst (pa_cons (pv 0) pa_nil)) (pa_cons (pv 3) pa_nil))))
      (pss_cut (ps_set (i := 5) sc_spare.nd rfl (.inr rfl) (pe_cal cr hr (by rfl) (pa_cons (pv 1) (pa_cons (pe_lc (own := [("before", 8), ("after", 7)]) (g := gTup K 2 (gCons (gName 8) (gCons (gName 7) gNil))) (tt := tYes) rfl sc_spare.nd (pi_listK (K := K) rfl (pv 3))
            (blkOk_by (N := ["first", "ends", "reads", "pairs", "begun", "live", "place", "after", "before"]) (sc := defScope s_spare) (by decide +kernel))
            (fun _ _ _ _ _ => pg_tup rfl (pgs_cons (pg_name (i := 8) sc_spare.nd rfl (.inl rfl)) (pgs_cons (pg_name (i := 7) sc_spare.nd rfl (.inl rfl)) pgs_nil))) (fun _ _ _ _ _ => pts_nil)
            (fun _ _ _ _ _ => pe_tup (pa_cons (pv 7) (pa_cons (pv 8) pa_nil)))) pa_nil))))
      (pss_one (ps_ret (pe_callTy call_tuple_of (by rfl) T.b_tuple (by decide +kernel) (pa_cons (pe_lock (pe_lc (own := [("place", 6), ("after", 7)]) (g := gTup K 2 (gCons (gName 6) (gCons (gName 7) gNil))) rfl sc_spare.nd (pi_itemsN (P := P) (w := w) (K := K) (by exact ⟨rfl, rfl, rfl⟩) (pv 2))
            (blkOk_by (N := ["first", "ends", "reads", "pairs", "begun", "live", "place", "after", "before"]) (sc := defScope s_spare) (by decide +kernel))
            (fun _ _ _ _ _ => pg_tup rfl (pgs_cons (pg_name (i := 6) sc_spare.nd rfl (.inl rfl)) (pgs_cons (pg_name (i := 7) sc_spare.nd rfl (.inl rfl)) pgs_nil)))
            (fun _ _ _ _ _ => pts_one (PW.pt (pw_or (pt_cmpR (op_notInK (K := K) (by exact rfl)) (pe_ix (ix_tupK (K := K) (by exact rfl)) (pv 6) pe_int (fun _ _ => rfl)) (pv 4) (by rfl)) (pw_or1 (pt_cmpR (op_notInK (K := K) (by exact rfl)) (pv 7) (pv 5) (by rfl))))))
            (fun _ _ _ _ _ => pv 6))) pa_nil)))))), ?_⟩
    have hlen := prM_len hL
    have fr : ∀ {G : Hp} {D : Addr} {od : Obj}, upd G d (.frz od (DN P w d (toN L))) D = none → D ≠ d ∧ G D = none := fun {G D od} hD => by
      have n : D ≠ d := fun z => by rw [z, upd_same] at hD; cases hD
      rw [upd_ne n] at hD
      exact ⟨n, hD⟩
    -- one turn of the items
    have turn : ∀ {G0 G : Hp} {od : Obj} {Tt : Addr} {x1 y1 : V} {j : Nat}, Same H G0 → G0 d = some (DN P w d (toN L)) → Lkd P w G0 G d od (toN L) → G Tt = none → ((toN L)[j]?.map fun e => V.ref e.2.1) = some x1 → ((toN L)[j]?.map fun e => e.2.2) = some y1 →
        ∃ (x0 : KW × Addr × V) (r : KW × Str) (g : Addr), L[j]? = some x0 ∧ R[j]? = some r ∧ x0.1 = r.1 ∧ x1 = .ref x0.2.1 ∧ y1 = .str r.2 ∧ Lkd P w G0 (upd G Tt (.tup [x1, y1])) d od (toN L) ∧ SqT K (upd G Tt (.tup [x1, y1])) Tt [.ref x0.2.1, .str r.2] ∧ SqT K (upd G Tt (.tup [x1, y1])) x0.2.1 [.str r.1.1, .ref g] ∧ KeyA K (upd G Tt (.tup [x1, y1])) x0.2.1 (keyK r.1) :=
      fun {G0 G od Tt x1 y1 j} s0 hd0 lk nT h1 h2 => by
        obtain ⟨e0, he0, rfl⟩ := Option.map_eq_some_iff.mp h1
        obtain ⟨e0', he0', rfl⟩ := Option.map_eq_some_iff.mp h2
        obtain rfl : e0 = e0' := Option.some.inj (he0.symm.trans he0')
        obtain ⟨x0, hx0, rfl⟩ := toN_at he0
        obtain ⟨r, hr0, er1, er2⟩ := prM_at hL hx0
        have lkT := lk.more (same_new (o := HO.tup [V.ref x0.2.1, x0.2.2]) (Same.refl G) nT)
        have ky := lkT.key hd0 (keyA_same s0 (hk x0 (List.mem_of_getElem? hx0)))
        rw [er1] at ky
        obtain ⟨g, hg1, hg2⟩ := keyK_at.mp ky
        exact ⟨x0, r, g, hx0, hr0, er1, rfl, er2, lkT, by rw [← er2]; exact SqT.of upd_same, hg1, ky⟩
    refine ⟨fun σ' G => ∃ (D : Addr) (as : List Addr), σ' = [some (.str first), some (.ref e), some (.ref d), some (.ref D), none, none, none, none, none] ∧ G D = some (.lst (as.map V.ref)) ∧ PrsAt K G as (fwd R) ∧ Same H G, ?_, ?_⟩
    · refine ⟨d, _, hd, True.intro, fun od => ⟨_, rfl, d, od, toN L, rfl, upd_same, fun D hD => ?_⟩⟩
      obtain ⟨hDd, hD0⟩ := fr hD
      refine lc_it (walk_itemsN (P := P) (w := w) (d := d) (o := od) (L := toN L)) (fun j G => ∃ as : List Addr, G D = some (.lst (as.map V.ref)) ∧ PrsAt K G as ((fwd R).take j) ∧ Lkd P w H G d od (toN L) ∧ as.length ≤ 1000) ⟨[], upd_same, .nil, Lkd.of.more (same_new (Same.refl _) hD), Nat.zero_le _⟩ (fun j G _ hP => by obtain ⟨_, _, _, lk, _⟩ := hP; exact lk.at_) (fun j x G G' hj hP hy => ?_) (fun G hP => ?_)
      · obtain ⟨as, eD, hPr, lk, hal⟩ := hP
        obtain ⟨Tt, x1, y1, rfl, nT, rfl, h1, h2⟩ := hy
        obtain ⟨x0, r, g, hx0, hr0, er1, rfl, rfl, lkT, hTt, hkey, ky⟩ := turn (Same.refl H) hd lk nT h1 h2
        have sT : Same G (upd G Tt (.tup [V.ref x0.2.1, V.str r.2])) := same_new (Same.refl G) nT
        have eDT := sT _ _ eD
        have hPT := hPr.same sT
        generalize upd G Tt (.tup [V.ref x0.2.1, V.str r.2]) = G1 at *
        refine ⟨Tt, _, rfl, hTt, rfl, _, _, rfl, _, _, rfl, rfl, rfl, _, rfl, x0.2.1, _, 0, _, rfl, rfl, hkey, rfl, _, rfl, ?_⟩
        refine ⟨by show 2 ≤ sizeLine; decide, fun T nT2 => ?_⟩
        have s2 : Same G1 (upd G1 T (.tup [V.str r.1.1, V.str r.2])) := same_new (Same.refl G1) nT2
        have eD2 := s2 _ _ eDT
        have hT2 : SqT K (upd G1 T (.tup [V.str r.1.1, V.str r.2])) T [V.str r.1.1, V.str r.2] := SqT.of upd_same
        have lk2 := lkT.more s2
        have hP2 := hPT.same s2
        generalize upd G1 T (.tup [V.str r.1.1, V.str r.2]) = G2 at *
        have lP : as.length ≤ j := by
          have := Paired.length hPr
          rw [List.length_take] at this
          omega
        have hj2 : j < 300 := by
          rw [toN_len, hlen] at hj
          omega
        refine ⟨_, eD2, ?_, as ++ [T], ?_, ?_, ⟨by rw [upd_ne (Ne.symm hDd)]; exact lk2.at_, fun b u n e => by rw [upd_ne (ne_of_none e hD0)]; exact lk2.sm b u n e⟩, by rw [List.length_append, List.length_singleton]; omega⟩
        · rw [List.length_map]
          exact Nat.lt_of_le_of_lt (show as.length ≤ 1000 by omega) (by decide)
        · rw [upd_same, List.map_append]
          rfl
        · have ef : (fwd R).take (j + 1) = (fwd R).take j ++ [(r.1.1, r.2)] := by
            unfold fwd
            rw [List.take_add_one, List.getElem?_map, hr0]
            rfl
          rw [ef]
          exact PrsAt.snoc (hP2.upd_ (no_lst eD2)) (sqT_upd (no_lst eD2) hT2)
      · obtain ⟨as, eD, hPr, lk, hal⟩ := hP
        rw [toN_len, hlen, List.take_of_length_le (by unfold fwd; rw [List.length_map]; exact Nat.le_refl _)] at hPr
        exact ⟨lk.at_, D, as, rfl, by rw [upd_ne hDd]; exact eD, hPr.upd_ (no_frz lk.at_), lk.back hd⟩
    rintro σ' G1 ⟨D1, as1, rfl, eD1, hP1, s1⟩
    have lf : (fwd R).length ≤ 300 := by unfold fwd; rw [List.length_map]; exact hl
    have lb : (bwd R).length ≤ 300 := by unfold bwd; rw [List.length_map]; exact hl
    have la1 : as1.length = R.length := by
      have := Paired.length hP1
      unfold fwd at this
      rw [List.length_map] at this
      exact this
    refine ⟨fun σ' G => ∃ (DB : Addr) (B : List Str), σ' = [some (.str first), some (.ref e), some (.ref d), some (.ref D1), some (.ref DB), none, none, none, none] ∧ G DB = some (.lst (B.map V.str)) ∧ (∀ z, z ∈ B ↔ Reach [first] (fwd R) z) ∧ B.length ≤ 600 ∧ Same G1 G, ?_, ?_⟩
    · refine ⟨_, rfl, by show 1 ≤ sizeLine; decide, fun l nl => ?_⟩
      have s2 : Same G1 (upd G1 l (.lst [V.str first])) := same_new (Same.refl G1) nl
      refine ⟨_, rfl, l, D1, [first], as1, fwd R, rfl, .inl (.inl (.inl upd_same)), by simp, sqL_sameE s2 (.inl (.inl eD1)), hP1.same s2, by show 1 ≤ 300; omega, lf, fun DB B G nD sm eB _ hB6 hB => ⟨DB, B, rfl, eB, hB, hB6, s2.trans sm⟩⟩
    rintro σ' G2 ⟨DB, B, rfl, eB, hB, lB, s2⟩
    have s02 := s1.trans s2
    refine ⟨fun σ' G => ∃ (DL : Addr) (Lv : List Str), σ' = [some (.str first), some (.ref e), some (.ref d), some (.ref D1), some (.ref DB), some (.ref DL), none, none, none] ∧ G DL = some (.lst (Lv.map V.str)) ∧ (∀ z, z ∈ Lv ↔ Reach ends (bwd R) z) ∧ Lv.length ≤ 600 ∧ Same G2 G, ?_, ?_⟩
    · refine ⟨_, rfl, _, rfl, D1, rfl, ⟨_, .inl (.inl (s2 _ _ eD1))⟩, fun D hD => ?_⟩
      refine lc_it (walk_list (K := K) (a := D1) (xs := as1.map V.ref)) (fun j G => ∃ as : List Addr, G D = some (.lst (as.map V.ref)) ∧ PrsAt K G as ((bwd R).take j) ∧ Same G2 G) ⟨[], upd_same, .nil, same_new (Same.refl G2) hD⟩ (fun j G _ hP => by obtain ⟨_, _, _, s⟩ := hP; exact .inl (.inl (s _ _ (s2 _ _ eD1)))) (fun j x G G' hj hP hy => ?_) (fun G hP => ?_)
      · obtain ⟨as, eD, hPr, sm⟩ := hP
        obtain ⟨rfl, hx⟩ := hy
        rw [List.getElem?_map] at hx
        obtain ⟨a, ha, rfl⟩ := Option.map_eq_some_iff.mp hx
        obtain ⟨p, hp, hsq⟩ := paired_get ((hP1.same s2).same sm) ha
        refine ⟨a, _, rfl, hsq, rfl, _, _, rfl, _, _, rfl, rfl, rfl, _, rfl, _, rfl, by show 2 ≤ sizeLine; decide, fun T nT2 => ?_⟩
        obtain ⟨r, hr0, rfl⟩ : ∃ r, R[j]? = some r ∧ p = (r.1.1, r.2) := by
          unfold fwd at hp
          rw [List.getElem?_map] at hp
          obtain ⟨r, h1, h2⟩ := Option.map_eq_some_iff.mp hp
          exact ⟨r, h1, h2.symm⟩
        have s4 : Same G' (upd G' T (.tup [V.str r.2, V.str r.1.1])) := same_new (Same.refl G') nT2
        have eD4 := s4 _ _ eD
        have hP4 := hPr.same s4
        have hT4 : SqT K (upd G' T (.tup [V.str r.2, V.str r.1.1])) T [V.str r.2, V.str r.1.1] := SqT.of upd_same
        have sm4 := sm.trans s4
        show ∃ acc, (upd G' T (.tup [V.str r.2, V.str r.1.1])) D = some (.lst acc) ∧ acc.length < sizeLine ∧ ∃ as : List Addr, _ ∧ _ ∧ Same G2 (upd (upd G' T (.tup [V.str r.2, V.str r.1.1])) D (.lst (acc ++ [V.ref T])))
        generalize upd G' T (.tup [V.str r.2, V.str r.1.1]) = G4 at *
        have lP : as.length ≤ 300 := by
          have := Paired.length hPr
          rw [List.length_take] at this
          omega
        refine ⟨_, eD4, ?_, as ++ [T], ?_, ?_, fun b u n => by rw [upd_ne (ne_of_none n hD)]; exact sm4 b u n⟩
        · rw [List.length_map]
          exact Nat.lt_of_le_of_lt (show as.length ≤ 1000 by omega) (by decide)
        · rw [upd_same, List.map_append]
          rfl
        · have ef : (bwd R).take (j + 1) = (bwd R).take j ++ [(r.2, r.1.1)] := by
            unfold bwd
            rw [List.take_add_one, List.getElem?_map, hr0]
            rfl
          rw [ef]
          exact PrsAt.snoc (hP4.upd_ (no_lst eD4)) (sqT_upd (no_lst eD4) hT4)
      · obtain ⟨as, eD, hPr, sm⟩ := hP
        rw [List.length_map, la1, List.take_of_length_le (by unfold bwd; rw [List.length_map]; exact Nat.le_refl _)] at hPr
        have s04 := s02.trans sm
        exact ⟨e, D, ends, as, bwd R, rfl, he.imp (sqL_sameE s04) (sqT_same s04), hnd, .inl (.inl eD), hPr, by omega, lb, fun DL Lv G nD s5 eL _ l6 h => ⟨DL, Lv, rfl, eL, h, l6, sm.trans s5⟩⟩
    rintro σ' G3 ⟨DL, Lv, rfl, eL, hLv, lL, s3⟩
    have s03 := s02.trans s3
    have hd3 := s03 _ _ hd
    have eB3 := s3 _ _ eB
    refine ⟨d, _, hd3, True.intro, fun od => ⟨_, rfl, d, od, toN L, rfl, upd_same, fun D hD => ?_⟩⟩
    obtain ⟨hDd, hD0⟩ := fr hD
    refine lc_it (walk_itemsN (P := P) (w := w) (d := d) (o := od) (L := toN L)) (fun j G => ∃ M : List (Addr × KW), G D = some (.lst (M.map fun x => V.ref x.1)) ∧ (∀ x ∈ M, KeyA K G x.1 (keyK x.2)) ∧ M.map (·.2) = ((R.take j).filter fun r => !decide (r.1.1 ∈ B) || !decide (r.2 ∈ Lv)).map (·.1) ∧ Lkd P w G3 G d od (toN L) ∧ M.length ≤ j)
      ⟨[], upd_same, nofun, rfl, Lkd.of.more (same_new (Same.refl _) hD), Nat.le_refl _⟩ (fun j G _ hP => by obtain ⟨_, _, _, _, lk, _⟩ := hP; exact lk.at_) (fun j x G G' hj hP hy => ?_) (fun G hP => ?_)
    · obtain ⟨M, eD, hM, eM, lk, lM⟩ := hP
      obtain ⟨Tt, x1, y1, rfl, nT, rfl, h1, h2⟩ := hy
      obtain ⟨x0, r, g, hx0, hr0, er1, rfl, rfl, lkT, hTt, hkey, ky⟩ := turn s03 hd3 lk nT h1 h2
      have sT : Same G (upd G Tt (.tup [V.ref x0.2.1, V.str r.2])) := same_new (Same.refl G) nT
      have eDT := sT _ _ eD
      have hMT : ∀ x ∈ M, KeyA K (upd G Tt (.tup [V.ref x0.2.1, V.str r.2])) x.1 (keyK x.2) := fun x hx => keyA_same sT (hM x hx)
      have nd1 : ∀ {b : Addr} {u : HO}, G3 b = some u → (∀ φ, u ≠ .ext φ) → b ≠ d := fun {b u} e n z => by
        subst z
        rw [hd3] at e
        exact n _ (Option.some.inj e).symm
      have eBT := lkT.sm _ _ (nd1 eB3 fun _ z => nomatch z) eB3
      have eLT := lkT.sm _ _ (nd1 eL fun _ z => nomatch z) eL
      generalize upd G Tt (.tup [V.ref x0.2.1, V.str r.2]) = G1' at *
      have etake : (R.take (j + 1)).filter (fun r => !decide (r.1.1 ∈ B) || !decide (r.2 ∈ Lv)) = (R.take j).filter (fun r => !decide (r.1.1 ∈ B) || !decide (r.2 ∈ Lv)) ++ (if (!decide (r.1.1 ∈ B) || !decide (r.2 ∈ Lv)) = true then [r] else []) := by
        rw [List.take_add_one, hr0, List.filter_append]
        show _ ++ List.filter _ [r] = _
        rw [List.filter_cons, List.filter_nil]
      have put : (!decide (r.1.1 ∈ B) || !decide (r.2 ∈ Lv)) = true → ∃ acc, G1' D = some (.lst acc) ∧ acc.length < sizeLine ∧ ∃ M : List (Addr × KW), (upd G1' D (.lst (acc ++ [V.ref x0.2.1]))) D = some (.lst (M.map fun x => V.ref x.1)) ∧ (∀ x ∈ M, KeyA K (upd G1' D (.lst (acc ++ [V.ref x0.2.1]))) x.1 (keyK x.2)) ∧
          M.map (·.2) = ((R.take (j + 1)).filter fun r => !decide (r.1.1 ∈ B) || !decide (r.2 ∈ Lv)).map (·.1) ∧ Lkd P w G3 (upd G1' D (.lst (acc ++ [V.ref x0.2.1]))) d od (toN L) ∧ M.length ≤ j + 1 := fun c => by
        refine ⟨_, eDT, ?_, M ++ [(x0.2.1, r.1)], ?_, fun y hy => ?_, ?_, ⟨by rw [upd_ne (Ne.symm hDd)]; exact lkT.at_, fun b u n e => by rw [upd_ne (ne_of_none e hD0)]; exact lkT.sm b u n e⟩, by rw [List.length_append, List.length_singleton]; omega⟩
        · rw [toN_len, hlen] at hj
          rw [List.length_map]
          exact Nat.lt_of_le_of_lt (show M.length ≤ 1000 by omega) (by decide)
        · rw [upd_same, List.map_append]
          rfl
        · rcases List.mem_append.mp hy with hy | hy
          · exact (hMT y hy).mono fun _ _ q => sqT_upd (no_lst eDT) q
          · rw [List.mem_singleton] at hy
            subst hy
            exact ky.mono fun _ _ q => sqT_upd (no_lst eDT) q
        · rw [List.map_append, eM, etake, if_pos c, List.map_append]
          rfl
      have skip : (!decide (r.1.1 ∈ B) || !decide (r.2 ∈ Lv)) = false → ∃ M : List (Addr × KW), G1' D = some (.lst (M.map fun x => V.ref x.1)) ∧ (∀ x ∈ M, KeyA K G1' x.1 (keyK x.2)) ∧ M.map (·.2) = ((R.take (j + 1)).filter fun r => !decide (r.1.1 ∈ B) || !decide (r.2 ∈ Lv)).map (·.1) ∧ Lkd P w G3 G1' d od (toN L) ∧ M.length ≤ j + 1 := fun c =>
        ⟨M, eDT, hMT, by rw [eM, etake, if_neg (by rw [c]; decide), List.append_nil], lkT, by omega⟩
      refine ⟨Tt, _, rfl, hTt, rfl, _, _, rfl, _, _, rfl, rfl, rfl, ?_⟩
      refine ⟨_, rfl, x0.2.1, _, 0, _, rfl, rfl, hkey, rfl, _, rfl, DB, _, rfl, .inl (.inl (.inl eBT)), rfl, flat_tx B, !decide (r.1.1 ∈ B), congrArg V.bl (by rw [← inV_tx r.1.1 B]; rfl), ite2 (fun c1 => ?_) (fun c1 => ?_)⟩
      · exact ite2 (fun _ => ⟨_, rfl, put (by rw [show (!decide (r.1.1 ∈ B)) = true from c1]; rfl)⟩) (fun z => absurd rfl z)
      · refine ⟨_, rfl, _, rfl, DL, _, rfl, .inl (.inl (.inl eLT)), rfl, flat_tx Lv, !decide (r.2 ∈ Lv), congrArg V.bl (by rw [← inV_tx r.2 Lv]; rfl), ?_⟩
        have c1' : (!decide (r.1.1 ∈ B)) = false := by
          cases c : (!decide (r.1.1 ∈ B)) with
          | false => rfl
          | true => exact absurd c c1
        refine ite2 (fun c2 => ⟨_, rfl, put (by rw [c1', show (!decide (r.2 ∈ Lv)) = true from c2]; rfl)⟩) (fun c2 => skip ?_)
        rw [c1', Bool.false_or]
        cases c : (!decide (r.2 ∈ Lv)) with
        | false => rfl
        | true => exact absurd c c2
    · obtain ⟨M, eD, hM, eM, lk, lM⟩ := hP
      rw [toN_len, hlen, List.take_length] at eM
      have sE := s03.trans (lk.back hd3)
      refine ⟨lk.at_, D, _, rfl, .inl ⟨.inl (.inl (by rw [upd_ne hDd]; exact eD)), fun t nt => ?_⟩⟩
      have sF := sE.trans (same_new (o := HO.tup (M.map fun x => V.ref x.1)) (Same.refl _) nt)
      exact q M t _ sF (sE.free nt) upd_same ⟨fun x hx => keyA_same (same_new (Same.refl _) nt) ((hM x hx).mono fun _ _ z => sqT_upd (no_frz lk.at_) z), B, Lv, hB, hLv, eM⟩
end
end Kl
set_option maxRecDepth 100000
set_option maxHeartbeats 4000000
namespace Kl
open PySem PySem.Spec PyProof.Rows L2 Gx Mx
section
variable {P : Program} {w : World} {K : PySem.W.Frag} {mg : Str → Option Value} {base : Heap}
def spDice (K : PySem.W.Frag) : Sp := fun vs H Q _ => ∃ (a : Addr) (ns : List Int) (i : Nat), vs = [.ref a, .int i] ∧ SqL K H a (ns.map V.int) ∧ ns.length ≤ 63 ∧ i ≤ 1000 ∧
  ∀ (p : Addr) (x b : Int), H p = none → Q (.ref p) (upd H p (.lst [.int x, .int b, .int 0]))
theorem ok_dice {f : Addr} {fd : FuncData} (F : Fun K "_law_dice" "_law_dice" s_law_dice f fd) (T : Top K mg) : FnOk P w K mg base CX0 1 f fd ["_law_script", "_law_spot"] (spDice K) := by
  refine F.ok sc_law_dice (fun vs H Q E h => ?_) (fun cdv A outer s H vs Q E hr h => ?_)
  · obtain ⟨a, ns, i, rfl, _⟩ := h
    rfl
  · obtain ⟨a, ns, i, rfl, hS, hlen, hi, q⟩ := h
    refine ⟨_, pss_cut (ps_set (i := 2) sc_law_dice.nd rfl (.inl rfl) (pe_ifExp
        (pt_cmpR op_lt (pv 1) (pe_callB call_len_seq (by rfl) T.b_len PySem.boot_len (pa_cons (pv 0) pa_nil)) (nomark _))
        (pe_callTy call_int1 (by rfl) T.b_int (by decide +kernel) (pa_cons (pe_ix ix_list (pv 0) (pv 1) (fun _ _ => rfl)) pa_nil))
        (pe_op op_add (pe_op op_mul pe_int (pv 1)) pe_int)))
      (pss_cons (ps_set (i := 3) sc_law_dice.nd rfl (.inl rfl) (pe_op op_mod
        (pe_callB (call_max2 rfl) (by rfl) T.b_max (by decide +kernel) (pa_cons pe_int (pa_cons (pe_op op_sub
          (pe_callB call_abs (by rfl) T.b_abs (by decide +kernel) (pa_cons (pv 2) pa_nil)) (pe_op op_pow pe_int pe_int)) pa_nil)))
        (pe_op op_mulW (pe_op op_pow pe_int pe_int) (pe_op op_pow pe_int pe_int))))
      (pss_one (ps_ret (pe_lst (pa_cons (pv 3) (pa_cons
        (pe_op op_add (pe_op op_add (pe_op op_add (pe_op op_mul (pe_op op_mod (pe_callB call_abs (by rfl) T.b_abs (by decide +kernel) (pa_cons (pv 2) pa_nil)) pe_int) pe_int)
          (pe_op op_mul pe_int (pv 1)))
          (pe_op op_mul pe_int (pe_callTy call_int1 (by rfl) T.b_int (by decide +kernel) (pa_cons (pe_cmpR op_lt (pv 2) pe_int (nomark _)) pa_nil)))) pe_int)
        (pa_cons pe_int pa_nil))))))), ?_⟩
    refine ⟨fun σ' H' => ∃ c : Int, σ' = [some (.ref a), some (.int i), some (.int c), none] ∧ H' = H, ?_, ?_⟩
    · refine ⟨_, rfl, .ref a, rfl, a, _, rfl, .inl hS, _, _, rfl, rfl, _, rfl, ite2 (fun e => ?_) (fun e => ?_)⟩
      · have e' : i < ns.length := by
          have := of_decide_eq_true e
          rw [List.length_map] at this
          omega
        refine ⟨.ref a, rfl, .int i, rfl, a, _, _, .int ns[i], rfl, rfl, hS, atI_nat (by rw [List.getElem?_map, List.getElem?_eq_getElem e']; rfl), .inl ⟨_, rfl, ns[i], rfl, rfl⟩⟩
      · refine ⟨_, rfl, _, _, rfl, rfl, .inl ⟨by decide, by decide⟩, _, _, rfl, rfl, _, rfl, rfl⟩
    · rintro σ' H' ⟨c, rfl, rfl⟩
      refine ⟨_, rfl, _, rfl, ?_⟩
      refine ⟨_, _, rfl, rfl, ⟨by decide, by decide, by decide⟩, ?_⟩
      refine ⟨_, _, rfl, rfl, ?_⟩
      refine ⟨_, _, rfl, ?_⟩
      refine ⟨_, _, rfl, rfl, ⟨by decide, by decide, by decide⟩, ?_⟩
      refine ⟨_, _, rfl, rfl, ⟨by decide, by decide, by decide⟩, ?_⟩
      refine ⟨_, _, rfl, rfl, wide_mul (a := 200) (b := 200) (by decide) (by decide) (by decide) (by decide) (by decide), ?_⟩
      refine ⟨_, _, rfl, rfl, by show (0 : Int) < _; decide, ?_⟩
      generalize (if (if c < 0 then -c else c) - 10 ^ Int.toNat 17 > 0 then (if c < 0 then -c else c) - 10 ^ Int.toNat 17 else 0) % (10 ^ Int.toNat 60 * 10 ^ Int.toNat 60) = left
      refine ⟨_, rfl, _, rfl, _, rfl, _, _, rfl, rfl, by show (0 : Int) < _; decide, _, _, rfl, rfl, .inr ⟨by decide, by decide⟩, ?_⟩
      refine ⟨_, rfl, _, _, rfl, rfl, .inl ⟨by decide, by decide⟩, _, _, rfl, rfl, _, rfl, _, _, rfl, rfl, .inr ⟨_, rfl, ?_⟩⟩
      refine ⟨_, _, rfl, rfl, .inl ⟨by decide, by decide⟩, _, _, rfl, rfl, _, _, rfl, rfl, by show 3 ≤ sizeLine; decide, fun p hp => ?_⟩
      exact q p _ _ hp
def spRoll : Sp := fun vs H Q _ => ∃ (d : Addr) (t : Int), vs = [.ref d, .int t] ∧ DiceAt H d ∧ 0 < t ∧ t.natAbs.log2 < 9000 ∧
  ∀ (r x b c : Int), 0 ≤ r → r < t → Q (.int r) (upd H d (.lst [.int x, .int b, .int c]))
theorem ok_roll {f : Addr} {fd : FuncData} (F : Fun K "_law_roll" "_law_roll" s_law_roll f fd) (T : Top K mg) : FnOk P w K mg base CX0 1 f fd ["_law_dice_here", "_law_total"] spRoll := by
  refine F.ok sc_law_roll (fun vs H Q E h => ?_) (fun cdv A outer s H vs Q E hr h => ?_)
  · obtain ⟨d, t, rfl, _⟩ := h
    rfl
  · obtain ⟨d, t, rfl, ⟨x, b, c, hd⟩, ht, ht2, q⟩ := h
    refine ⟨_, pss_cons (ps_if (pt_cmpR op_gt (pe_ix ix_list (pv 0) pe_int (fun _ _ => rfl)) pe_int (nomark _))
        (pss_cons (ps_set (i := 2) sc_law_roll.nd rfl (.inl rfl) (pe_op op_mod (pe_callTy call_int1 (by rfl) T.b_int (by decide +kernel) (pa_cons (pe_ix ix_list (pv 0) pe_int (fun _ _ => rfl)) pa_nil)) (pv 1)))
        (pss_cons (ps_asg (pe_op op_fdivW (pe_ix ix_list (pv 0) pe_int (fun _ _ => rfl)) (pv 1)) (pg_sub (pv 0) pe_int set_list))
        (pss_one (ps_ret (pv 2))))) pss_nil)
      (pss_cons (ps_asg (pe_op op_add (pe_ix ix_list (pv 0) pe_int (fun _ _ => rfl)) pe_int) (pg_sub (pv 0) pe_int set_list))
      (pss_cons (ps_set (i := 3) sc_law_roll.nd rfl (.inl rfl) (pe_op op_mod (pe_callTy call_int1 (by rfl) T.b_int (by decide +kernel) (pa_cons
        (pe_op op_add (pe_ix ix_list (pv 0) pe_int (fun _ _ => rfl)) (pe_op op_mul pe_int (pe_ix ix_list (pv 0) pe_int (fun _ _ => rfl)))) pa_nil)) pe_int))
      (pss_cons (ps_set (i := 4) sc_law_roll.nd rfl (.inl rfl) (pe_op op_add (pe_op op_mul (pe_op op_mod (pe_callTy call_int1 (by rfl) T.b_int (by decide +kernel) (pa_cons
        (pe_op op_add (pe_op op_mul (pv 3) (pv 3)) (pe_op op_mul pe_int (pe_ix ix_list (pv 0) pe_int (fun _ _ => rfl)))) pa_nil)) pe_int) pe_int) (pv 3)))
      (pss_one (ps_ret (pe_op op_mod (pe_callTy call_int1 (by rfl) T.b_int (by decide +kernel) (pa_cons (pe_op op_fdiv (pv 4) pe_int) pa_nil)) (pv 1))))))), ?_⟩
    have at0 : ∀ (x y z : V), atI [x, y, z] 0 = some x := fun x y z => atI_nat (j := 0) rfl
    have at1 : ∀ (x y z : V), atI [x, y, z] 1 = some y := fun x y z => atI_nat (j := 1) rfl
    have at2 : ∀ (x y z : V), atI [x, y, z] 2 = some z := fun x y z => atI_nat (j := 2) rfl
    have hS : SqL K H d [.int x, .int b, .int c] := .inl (.inl hd)
    refine ⟨_, rfl, d, _, _, _, rfl, rfl, hS, at0 _ _ _, _, _, rfl, rfl, _, rfl, ite2 (fun e => ?_) (fun e => ?_)⟩
    · refine ⟨_, rfl, d, _, _, _, rfl, rfl, hS, at0 _ _ _, .inl ⟨_, rfl, _, rfl, _, _, rfl, rfl, ht, ?_⟩⟩
      refine ⟨_, rfl, d, _, _, _, rfl, rfl, hS, at0 _ _ _, _, rfl, _, _, rfl, rfl, ⟨ht, ht2⟩, ?_⟩
      refine ⟨_, rfl, d, _, _, 0, rfl, rfl, hd, rfl, ?_⟩
      refine ⟨_, rfl, ?_⟩
      exact q _ _ _ _ (Int.emod_nonneg _ (by omega)) (Int.emod_lt_of_pos _ ht)
    · refine ⟨_, rfl, d, _, _, _, rfl, rfl, hS, at2 _ _ _, _, _, rfl, rfl, ?_⟩
      refine ⟨_, rfl, d, _, _, 2, rfl, rfl, hd, rfl, ?_⟩
      have hd1 : (upd H d (.lst ([V.int x, V.int b, V.int c].set 2 (.int (c + 1))))) d = some (.lst [V.int x, V.int b, V.int (c + 1)]) := upd_same
      have hS1 : SqL K (upd H d (.lst ([V.int x, V.int b, V.int c].set 2 (.int (c + 1))))) d [V.int x, V.int b, V.int (c + 1)] := .inl (.inl hd1)
      refine ⟨_, rfl, d, _, _, _, rfl, rfl, hS1, at1 _ _ _, _, rfl, d, _, _, _, rfl, rfl, hS1, at2 _ _ _, _, _, rfl, rfl, .inl ⟨by decide, by decide⟩, _, _, rfl, rfl, .inl ⟨_, rfl, ?_⟩⟩
      refine ⟨_, _, rfl, rfl, by show (0 : Int) < _; decide, ?_⟩
      have h1 := Int.emod_nonneg (b + 7919 * (c + 1)) (show (2305843009213693907 : Int) ≠ 0 by decide)
      have h2 := Int.emod_lt_of_pos (b + 7919 * (c + 1)) (show (0 : Int) < 2305843009213693907 by decide)
      generalize (b + 7919 * (c + 1)) % 2305843009213693907 = one at h1 h2
      refine ⟨_, rfl, _, rfl, _, _, rfl, rfl, .inl ⟨by omega, by omega⟩, _, rfl, d, _, _, _, rfl, rfl, hS1, at2 _ _ _, _, _, rfl, rfl, .inl ⟨by decide, by decide⟩, _, _, rfl, rfl, .inl ⟨_, rfl, ?_⟩⟩
      refine ⟨_, _, rfl, rfl, by show (0 : Int) < _; decide, _, _, rfl, rfl, .inr ⟨by decide, by decide⟩, _, rfl, _, _, rfl, rfl, ?_⟩
      refine ⟨_, rfl, _, _, rfl, rfl, ⟨by decide, by decide⟩, .inl ⟨_, rfl, _, rfl, _, _, rfl, rfl, ht, ?_⟩⟩
      exact q _ _ _ _ (Int.emod_nonneg _ (by omega)) (Int.emod_lt_of_pos _ ht)
/-- what may be picked from: the items of a list, a tuple, a text -/
def Items (K : PySem.W.Frag) (H : Hp) (d : Addr) (x : V) (xs : List V) : Prop :=
  (∃ p, x = .ref p ∧ p ≠ d ∧ (SqL K H p xs ∨ SqT K H p xs)) ∨ ∃ z : Str, x = .str z ∧ xs = signV z ∧ z.length ≤ sizeLine
def spPick (K : PySem.W.Frag) : Sp := fun vs H Q _ => ∃ (d : Addr) (x : V) (xs : List V), vs = [.ref d, x] ∧ DiceAt H d ∧ Items K H d x xs ∧ xs ≠ [] ∧ xs.length ≤ 100000 ∧
  ∀ (v : V) (x b c : Int), v ∈ xs → Q v (upd H d (.lst [.int x, .int b, .int c]))
theorem log2_small {n : Nat} (h : n ≤ 100000) : ((n : Int).natAbs).log2 < 9000 := by
  have h1 : ((n : Int).natAbs) < 2 ^ 20 := by
    rw [Int.natAbs_natCast]
    exact Nat.lt_of_le_of_lt h (by decide)
  exact Nat.lt_of_lt_of_le (PySem.Flt.log2_lt_of (by decide) h1) (by decide)
theorem ok_pick {f : Addr} {fd : FuncData} (F : Fun K "_law_pick" "_law_pick" s_law_pick f fd) (T : Top K mg) : FnOk P w K mg base CX0 2 f fd ["_law_dice_here", "_law_items"] (spPick K) := by
  have cr : Cal P w K mg base 1 "_law_roll" ["_law_dice_here", "_law_total"] spRoll := T.d_law_roll.cal fun f fd F => ok_roll F T
  refine F.ok sc_law_pick (fun vs H Q E h => ?_) (fun cdv A outer s H vs Q E hr h => ?_)
  · obtain ⟨d, x, xs, rfl, _⟩ := h
    rfl
  · obtain ⟨d, x, xs, rfl, hd, hI, hne, hlen, q⟩ := h
    refine ⟨_, pss_one (ps_ret (pe_ix ix_seq (pv 1) (pe_cal cr hr (by rfl) (pa_cons (pv 0) (pa_cons (pe_callB call_len (by rfl) T.b_len PySem.boot_len (pa_cons (pv 1) pa_nil)) pa_nil))) (fun _ _ => rfl))), ?_⟩
    have hpos : 0 < xs.length := List.length_pos_iff.mpr hne
    rcases hI with ⟨p, rfl, hp, hs⟩ | ⟨z, rfl, rfl, hz⟩
    · refine ⟨_, rfl, _, rfl, _, rfl, _, (xs.length : Nat), rfl, ?_, ?_⟩
      · rcases hs with hs | hs
        · exact .inl ⟨_, hs, rfl⟩
        · exact .inr ⟨_, hs, rfl⟩
      · refine ⟨d, _, rfl, hd, by omega, log2_small hlen, fun r x b c h0 h1 => ?_⟩
        obtain ⟨v, hv, ha⟩ := atI_int (xs := xs) h0 h1
        rcases hs with hs | hs
        · exact .inl ⟨p, _, _, v, rfl, rfl, sqL_ne hp hs, ha, q v x b c hv⟩
        · exact .inr (.inl ⟨p, _, _, v, rfl, rfl, sqT_ne hp hs, ha, q v x b c hv⟩)
    · have hlz := signV_len z
      refine ⟨_, rfl, _, rfl, _, rfl, _, (z.length : Nat), rfl, ⟨hz, rfl⟩, ?_⟩
      refine ⟨d, _, rfl, hd, by omega, log2_small (by omega), fun r x b c h0 h1 => ?_⟩
      obtain ⟨v, hv, ha⟩ := atI_int (xs := z.cps.toList) h0 (by rw [Array.length_toList]; exact h1)
      exact .inr (.inr ⟨z, r, v, rfl, rfl, hz, ha, q _ x b c (List.mem_map.mpr ⟨_, hv, rfl⟩)⟩)
end
end Kl
set_option maxRecDepth 100000
set_option maxHeartbeats 4000000
namespace Kl
open PySem PySem.Spec PyProof.Rows L2 Gx Mx
/-- all but what stands at d is as it was -/
def SameX (d : Addr) (H H' : Hp) : Prop := ∀ b o, b ≠ d → H b = some o → H' b = some o
theorem SameX.refl (d : Addr) (H : Hp) : SameX d H H := fun _ _ _ e => e
theorem SameX.trans {d : Addr} {H H' H'' : Hp} (h : SameX d H H') (h' : SameX d H' H'') : SameX d H H'' := fun b o n e => h' b o n (h b o n e)
theorem SameX.atd {d : Addr} {H H' : Hp} {o : HO} (h : SameX d H H') : SameX d H (upd H' d o) := fun b u n e => by rw [upd_ne n]; exact h b u n e
theorem SameX.new {d p : Addr} {H H' : Hp} {o : HO} (h : SameX d H H') (n : H' p = none) : SameX d H (upd H' p o) := fun b u nb e => by
  have e' := h b u nb e
  rw [upd_ne (ne_of_none e' n)]
  exact e'
theorem SameX.at {d p : Addr} {H H' : Hp} {o : HO} (h : SameX d H H') (n : H p = none) : SameX d H (upd H' p o) := fun b u nb e => by
  rw [upd_ne (ne_of_none e n)]
  exact h b u nb e
theorem SameX.of {d : Addr} {H H' : Hp} (h : Same H H') : SameX d H H' := fun b o _ e => h b o e
theorem SameX.free {d p : Addr} {H H' : Hp} (h : SameX d H H') (n : p ≠ d) (e : H' p = none) : H p = none := by
  cases q : H p with
  | none => rfl
  | some o => rw [h p o n q] at e; cases e
theorem dice_ne {H : Hp} {d p : Addr} (h : DiceAt H d) (e : H p = none) : p ≠ d := fun q => by
  obtain ⟨_, _, _, h⟩ := h
  rw [q, h] at e
  cases e
theorem dice_upd {H : Hp} {d p : Addr} {o : HO} (h : DiceAt H d) (n : p ≠ d) : DiceAt (upd H p o) d := by
  obtain ⟨a, b, c, h⟩ := h
  exact ⟨a, b, c, by rw [upd_ne n.symm]; exact h⟩
theorem dice_new {H : Hp} {d : Addr} (x b c : Int) : DiceAt (upd H d (.lst [.int x, .int b, .int c])) d := ⟨_, _, _, upd_same⟩
end Kl
set_option maxRecDepth 100000
set_option maxHeartbeats 4000000
namespace Kl
open PySem PySem.Spec PyProof.Rows L2 Gx Mx
abbrev rdF (first : Str) (e d st sp : Addr) : List (Str × V) := [("_first", .str first), ("_ends", .ref e), ("_reads", .ref d), ("_states", .ref st), ("_spare", .ref sp)]
/-- the lines ascend -/
def Asc (R : Rds) : Prop := R.Pairwise fun a b => ltK b.1 a.1 = false
/-- at x stands the reader -/
def RdrAt (P : Program) (w : World) (K : PySem.W.Frag) (C : Addr) (H : Hp) (x : Addr) (first : Str) (ends : List Str) (R : Rds) : Prop := ∃ (dx e d st sp : Addr) (ys : List Str) (M : List (Addr × KW)), H x = some (.ins C dx (rdF first e d st sp)) ∧
  SqT K H e (ends.map V.str) ∧ RDict P w K H d R ∧ SqT K H st (ys.map V.str) ∧ IsSt (statesL first ends R) ys ∧ SqT K H sp (M.map fun x => V.ref x.1) ∧ SpareAt K H first ends R M
theorem SpareAt.mono {K : PySem.W.Frag} {H H' : Hp} {first : Str} {ends : List Str} {R : Rds} {M : List (Addr × KW)} (m : ∀ a xs, SqT K H a xs → SqT K H' a xs) (h : SpareAt K H first ends R M) : SpareAt K H' first ends R M := ⟨fun x hx => (h.1 x hx).mono m, h.2⟩
theorem RdrAt.same {P : Program} {w : World} {K : PySem.W.Frag} {C : Addr} {H H' : Hp} {x : Addr} {first : Str} {ends : List Str} {R : Rds} (h : RdrAt P w K C H x first ends R) (s : Same H H') : RdrAt P w K C H' x first ends R := by
  obtain ⟨dx, e, d, st, sp, ys, M, h1, h2, h3, h4, h5, h6, h7⟩ := h
  exact ⟨dx, e, d, st, sp, ys, M, s _ _ h1, sqT_same s h2, h3.same s, sqT_same s h4, h5, sqT_same s h6, h7.mono fun _ _ q => sqT_same s q⟩
section
variable {K : PySem.W.Frag} {H H' : Hp} {x : Addr}
/-- what stays while the instance at x changes -/
structure ButI (H H' : Hp) (x : Addr) : Prop where
  ins : ∃ C dx fs, H x = some (.ins C dx fs)
  sm : SameX x H H'
theorem ButI.sq (b : ButI H H' x) {a : Addr} {xs : List V} (q : SqT K H a xs) : SqT K H' a xs := by
  obtain ⟨C, dx, fs, h⟩ := b.ins
  rcases q with (q | ⟨u, q⟩) | q
  · exact .inl (.inl (b.sm _ _ (fun e => by rw [e, h] at q; cases q) q))
  · exact .inl (.inr ⟨u, b.sm _ _ (fun e => by rw [e, h] at q; cases q) q⟩)
  · exact .inr q
theorem ButI.rd {P : Program} {w : World} (b : ButI H H' x) {d : Addr} {R : Rds} (q : RDict P w K H d R) : RDict P w K H' d R := by
  obtain ⟨C, dx, fs, h⟩ := b.ins
  obtain ⟨L, h1, h2, h3⟩ := q
  exact ⟨L, b.sm _ _ (fun e => by rw [e, h] at h1; cases h1) h1, fun y hy => (h2 y hy).mono fun _ _ q => b.sq q, h3⟩
end
theorem isSt_ex : ∀ l : List Str, ∃ ys, IsSt l ys := fun l => by
  have nd : ∀ l : List Str, ∃ m : List Str, m.Nodup ∧ ∀ z, z ∈ m ↔ z ∈ l := fun l => by
    induction l with
    | nil => exact ⟨[], List.nodup_nil, fun _ => Iff.rfl⟩
    | cons x l ih =>
      obtain ⟨m, h1, h2⟩ := ih
      by_cases c : x ∈ m
      · refine ⟨m, h1, fun z => ?_⟩
        rw [List.mem_cons, h2]
        refine ⟨.inr, fun q => q.elim (fun e => ?_) id⟩
        rw [e]
        exact (h2 x).mp c
      · refine ⟨x :: m, List.nodup_cons.mpr ⟨c, h1⟩, fun z => ?_⟩
        rw [List.mem_cons, List.mem_cons, h2]
  obtain ⟨m, h1, h2⟩ := nd l
  have hp := List.mergeSort_perm m fun a b => !ltCps b.cps.toList a.cps.toList
  refine ⟨m.mergeSort fun a b => !ltCps b.cps.toList a.cps.toList, ?_, hp.nodup_iff.mpr h1, fun z => hp.mem_iff.trans (h2 z)⟩
  refine (sortedS_iff _).mpr ?_
  have tot : ∀ a b : Str, ltCps a.cps.toList b.cps.toList = true → ltCps b.cps.toList a.cps.toList = false := fun a b h => by
    cases c : ltCps b.cps.toList a.cps.toList with
    | false => rfl
    | true =>
      have := cps_trans h c
      rw [cps_irrefl] at this
      cases this
  have hs := List.pairwise_mergeSort (le := fun a b : Str => !ltCps b.cps.toList a.cps.toList) (fun a b c h1 h2 => by
    rw [Bool.not_eq_true'] at h1 h2 ⊢
    cases q : ltCps c.cps.toList a.cps.toList with
    | false => rfl
    | true =>
      by_cases e : a = b
      · rw [e] at q
        rw [q] at h2
        cases h2
      · have := cps_trans q (cps_total (fun z => e z.symm) h1)
        rw [this] at h2
        cases h2) (fun a b => by
    cases q : ltCps b.cps.toList a.cps.toList with
    | false => rfl
    | true => rw [tot b a q]; rfl) m
  exact hs.imp fun {a b} h => (leS_iff a b).mpr (by simpa using h)
theorem putF_app {k : Str} {v : V} : ∀ fs : List (Str × V), (∀ p ∈ fs, p.1 ≠ k) → putF k v fs = fs ++ [(k, v)]
  | [], _ => rfl
  | p :: fs, h => by
    have ih := putF_app (v := v) fs fun q hq => h q (List.mem_cons_of_mem _ hq)
    obtain ⟨a, b⟩ := p
    show (if a = k then (a, v) :: fs else (a, b) :: putF k v fs) = _
    rw [if_neg (h (a, b) List.mem_cons_self), ih]
    rfl
theorem rn_app {k : Str} {v : V} {fs : List (Str × V)} (h : ((fs.map (·.1)).all fun n => !decide (n = k)) = true) : putF k v fs = fs ++ [(k, v)] := putF_app fs fun p hp e => by
  have := List.all_eq_true.mp h p.1 (List.mem_map.mpr ⟨p, hp, rfl⟩)
  rw [decide_eq_true e] at this
  cases this
def txK : V → Str
  | .str z => z
  | _ => ""
theorem rd_reads (first : Str) (e d st : Addr) : List.lookup ("_reads" : Str) [("_first", V.str first), ("_ends", V.ref e), ("_reads", V.ref d), ("_states", V.ref st)] = some (.ref d) := by
  have h1 : (("_reads" : Str) == "_first") = false := by decide +kernel
  have h2 : (("_reads" : Str) == "_ends") = false := by decide +kernel
  simp [List.lookup, h1, h2]
theorem states_perm (first : Str) (ends : List Str) {R R' : Rds} (h : R'.Perm R) {z : Str} : z ∈ statesL first ends R' ↔ z ∈ statesL first ends R := by
  unfold statesL
  simp only [List.mem_cons, List.mem_append, List.mem_map]
  constructor
  · rintro (q | q | ⟨r, hr, e⟩ | ⟨r, hr, e⟩)
    · exact .inl q
    · exact .inr (.inl q)
    · exact .inr (.inr (.inl ⟨r, h.mem_iff.mp hr, e⟩))
    · exact .inr (.inr (.inr ⟨r, h.mem_iff.mp hr, e⟩))
  · rintro (q | q | ⟨r, hr, e⟩ | ⟨r, hr, e⟩)
    · exact .inl q
    · exact .inr (.inl q)
    · exact .inr (.inr (.inl ⟨r, h.mem_iff.mpr hr, e⟩))
    · exact .inr (.inr (.inr ⟨r, h.mem_iff.mpr hr, e⟩))
theorem putM_new {L : ML} {k : KW} {a : Addr} {v : V} (h : k ∉ L.map (·.1)) : putM L k a v = L ++ [(k, a, v)] := by
  unfold putM
  rw [if_neg]
  rw [← valV_any]
  intro q
  obtain ⟨x, hx, e⟩ := List.any_eq_true.mp q
  unfold prM at hx
  obtain ⟨y, hy, rfl⟩ := List.mem_map.mp hx
  exact h (List.mem_map.mpr ⟨y, hy, by simpa using e⟩)
section
variable {P : Program} {w : World} {K : PySem.W.Frag} {mg : Str → Option Value} {base : Heap}
def spRInit (P : Program) (w : World) (K : PySem.W.Frag) (C : Addr) : Sp := fun vs H Q _ => ∃ (x dx e d : Addr) (first : Str) (ends : List Str) (R : Rds), vs = [.ref x, .str first, .ref e, .ref d] ∧ H x = some (.ins C dx []) ∧ first.length ≤ 1000 ∧ SqT K H e (ends.map V.str) ∧ (∀ z ∈ ends, z.length ≤ 1000) ∧ RDict P w K H d R ∧ (R.map (·.1)).Nodup ∧ ends.length ≤ 100 ∧ R.length ≤ 300 ∧ Shrt R ∧
  (∀ ys, IsSt (statesL first ends R) ys → readerB first ends R ys = true) ∧ ∀ (R' : Rds) (H' : Hp), R'.Perm R → Asc R' → RdrAt P w K C H' x first ends R' → (∀ b o, b ≠ x → H b = some o → H' b = some o) →
  (∀ (D : Addr) (L : NL) (u : HO), H D = some (DN P w D L) → RdrAt P w K C (upd H' D u) x first ends R') → Q .non H'
theorem ok_rinit {C f : Addr} {fd : FuncData} (F : Fun K "__init__" "Reader.__init__" s_Reader_init f fd) (T : Top K mg) (TC : Cl_Reader K mg C) : FnOk P w K mg base CX0 8 f fd ["self", "first", "ends", "reads"] (spRInit P w K C) := by
  have ci : Cal P w K mg base 7 "_is_reader" ["first", "ends", "reads"] (spReader P w K) := T.d_is_reader.cal fun f fd F => ok_reader F T
  have cs : Cal P w K mg base 7 "_all_states" ["first", "ends", "reads"] (spStates P w K) := (T.d_all_states.cal fun f fd F => ok_states F T).mono (by decide)
  have cp : Cal P w K mg base 7 "_spare" ["first", "ends", "reads"] (spSpare P w K) := (T.d_spare.cal fun f fd F => ok_spare F T).mono (by decide)
  refine F.ok sc_Reader_init (fun vs H Q E h => ?_) (fun cdv A outer s H vs Q E hr h => ?_)
  · obtain ⟨x, dx, e, d, first, ends, R, rfl, _⟩ := h
    rfl
  · obtain ⟨x, dx, e, d, first, ends, R, rfl, hx, hfl, he, hes, hD, hnd, hle, hl, hsh, hok, q⟩ := h
    refine ⟨_, pss_cut (ps_if (pt_not (pt_val (pe_cal ci hr (by rfl) (pa_cons (pv 1) (pa_cons (pv 2) (pa_cons (pv 3) pa_nil)))))) (pss_one ps_never) pss_nil)
      (pss_cut (ps_fld (pv 0) (pv 1) rfl)
      (pss_cut (ps_fld (pv 0) (pv 2) rfl)
      (pss_cut (ps_fld (pv 0) (pe_dcG (own := [("place", 4)]) (g := gName 4) (tt := tYes) (new := fun D => DN P w D []) (put := putG P w K) (newN (P := P) (w := w)) (fun _ _ _ _ _ => putN_ok (P := P) (w := w) (K := K) (by exact ⟨rfl, rfl, rfl⟩) (by exact hr.units)) rfl sc_Reader_init.nd
          (pi_listK (K := K) rfl (pe_callB (cr_sortedN (P := P) (w := w) (K := K) (by exact ⟨rfl, rfl, rfl⟩) rfl (by exact hr.units)) (by rfl) T.b_sorted (by decide +kernel) (pa_cons (pv 3) pa_nil)))
          (blkOk_by (N := ["self", "first", "ends", "reads", "place"]) (sc := defScope s_Reader_init) (by decide +kernel))
          (fun _ _ _ _ _ => pg_name (i := 4) sc_Reader_init.nd rfl (.inl rfl)) (fun _ _ _ _ _ => pts_nil) (fun _ _ _ _ _ => pv 4)
          (fun _ _ _ _ _ => pe_nget (P := P) (w := w) (K := K) (by exact ⟨rfl, rfl, rfl⟩) (by exact hr.units) (pv 3) (pv 4) (by intro _ _; rfl))) rfl)
      (pss_cut (ps_fld (pv 0) (pe_cal cs hr (by rfl) (pa_cons (pv 1) (pa_cons (pv 2) (pa_cons (pv 3) pa_nil)))) rfl)
      (pss_one (ps_fld (pv 0) (pe_cal cp hr (by rfl) (pa_cons (pv 1) (pa_cons (pv 2) (pa_cons (pe_fld (pv 0) rfl) pa_nil)))) rfl)))))), ?_⟩
    obtain ⟨y0, hy0⟩ := isSt_ex (statesL first ends R)
    refine ⟨fun σ' G => σ' = [some (.ref x), some (.str first), some (.ref e), some (.ref d), none] ∧ Same H G, ?_, ?_⟩
    · refine ⟨_, rfl, _, rfl, _, rfl, first, e, d, ends, R, rfl, hfl, he, hes, hD, hnd, hle, hl, hsh, fun b G hb s => ⟨_, rfl, ?_⟩⟩
      have eb : b = true := (hb y0 hy0).trans (hok y0 hy0)
      subst eb
      show (if (!true) = true then _ else _)
      rw [if_neg (by decide)]
      exact ⟨rfl, s⟩
    rintro σ' G0 ⟨rfl, s0⟩
    have hx0 := s0 _ _ hx
    have b0 : ∀ {G : Hp}, SameX x G0 G → ButI G0 G x := fun s => ⟨⟨_, _, _, hx0⟩, s⟩
    have he0 := sqT_same s0 he
    have hD0 := hD.same s0
    refine ⟨fun σ' G => σ' = [some (.ref x), some (.str first), some (.ref e), some (.ref d), none] ∧ G x = some (.ins C dx [("_first", .str first)]) ∧ SameX x G0 G, ?_, ?_⟩
    · exact ⟨_, rfl, _, rfl, x, C, dx, [], rfl, hx0, TC.cl, TC.n_first, by decide, rfl, upd_same, (SameX.refl x G0).atd⟩
    rintro σ' G1 ⟨rfl, h1, s1⟩
    refine ⟨fun σ' G => σ' = [some (.ref x), some (.str first), some (.ref e), some (.ref d), none] ∧ G x = some (.ins C dx [("_first", .str first), ("_ends", .ref e)]) ∧ SameX x G0 G, ?_, ?_⟩
    · refine ⟨_, rfl, _, rfl, x, C, dx, _, rfl, h1, TC.cl, TC.n_ends, by show 1 < 1000; decide, ?_⟩
      rw [rn_app (by show ((["_first"] : List Str).all fun n => !decide (n = "_ends")) = true; decide +kernel)]
      exact ⟨rfl, upd_same, s1.atd⟩
    clear h1 s1
    rintro σ' G1 ⟨rfl, h1, s1⟩
    obtain ⟨L, hdL, hkL, hL⟩ := (b0 s1).rd hD0
    have hlen := prM_len hL
    have ndL : (L.map (·.1)).Nodup := by
      have e := congrArg (List.map Prod.fst) hL
      unfold prM at e
      rw [List.map_map, List.map_map] at e
      have e' : L.map (·.1) = R.map (·.1) := e
      rw [e']
      exact hnd
    have hN1 : NDict P w K G1 d (toN L) := ⟨.inl hdL, fun y hy => by
      obtain ⟨z, hz, rfl⟩ := List.mem_map.mp hy
      exact hkL z hz⟩
    refine ⟨fun σ' G => ∃ (d' : Addr) (R' : Rds), σ' = [some (.ref x), some (.str first), some (.ref e), some (.ref d), none] ∧ G x = some (.ins C dx [("_first", .str first), ("_ends", .ref e), ("_reads", .ref d')]) ∧ RDict P w K G d' R' ∧ R'.Perm R ∧ Asc R' ∧ SameX x G0 G ∧ H d' = none, ?_, ?_⟩
    · refine ⟨_, rfl, d, L, rfl, hN1, by omega, fun L' l hperm hsrt nl => ⟨l, rfl, ⟨_, .inl (.inl upd_same)⟩, fun D hD => ?_⟩⟩
      have hl1 : G1 l = none := nl
      have sl : Same G1 (upd G1 l (.lst (L'.map fun x => V.ref x.2.1))) := same_new (Same.refl G1) nl
      have el : (upd G1 l (.lst (L'.map fun x => V.ref x.2.1))) l = some (.lst (L'.map fun x => V.ref x.2.1)) := upd_same
      generalize upd G1 l (.lst (L'.map fun x => V.ref x.2.1)) = G2 at *
      have sD : Same G2 (upd G2 D (DN P w D [])) := same_new (Same.refl G2) hD
      have nd' : (L'.map (·.1)).Nodup := (hperm.map (·.1)).nodup_iff.mpr ndL
      have llen : L'.length = L.length := hperm.length_eq
      have keyL : ∀ y ∈ L', KeyA K G2 y.2.1 (keyK y.1) := fun y hy => keyA_same sl (hkL y (hperm.mem_iff.mp hy))
      refine dcG_it (new := fun D => DN P w D []) (put := putG P w K) (walk_list (K := K) (a := l) (xs := L'.map fun x => V.ref x.2.1)) (fun j G => G D = some (DN P w D (toN (L'.take j))) ∧ Same G2 G) ⟨upd_same, sD⟩ (fun j G _ hP => .inl (.inl (hP.2 _ _ el))) (fun j u G G' hj hP hy => ?_) (fun G hP => ?_)
      · obtain ⟨eD, sm⟩ := hP
        obtain ⟨rfl, hu⟩ := hy
        rw [List.getElem?_map] at hu
        obtain ⟨y, hy, rfl⟩ := Option.map_eq_some_iff.mp hu
        have hyL : y ∈ L' := List.mem_of_getElem? hy
        obtain ⟨i, hi⟩ := List.mem_iff_getElem?.mp (hperm.mem_iff.mp hyL)
        have hv : getN (toN L) (keyK y.1) = some y.2.2 := getN_own ndL hi
        have hj' : j < L'.length := by rw [List.length_map] at hj; exact hj
        refine ⟨rfl, _, rfl, _, rfl, _, rfl, d, y.2.1, toN L, keyK y.1, y.2.2, rfl, rfl, ⟨.inl (sm _ _ (sl _ _ hdL)), fun z hz => ?_⟩, keyA_same sm (keyL y hyL), hv, ?_⟩
        · obtain ⟨z', hz', rfl⟩ := List.mem_map.mp hz
          exact keyA_same sm (keyA_same sl (hkL z' hz'))
        · refine ⟨toN (L'.take j), keyK y.1, y.2.1, rfl, keyA_same sm (keyL y hyL), eD, fun z hz => ?_, ?_, ?_, fun b u n => by rw [upd_ne (ne_of_none n hD)]; exact sm b u n⟩
          · obtain ⟨z', hz', rfl⟩ := List.mem_map.mp hz
            exact keyA_same sm (keyL z' (List.mem_of_mem_take hz'))
          · rw [toN_len, List.length_take]
            exact Nat.lt_of_le_of_lt (show min j L'.length ≤ 1000 by omega) (by decide)
          · have hn : y.1 ∉ (L'.take j).map (·.1) := fun z => by
              rw [List.map_take] at z
              obtain ⟨k, hk⟩ := List.mem_iff_getElem?.mp z
              rw [List.getElem?_take] at hk
              by_cases c : k < j
              · rw [if_pos c] at hk
                have h2 : (L'.map (·.1))[j]? = some y.1 := by rw [List.getElem?_map, hy]; rfl
                have := (List.getElem?_inj (List.getElem?_eq_some_iff.mp hk).1 nd').mp (hk.trans h2.symm)
                omega
              · rw [if_neg c] at hk
                cases hk
            rw [upd_same, putN_to, putM_new hn, List.take_add_one, hy]
            rfl
      · obtain ⟨eD, sm⟩ := hP
        rw [List.length_map, List.take_length] at eD
        have hxG : G x = some (.ins C dx [("_first", .str first), ("_ends", .ref e)]) := sm _ _ (sl _ _ h1)
        refine ⟨_, rfl, x, C, dx, _, rfl, hxG, TC.cl, TC.n_reads, by show 2 < 1000; decide, ?_⟩
        rw [rn_app (by show ((["_first", "_ends"] : List Str).all fun n => !decide (n = "_reads")) = true; decide +kernel)]
        have valL : ∀ z ∈ L, z.2.2 = V.str (txK z.2.2) := fun z hz => by
          obtain ⟨i, hi⟩ := List.mem_iff_getElem?.mp hz
          obtain ⟨r, _, _, e2⟩ := prM_at hL hi
          rw [e2]
          rfl
        have eR : R = L.map fun z => (z.1, txK z.2.2) := by
          have e := congrArg (List.map fun q : KW × V => (q.1, txK q.2)) hL
          unfold prM at e
          rw [List.map_map, List.map_map] at e
          have e2 : R.map ((fun q : KW × V => (q.1, txK q.2)) ∘ fun r => (r.1, V.str r.2)) = R := by
            have : ((fun q : KW × V => (q.1, txK q.2)) ∘ fun r : KW × Str => (r.1, V.str r.2)) = id := by
              funext r
              rfl
            rw [this, List.map_id]
          rw [e2] at e
          exact e.symm
        refine ⟨D, L'.map fun z => (z.1, txK z.2.2), rfl, upd_same, ?_, ?_, ?_, ?_, ?_⟩
        · refine (⟨⟨_, _, _, hxG⟩, (SameX.refl x G).atd⟩ : ButI G (upd G x _) x).rd ⟨L', eD, fun z hz => keyA_same sm (keyL z hz), ?_⟩
          unfold prM
          rw [List.map_map]
          refine List.map_congr_left fun z hz => ?_
          have := valL z (hperm.mem_iff.mp hz)
          show (z.1, z.2.2) = (z.1, V.str (txK z.2.2))
          rw [← this]
        · have z := hperm.map fun z : KW × Addr × V => (z.1, txK z.2.2)
          rw [← eR] at z
          exact z
        · unfold Asc
          rw [List.pairwise_map]
          exact hsrt
        · exact (s1.trans (SameX.of (sl.trans sm))).atd
        · have nDx : D ≠ x := fun z => by rw [z, sl _ _ h1] at hD; cases hD
          exact s0.free (s1.free nDx (sl.free hD))
    clear h1 s1 hdL hkL hN1
    rintro σ' G2 ⟨d', R', rfl, h2, hD', hp', hasc, s2, newd⟩
    refine ⟨fun σ' G => ∃ (st : Addr) (ys : List Str), σ' = [some (.ref x), some (.str first), some (.ref e), some (.ref d), none] ∧ G x = some (.ins C dx [("_first", .str first), ("_ends", .ref e), ("_reads", .ref d'), ("_states", .ref st)]) ∧ RDict P w K G d' R' ∧ SqT K G st (ys.map V.str) ∧ IsSt (statesL first ends R) ys ∧ SameX x G0 G, ?_, ?_⟩
    · refine ⟨_, rfl, _, rfl, _, rfl, first, e, d, ends, R, rfl, (b0 s2).sq he0, (b0 s2).rd hD0, hnd, hle, hl, fun ys p G hys sm np hp => ?_⟩
      have hxG := sm _ _ h2
      refine ⟨_, rfl, x, C, dx, _, rfl, hxG, TC.cl, TC.n_states, by show 3 < 1000; decide, ?_⟩
      rw [rn_app (by show ((["_first", "_ends", "_reads"] : List Str).all fun n => !decide (n = "_states")) = true; decide +kernel)]
      have bI : ∀ {u : HO}, ButI G (upd G x u) x := ⟨⟨_, _, _, hxG⟩, (SameX.refl x G).atd⟩
      exact ⟨p, ys, rfl, upd_same, bI.rd (hD'.same sm), bI.sq (SqT.of hp), hys, (s2.trans (SameX.of sm)).atd⟩
    clear h2 hD' s2
    rintro σ' G2 ⟨st, ys, rfl, h2, hD', hst, hys, s2⟩
    have ndE : ends.Nodup := by
      have := hok y0 hy0
      unfold readerB ascB at this
      simp only [Bool.and_eq_true, decide_eq_true_eq] at this
      exact this.1.1.2.1.2.2
    refine ⟨_, rfl, _, rfl, _, rfl, x, C, dx, _, _, rfl, h2, TC.cl, TC.n_reads, rd_reads _ _ _ _, first, e, d', ends, R', rfl, .inr ((b0 s2).sq he0), ndE, hD', hle, by have := hp'.length_eq; omega, fun M p G sm np hp hS => ?_⟩
    have hxG := sm _ _ h2
    refine ⟨_, rfl, x, C, dx, _, rfl, hxG, TC.cl, TC.n_spare, by show 4 < 1000; decide, ?_⟩
    rw [rn_app (by show ((["_first", "_ends", "_reads", "_states"] : List Str).all fun n => !decide (n = "_spare")) = true; decide +kernel)]
    have bI : ∀ {u : HO}, ButI G (upd G x u) x := ⟨⟨_, _, _, hxG⟩, (SameX.refl x G).atd⟩
    have sX := s2.trans (SameX.of sm)
    refine q R' _ hp' hasc ⟨dx, e, d', st, p, ys, M, upd_same, bI.sq (sqT_same sm ((b0 s2).sq he0)), bI.rd (hD'.same sm), bI.sq (sqT_same sm hst), ?_, bI.sq (SqT.of hp), hS.mono fun _ _ z => bI.sq z⟩ (fun b o n eo => ?_) (fun D L0 M0 eD => ?_)
    · refine ⟨hys.1, hys.2.1, fun z => (hys.2.2 z).trans ?_⟩
      exact (states_perm first ends hp').symm
    · have := sX b o n (s0 b o eo)
      rw [upd_ne n]
      exact this
    · have nDx : D ≠ x := fun z => by rw [z, hx] at eD; cases eD
      have nd' : d' ≠ D := fun z => by rw [z, eD] at newd; cases newd
      have eG : (upd G x (.ins C dx (rdF first e d' st p))) D = some (DN P w D L0) := by
        rw [upd_ne nDx]
        exact sX D _ nDx (s0 D _ eD)
      have bQ : ∀ {a : Addr} {xs : List V}, SqT K G a xs → SqT K (upd (upd G x (.ins C dx (rdF first e d' st p))) D M0) a xs := fun q => SqT.ext_upd eG (bI.sq q)
      obtain ⟨L1, k1, k2, k3⟩ := hD'.same sm
      refine ⟨dx, e, d', st, p, ys, M, by rw [upd_ne (Ne.symm nDx)]; exact upd_same, bQ (sqT_same sm ((b0 s2).sq he0)), ⟨L1, ?_, fun y hy => (k2 y hy).mono fun _ _ z => bQ z, k3⟩, bQ (sqT_same sm hst), ?_, bQ (SqT.of hp), hS.mono fun _ _ z => bQ z⟩
      · have ndx : d' ≠ x := fun z => by rw [z, hxG] at k1; cases k1
        rw [upd_ne nd', upd_ne ndx]
        exact k1
      · exact ⟨hys.1, hys.2.1, fun z => (hys.2.2 z).trans (states_perm first ends hp').symm⟩
end
end Kl
set_option maxRecDepth 100000
set_option maxHeartbeats 4000000
namespace Kl
open PySem PySem.Spec PyProof.Rows L2 Gx Mx
theorem rf_first (first : Str) (e d st sp : Addr) : List.lookup ("_first" : Str) (rdF first e d st sp) = some (.str first) := by simp [List.lookup]
theorem rf_ends (first : Str) (e d st sp : Addr) : List.lookup ("_ends" : Str) (rdF first e d st sp) = some (.ref e) := by
  have h1 : (("_ends" : Str) == "_first") = false := by decide +kernel
  simp [List.lookup, h1]
theorem rf_reads (first : Str) (e d st sp : Addr) : List.lookup ("_reads" : Str) (rdF first e d st sp) = some (.ref d) := by
  have h1 : (("_reads" : Str) == "_first") = false := by decide +kernel
  have h2 : (("_reads" : Str) == "_ends") = false := by decide +kernel
  simp [List.lookup, h1, h2]
theorem pe_fldK {X : Cx} {K : PySem.W.Frag} {e : Expr} {te : TE} {f : Str} {pos : Pos} (hk : X.K = K) (he : PE X e te) (hb : attributeBase e f X.env (eval e X.env) = eval e X.env := by rfl) : PE X (.Attribute e f pos) (tFld K te f) := by
  subst hk
  exact pe_fld he hb
end Kl
set_option maxRecDepth 100000
set_option maxHeartbeats 4000000
namespace Kl
open PySem PySem.Spec PyProof.Rows L2 Gx Mx
/-- f'..' of two parts or more, told by a name -/
def tJoined (ts : List TE) : TE := fun σ H Q => tJs ts Str.empty σ H fun out H1 => Q (.str out) H1
theorem pe_joinedN {X : Cx} {v1 v2 : Expr} {rest : List Expr} {ts : List TE} {pos : Pos} (h : PJ X (v1 :: v2 :: rest) ts) : PE X (.JoinedStr (v1 :: v2 :: rest) pos) (tJoined ts) := pe_joined h
theorem empty_app (a : Str) : Str.empty ++ a = a := by
  show (⟨#[] ++ a.cps⟩ : Str) = a
  rw [Array.empty_append]
theorem len_app (a b : Str) : (a ++ b).length = a.length + b.length := by
  show (a.cps ++ b.cps).size = _
  rw [Array.size_append]
  rfl
end Kl
set_option maxRecDepth 100000
set_option maxHeartbeats 4000000
namespace Gx
open PySem PySem.Spec PyProof.Rows L2
end Gx
set_option maxRecDepth 100000
set_option maxHeartbeats 4000000
set_option maxRecDepth 100000
set_option maxHeartbeats 4000000
namespace Kl
open PySem PySem.Spec PyProof.Rows L2 Gx Mx
def textD (q : List Str) : Str := if q = [] then "0" else Txt.join "+" q
theorem sum_by {m : Nat} {zs : List Str} (h : ∀ z ∈ zs, z.length ≤ m) : (zs.map (·.length)).sum ≤ m * zs.length := by
  induction zs with
  | nil => exact Nat.zero_le _
  | cons x r ih =>
    have hx := h x List.mem_cons_self
    have i := ih fun z hz => h z (List.mem_cons_of_mem _ hz)
    rw [List.map_cons, List.sum_cons, List.length_cons, Nat.mul_add]
    omega
theorem join_by {e : Str} (he : e.length = 1) {m : Nat} {zs : List Str} (h : ∀ z ∈ zs, z.length ≤ m) : (Txt.join e zs).length ≤ (m + 1) * zs.length := by
  rw [TL.join_eq]
  induction zs with
  | nil => exact Nat.zero_le _
  | cons x r ih =>
    have hx := h x List.mem_cons_self
    cases r with
    | nil =>
      show x.length ≤ _
      rw [List.length_singleton]
      omega
    | cons y r =>
      have i := ih fun z hz => h z (List.mem_cons_of_mem _ hz)
      show (x ++ e ++ Str.join e (y :: r)).length ≤ _
      rw [len_app, len_app, he, List.length_cons (a := x), Nat.mul_add]
      omega
def lineR (r : KW × Str) : Str := (((("read " : Str) ++ r.1.1) ++ " ") ++ textD r.1.2 ++ " ") ++ r.2
def linesR (first : Str) (ends : List Str) (R : Rds) : List Str := (("first " : Str) ++ first) :: Txt.join " " ("ends" :: ends) :: R.map lineR
section
variable {P : Program} {w : World} {K : PySem.W.Frag} {mg : Str → Option Value} {base : Heap}
def spTextOf (K : PySem.W.Frag) : Sp := fun vs H Q _ => ∃ (p : Addr) (q : List Str), vs = [V.ref p] ∧ SqT K H p (q.map V.str) ∧ q.length ≤ 100 ∧ (∀ z ∈ q, z.length ≤ 1000) ∧ Q (.str (textD q)) H
theorem ok_textof {f : Addr} {fd : FuncData} (F : Fun K "text_of" "text_of" s_text_of f fd) (T : Top K mg) : FnOk P w K mg base CX0 1 f fd ["names"] (spTextOf K) := by
  refine F.ok sc_text_of (fun vs H Q E h => ?_) (fun cdv A outer s H vs Q E hr h => ?_)
  · obtain ⟨p, q, rfl, _⟩ := h
    rfl
  · obtain ⟨p, q, rfl, hp, hl, hs, hQ⟩ := h
    refine ⟨_, pss_one (ps_ret (pe_ifExp (pt_truth (pv 0) (fun _ => rfl)) (pe_join pe_str (pv 0)) pe_str)), ?_⟩
    unfold textD at hQ
    cases q with
    | nil =>
      rw [if_pos rfl] at hQ
      exact ⟨_, rfl, false, .inr (.inl ⟨_, hp, rfl⟩), hQ⟩
    | cons z r =>
      rw [if_neg (List.cons_ne_nil _ _)] at hQ
      refine ⟨_, rfl, true, .inr (.inl ⟨_, hp, rfl⟩), ?_⟩
      show (if true = true then _ else _)
      rw [if_pos rfl]
      have ls := sum_by hs
      have e1 : ("+" : Str).length = 1 := rfl
      exact ⟨⟨_, rfl⟩, _, rfl, _, p, _, rfl, rfl, .inr hp, by rw [e1]; omega, hQ⟩
def spRLines (P : Program) (w : World) (K : PySem.W.Frag) (C : Addr) : Sp := fun vs H Q _ => ∃ (x : Addr) (first : Str) (ends : List Str) (R : Rds), vs = [.ref x] ∧ RdrAt P w K C H x first ends R ∧ (R.map (·.1)).Nodup ∧ R.length ≤ 300 ∧ ends.length ≤ 100 ∧ first.length ≤ 8 ∧ (∀ z ∈ ends, z.length ≤ 8) ∧
  (∀ r ∈ R, r.1.1.length ≤ 8 ∧ r.1.2.length ≤ 3 ∧ (∀ y ∈ r.1.2, y.length ≤ 8) ∧ r.2.length ≤ 8) ∧ ∀ p H', H p = none → Same H H' → H' p = some (.tup ((linesR first ends R).map V.str)) → Q (.ref p) H'
theorem ok_rlines {C f : Addr} {fd : FuncData} (F : Fun K "lines" "Reader.lines" s_Reader_lines f fd) (T : Top K mg) (TC : Cl_Reader K mg C) : FnOk P w K mg base CX0 2 f fd ["self"] (spRLines P w K C) := by
  have ct : Cal P w K mg base 1 "text_of" ["names"] (spTextOf K) := T.d_text_of.cal fun f fd F => ok_textof F T
  refine F.ok sc_Reader_lines (fun vs H Q E h => ?_) (fun cdv A outer s H vs Q E hr h => ?_)
  · obtain ⟨x, first, ends, R, rfl, _⟩ := h
    rfl
  · obtain ⟨x, first, ends, R, rfl, ⟨dx, e, d, st, sp, ys, M, hx, he, ⟨L, hd, hk, hL⟩, _⟩, hnd, hl, hle, hf8, he8, hR8, q⟩ := h
    refine ⟨_, pss_cut (ps_lock (ps_setLc (i := 1) (own := [("place", 3)]) (g := gName 3) (tt := tYes) (by rfl) sc_Reader_lines.nd rfl rfl (sw_true rfl rfl rfl (by decide +kernel)) (pi_keysN (P := P) (w := w) (K := K) (by exact ⟨rfl, rfl, rfl⟩) (pe_fld (pv 0) rfl))
          (blkOk_by (N := ["self", "reads", "ends", "place"]) (sc := defScope s_Reader_lines) (by decide +kernel)) (fun _ _ _ _ _ => pg_name (i := 3) sc_Reader_lines.nd rfl (.inl rfl)) (fun _ _ _ _ _ => pts_nil)
          (fun _ _ _ _ _ => pe_joinedN (.cons pe_str (.cons (pe_fmt (pe_ix (ix_tupK (K := K) (by exact rfl)) (pv 3) pe_int (fun _ _ => rfl))) (.cons pe_str (.cons (pe_fmt (pe_cal ct hr (by rfl) (pa_cons (pe_ix (ix_tupK (K := K) (by exact rfl)) (pv 3) pe_int (fun _ _ => rfl)) pa_nil)))
            (.cons pe_str (.cons (pe_fmt (pe_nget (P := P) (w := w) (K := K) (by exact ⟨rfl, rfl, rfl⟩) (by exact hr.units) (pe_fldK (K := K) (by exact rfl) (pv 0) rfl) (pv 3) (by intro _ _; rfl))) .nil)))))))))
      (pss_cut (ps_set (i := 2) sc_Reader_lines.nd rfl (.inl rfl) (pe_join pe_str (pe_lst (pa_cons pe_str (StX.pa_star (pe_fld (pv 0) rfl) pa_nil)))))
      (pss_one (ps_ret (pe_tup (pa_cons (pe_joinedN (.cons pe_str (.cons (pe_fmt (pe_fld (pv 0) rfl)) .nil))) (pa_cons (pv 2) (StX.pa_star (pv 1) pa_nil))))))), ?_⟩
    have hlen := prM_len hL
    have big : 1000 ≤ sizeLine := by decide
    have k5 : ("read " : Str).length = 5 := rfl
    have k1 : (" " : Str).length = 1 := rfl
    have k6 : ("first " : Str).length = 6 := rfl
    have k4 : ("ends" : Str).length = 4 := rfl
    have ndL : (L.map (·.1)).Nodup := by
      have e := congrArg (List.map Prod.fst) hL
      unfold prM at e
      rw [List.map_map, List.map_map] at e
      have e' : L.map (·.1) = R.map (·.1) := e
      rw [e']
      exact hnd
    have nxd : x ≠ d := fun z => by rw [z, hd] at hx; cases hx
    refine ⟨fun σ' G => ∃ D : Addr, σ' = [some (.ref x), some (.ref D), none, none] ∧ G D = some (.lst ((R.map lineR).map V.str)) ∧ Same H G, ?_, ?_⟩
    · refine ⟨d, _, hd, True.intro, fun od => ⟨_, rfl, x, C, dx, _, _, rfl, by rw [upd_ne nxd]; exact hx, TC.cl, TC.n_reads, rf_reads _ _ _ _ _, d, od, toN L, rfl, upd_same, fun D hD => ?_⟩⟩
      have hDd : D ≠ d := fun z => by rw [z, upd_same] at hD; cases hD
      have hD0 : H D = none := by rw [upd_ne hDd] at hD; exact hD
      refine lc_it (walk_keysN (P := P) (w := w) (d := d) (o := od) (L := toN L)) (fun j G => G D = some (.lst (((R.take j).map lineR).map V.str)) ∧ Lkd P w H G d od (toN L)) ⟨upd_same, Lkd.of.more (same_new (Same.refl _) hD)⟩ (fun j G _ hP => hP.2.at_) (fun j u Gx G hj hP hy => ?_) (fun G hP => ?_)
      · obtain ⟨eD, lk⟩ := hP
        obtain ⟨rfl, e0, he0, rfl⟩ := hy
        obtain ⟨y, hy, rfl⟩ := toN_at he0
        obtain ⟨r, hr0, er1, er2⟩ := prM_at hL hy
        have ky : ∀ z ∈ L, KeyA K G z.2.1 (keyK z.1) := fun z hz => lk.key hd (hk z hz)
        have hyL := List.mem_of_getElem? hy
        obtain ⟨g, hg1, hg2⟩ := keyK_at.mp (ky y hyL)
        rw [er1] at hg1 hg2
        obtain ⟨a1, a2, a3, a4⟩ := hR8 r (List.mem_of_getElem? hr0)
        have lT : (textD r.1.2).length ≤ 27 := by
          unfold textD
          split
          · show 1 ≤ 27
            omega
          · have := join_by (e := "+") rfl a3
            omega
        have hv : getN (toN L) (keyK y.1) = some (V.str r.2) := by rw [getN_own ndL hy, er2]
        refine ⟨rfl, ?_⟩
        refine ⟨_, rfl, by rw [empty_app]; omega, _, rfl, y.2.1, _, 0, _, rfl, rfl, hg1, rfl, .inl ⟨r.1.1, rfl, by omega, ?_⟩⟩
        refine ⟨_, rfl, by rw [empty_app, len_app]; omega, _, rfl, by rw [empty_app, len_app, len_app]; omega, ?_⟩
        refine ⟨_, rfl, y.2.1, _, 1, _, rfl, rfl, hg1, rfl, g, r.1.2, rfl, hg2, by omega, fun z hz => Nat.le_trans (a3 z hz) (by decide), .inl ⟨textD r.1.2, rfl, by omega, ?_⟩⟩
        refine ⟨_, rfl, by rw [empty_app, len_app, len_app, len_app]; omega, _, rfl, by rw [empty_app, len_app, len_app, len_app, len_app]; omega, ?_⟩
        refine ⟨_, rfl, x, C, dx, _, _, rfl, lk.sm _ _ nxd hx, TC.cl, TC.n_reads, rf_reads _ _ _ _ _, _, rfl, d, y.2.1, toN L, keyK y.1, V.str r.2, rfl, rfl, ⟨.inr ⟨od, lk.at_⟩, fun z hz => ?_⟩, ky y hyL, hv, .inl ⟨r.2, rfl, by omega, ?_⟩⟩
        · obtain ⟨z', hz', rfl⟩ := List.mem_map.mp hz
          exact ky z' hz'
        refine ⟨_, rfl, by rw [empty_app, len_app, len_app, len_app, len_app, len_app]; omega, ?_⟩
        refine ⟨_, eD, ?_, ?_, ⟨by rw [upd_ne (Ne.symm hDd)]; exact lk.at_, fun b u n e => by rw [upd_ne (ne_of_none e hD0)]; exact lk.sm b u n e⟩⟩
        · rw [List.length_map, List.length_map, List.length_take]
          exact Nat.lt_of_le_of_lt (Nat.le_trans (Nat.min_le_right _ _) hl) (by decide)
        · rw [upd_same, List.take_add_one, hr0, List.map_append, List.map_append, empty_app]
          rfl
      · obtain ⟨eD, lk⟩ := hP
        rw [toN_len, hlen, List.take_length] at eD
        exact ⟨lk.at_, D, rfl, by rw [upd_ne hDd]; exact eD, lk.back hd⟩
    rintro σ' G1 ⟨D1, rfl, eD1, s1⟩
    refine ⟨fun σ' G => σ' = [some (.ref x), some (.ref D1), some (.str (Txt.join " " ("ends" :: ends))), none] ∧ Same G1 G, ?_, ?_⟩
    · have hxG := s1 _ _ hx
      have heG := sqT_same s1 he
      refine ⟨⟨_, rfl⟩, _, rfl, x, C, dx, _, _, rfl, hxG, TC.cl, TC.n_ends, rf_ends _ _ _ _ _, e, _, rfl, .inl heG, ?_, fun l nl => ?_⟩
      · show (V.str "ends" :: (ends.map V.str ++ [])).length ≤ sizeLine
        rw [List.append_nil, List.length_cons, List.length_map]
        omega
      · have e1 : V.str "ends" :: (ends.map V.str ++ []) = (("ends" : Str) :: ends).map V.str := by rw [List.append_nil]; rfl
        refine ⟨" ", l, "ends" :: ends, rfl, rfl, .inl (.inl (.inl (by rw [← e1]; exact upd_same))), ?_, rfl, same_new (Same.refl G1) nl⟩
        have ls := sum_by he8
        rw [List.map_cons, List.sum_cons, List.length_cons, k4, k1]
        omega
    rintro σ' G2 ⟨rfl, s2⟩
    have s12 := s1.trans s2
    refine ⟨_, rfl, by rw [empty_app]; omega, _, rfl, x, C, dx, _, _, rfl, s12 _ _ hx, TC.cl, TC.n_first, rf_first _ _ _ _ _, .inl ⟨first, rfl, by omega, _, rfl, by rw [empty_app, len_app]; omega, ?_⟩⟩
    refine ⟨_, rfl, _, rfl, D1, _, rfl, .inr (.inl (.inl (s2 _ _ eD1))), ?_⟩
    have e2 : V.str (Str.empty ++ "first " ++ first) :: V.str (Txt.join " " ("ends" :: ends)) :: ((R.map lineR).map V.str ++ []) = (linesR first ends R).map V.str := by
      rw [empty_app, List.append_nil]
      rfl
    refine ⟨by rw [e2, List.length_map]; unfold linesR; rw [List.length_cons, List.length_cons, List.length_map]; omega, fun p np => q p _ (s12.free np) (s12.trans (same_new (Same.refl G2) np)) (by rw [e2]; exact upd_same)⟩
end
end Kl
set_option maxRecDepth 100000
set_option maxHeartbeats 4000000
namespace Kl
open PySem PySem.Spec PyProof.Rows L2 Gx Mx
theorem erase_map {α β : Type} (f : α → β) : ∀ (l : List α) (k : Nat), (l.map f).eraseIdx k = (l.eraseIdx k).map f
  | [], _ => rfl
  | _ :: _, 0 => rfl
  | x :: l, k + 1 => congrArg (f x :: ·) (erase_map f l k)
theorem erase_perm {α : Type} : ∀ (l : List α) (k : Nat) (x : α), l[k]? = some x → (x :: l.eraseIdx k).Perm l
  | [], _, _, h => by simp at h
  | y :: l, 0, x, h => by
    simp at h
    subst h
    exact List.Perm.refl _
  | y :: l, k + 1, x, h => by
    have ih := erase_perm l k x h
    exact (List.Perm.swap y x (l.eraseIdx k)).trans (ih.cons y)
section
variable {P : Program} {w : World} {K : PySem.W.Frag} {mg : Str → Option Value} {base : Heap}
def spMixed (K : PySem.W.Frag) : Sp := fun vs H Q _ => ∃ (d p : Addr) (zs : List Str), vs = [.ref d, .ref p] ∧ DiceAt H d ∧ p ≠ d ∧ SqL K H p (zs.map V.str) ∧ zs.length ≤ 1000 ∧
  ∀ (q : Addr) (H' : Hp) (ys : List Str), ys.Perm zs → H q = none → H' q = some (.lst (ys.map V.str)) → SameX d H H' → DiceAt H' d → Q (.ref q) H'
theorem seqI {r : Int} {n : Nat} (h0 : 0 ≤ r) (h1 : r < n) : seqIndex? r n = some r.toNat := by
  have e : ¬ r < 0 := by omega
  simp [seqIndex?, e, h0, h1]
theorem ok_mixed {f : Addr} {fd : FuncData} (F : Fun K "_law_mixed" "_law_mixed" s_law_mixed f fd) (T : Top K mg) : FnOk P w K mg base CX0 2 f fd ["_law_dice_here", "_law_items"] (spMixed K) := by
  have cr : Cal P w K mg base 1 "_law_roll" ["_law_dice_here", "_law_total"] spRoll := T.d_law_roll.cal fun f fd F => ok_roll F T
  refine F.ok sc_law_mixed (fun vs H Q E h => ?_) (fun cdv A outer s H vs Q E hr h => ?_)
  · obtain ⟨d, p, zs, rfl, _⟩ := h
    rfl
  · obtain ⟨d, p, zs, rfl, hd, hpd, hs, hl, q⟩ := h
    refine ⟨_, pss_cons (ps_par (i := 2) (j := 3) rfl sc_law_mixed.nd rfl rfl (by decide) rfl rfl (pa_cons (pe_callTy call_list_of (by rfl) T.b_list (by decide +kernel) (pa_cons (pv 1) pa_nil)) (pa_cons (pe_lst pa_nil) pa_nil)) rfl)
      (pss_cons (ps_for PassesOwn.never rfl (pi_range1 (by rfl) T.b_range (pa_cons (pe_callB call_len_seq (by rfl) T.b_len PySem.boot_len (pa_cons (pv 1) pa_nil)) pa_nil)) (pg_name (i := 4) sc_law_mixed.nd rfl (.inl rfl))
        (pss_one (ps_expr (pe_bm PySem.F.plainAttrs_list PySem.F.slot_list_append PySem.F.type_list_append mt_append (pv 3) (pa_cons
          (pe_bm PySem.F.plainAttrs_list PySem.F.slot_list_pop PySem.F.type_list_pop mt_popAt (pv 2) (pa_cons (pe_cal cr hr (by rfl) (pa_cons (pv 0) (pa_cons (pe_callB call_len_seq (by rfl) T.b_len PySem.boot_len (pa_cons (pv 2) pa_nil)) pa_nil))) pa_nil)) pa_nil)))))
      (pss_one (ps_ret (pv 3)))), ?_⟩
    have ln : (zs.map V.str).length = zs.length := List.length_map _
    refine ⟨_, rfl, p, _, rfl, .inl hs, fun l nl => ?_⟩
    have hld : l ≠ d := dice_ne hd nl
    refine ⟨Nat.zero_le _, fun q' nq => ?_⟩
    have hql : q' ≠ l := fun z => by
      rw [z, upd_same] at nq
      cases nq
    have nq0 : H q' = none := by rwa [upd_ne hql] at nq
    have hqd : q' ≠ d := dice_ne hd nq0
    have hp2 : SqL K (upd (upd H l (.lst (zs.map V.str))) q' (.lst [])) p (zs.map V.str) := by
      have s2 : Same H (upd (upd H l (.lst (zs.map V.str))) q' (.lst [])) := same_new (same_new (Same.refl H) nl) nq
      rcases hs with (h | ⟨o, h⟩) | h
      · exact .inl (.inl (s2 _ _ h))
      · exact .inl (.inr ⟨o, s2 _ _ h⟩)
      · exact .inr h
    refine ⟨_, _, rfl, _, rfl, p, _, rfl, .inl hp2, _, rfl, by omega, by omega, ?_⟩
    rw [ln]
    refine for_range (lo := 0) (fun i σ' H' => ∃ t, ∃ ls fs : List Str, σ' = [some (.ref d), some (.ref p), some (.ref l), some (.ref q'), t] ∧ H' l = some (.lst (ls.map V.str)) ∧ H' q' = some (.lst (fs.map V.str)) ∧ fs.length = i ∧ (fs ++ ls).Perm zs ∧ SameX d H H' ∧ DiceAt H' d)
      ⟨none, zs, [], rfl, ?_, upd_same, rfl, List.Perm.refl _, ?_, ?_⟩ (fun i σ' H' hi hP => ?_) (fun σ' H' hP => ?_)
    · rw [upd_ne hql.symm, upd_same]
    · exact ((SameX.refl d H).at nl).at nq0
    · exact dice_upd (dice_upd hd hld) hqd
    · obtain ⟨t, ls, fs, rfl, el, eq, lf, hp, sx, hd'⟩ := hP
      have lz := hp.length_eq
      rw [List.length_append] at lz
      have l1 : 0 < ls.length := by omega
      have lm : (ls.map V.str).length = ls.length := List.length_map _
      refine ⟨_, rfl, ⟨.inl ⟨rfl, _, .inl (.inl eq)⟩, ?_⟩⟩
      refine ⟨_, rfl, ⟨.inl ⟨rfl, _, .inl (.inl el)⟩, ?_⟩⟩
      refine ⟨_, rfl, _, rfl, l, _, rfl, .inl (.inl (.inl el)), d, _, rfl, hd', by rw [lm]; omega, by rw [lm]; exact log2_small (by omega), fun r x b c h0 h1 => ?_⟩
      rw [lm] at h1
      obtain ⟨k, rfl⟩ := Int.eq_ofNat_of_zero_le h0
      have hk : k < ls.length := by omega
      have ek : (ls.map V.str)[k]? = some (.str ls[k]) := by rw [List.getElem?_map, List.getElem?_eq_getElem hk]; rfl
      refine ⟨l, ls.map V.str, (k : Int), k, _, rfl, rfl, by rw [upd_ne hld]; exact el, by omega, by omega, by rw [lm]; exact seqI h0 h1, ek, ?_⟩
      refine ⟨q', fs.map V.str, _, rfl, rfl, by rw [upd_ne hql, upd_ne hqd]; exact eq, ?_, ?_⟩
      · rw [List.length_map]
        exact Nat.lt_of_le_of_lt (show fs.length ≤ 1000 by omega) (by decide)
      · refine ⟨_, ls.eraseIdx k, fs ++ [ls[k]], rfl, ?_, ?_, by rw [List.length_append, lf]; rfl, ?_, ?_, ?_⟩
        · rw [upd_ne hql.symm, upd_same, erase_map]
        · rw [upd_same, List.map_append]
          rfl
        · have e1 := erase_perm ls k _ (List.getElem?_eq_getElem hk)
          rw [List.append_assoc]
          exact (e1.append_left fs).trans hp
        · exact (sx.atd.at nl).at nq0
        · exact dice_upd (dice_upd (dice_new x b c) hld) hqd
    · obtain ⟨t, ls, fs, rfl, el, eq, lf, hp, sx, hd'⟩ := hP
      have lz := hp.length_eq
      rw [List.length_append] at lz
      have e0 : ls = [] := List.eq_nil_of_length_eq_zero (by omega)
      rw [e0, List.append_nil] at hp
      exact ⟨_, rfl, q q' H' fs hp nq0 eq sx hd'⟩
end
end Kl
set_option maxRecDepth 100000
set_option maxHeartbeats 4000000
namespace Kl
open PySem PySem.Spec PyProof.Rows L2 Gx Mx
section
variable {P : Program} {w : World} {K : PySem.W.Frag} {mg : Str → Option Value} {base : Heap}
theorem sq_same {G G' : Hp} {a : Addr} {xs : List V} (h : SqL K G a xs ∨ SqT K G a xs) (s : Same G G') : SqL K G' a xs ∨ SqT K G' a xs := by
  rcases h with ((h | ⟨o, h⟩) | h) | ((h | ⟨o, h⟩) | h)
  · exact .inl (.inl (.inl (s _ _ h)))
  · exact .inl (.inl (.inr ⟨o, s _ _ h⟩))
  · exact .inl (.inr h)
  · exact .inr (.inl (.inl (s _ _ h)))
  · exact .inr (.inl (.inr ⟨o, s _ _ h⟩))
  · exact .inr (.inr h)
def spMixV (K : PySem.W.Frag) : Sp := fun vs H Q _ => ∃ (d p : Addr) (zs : List V), vs = [.ref d, .ref p] ∧ DiceAt H d ∧ (SqL K H p zs ∨ SqT K H p zs) ∧ zs.length ≤ 1000 ∧
  ∀ (q : Addr) (H' : Hp) (ys : List V), ys.Perm zs → H q = none → H' q = some (.lst ys) → SameX d H H' → DiceAt H' d → Q (.ref q) H'
theorem ok_mixV {f : Addr} {fd : FuncData} (F : Fun K "_law_mixed" "_law_mixed" s_law_mixed f fd) (T : Top K mg) : FnOk P w K mg base CX0 2 f fd ["_law_dice_here", "_law_items"] (spMixV K) := by
  have cr : Cal P w K mg base 1 "_law_roll" ["_law_dice_here", "_law_total"] spRoll := T.d_law_roll.cal fun f fd F => ok_roll F T
  refine F.ok sc_law_mixed (fun vs H Q E h => ?_) (fun cdv A outer s H vs Q E hr h => ?_)
  · obtain ⟨d, p, zs, rfl, _⟩ := h
    rfl
  · obtain ⟨d, p, zs, rfl, hd, hs, hl, q⟩ := h
    refine ⟨_, pss_cons (ps_par (i := 2) (j := 3) rfl sc_law_mixed.nd rfl rfl (by decide) rfl rfl (pa_cons (pe_callTy call_list_of (by rfl) T.b_list (by decide +kernel) (pa_cons (pv 1) pa_nil)) (pa_cons (pe_lst pa_nil) pa_nil)) rfl)
      (pss_cons (ps_for PassesOwn.never rfl (pi_range1 (by rfl) T.b_range (pa_cons (pe_callB call_len_seq (by rfl) T.b_len PySem.boot_len (pa_cons (pv 1) pa_nil)) pa_nil)) (pg_name (i := 4) sc_law_mixed.nd rfl (.inl rfl))
        (pss_one (ps_expr (pe_bm PySem.F.plainAttrs_list PySem.F.slot_list_append PySem.F.type_list_append mt_append (pv 3) (pa_cons
          (pe_bm PySem.F.plainAttrs_list PySem.F.slot_list_pop PySem.F.type_list_pop mt_popAt (pv 2) (pa_cons (pe_cal cr hr (by rfl) (pa_cons (pv 0) (pa_cons (pe_callB call_len_seq (by rfl) T.b_len PySem.boot_len (pa_cons (pv 2) pa_nil)) pa_nil))) pa_nil)) pa_nil)))))
      (pss_one (ps_ret (pv 3)))), ?_⟩
    refine ⟨_, rfl, p, _, rfl, hs, fun l nl => ?_⟩
    have hld : l ≠ d := dice_ne hd nl
    refine ⟨Nat.zero_le _, fun q' nq => ?_⟩
    have hql : q' ≠ l := fun z => by
      rw [z, upd_same] at nq
      cases nq
    have nq0 : H q' = none := by rwa [upd_ne hql] at nq
    have hqd : q' ≠ d := dice_ne hd nq0
    have hp2 := sq_same hs (same_new (o := .lst []) (same_new (o := .lst zs) (Same.refl H) nl) nq)
    refine ⟨_, _, rfl, _, rfl, p, _, rfl, hp2, _, rfl, by omega, by omega, ?_⟩
    refine for_range (lo := 0) (fun i σ' H' => ∃ t, ∃ ls fs : List V, σ' = [some (.ref d), some (.ref p), some (.ref l), some (.ref q'), t] ∧ H' l = some (.lst ls) ∧ H' q' = some (.lst fs) ∧ fs.length = i ∧ (fs ++ ls).Perm zs ∧ SameX d H H' ∧ DiceAt H' d)
      ⟨none, zs, [], rfl, ?_, upd_same, rfl, List.Perm.refl _, ?_, ?_⟩ (fun i σ' H' hi hP => ?_) (fun σ' H' hP => ?_)
    · rw [upd_ne hql.symm, upd_same]
    · exact ((SameX.refl d H).at nl).at nq0
    · exact dice_upd (dice_upd hd hld) hqd
    · obtain ⟨t, ls, fs, rfl, el, eq, lf, hp, sx, hd'⟩ := hP
      have lz := hp.length_eq
      rw [List.length_append] at lz
      have l1 : 0 < ls.length := by omega
      refine ⟨_, rfl, ⟨.inl ⟨rfl, _, .inl (.inl eq)⟩, ?_⟩⟩
      refine ⟨_, rfl, ⟨.inl ⟨rfl, _, .inl (.inl el)⟩, ?_⟩⟩
      refine ⟨_, rfl, _, rfl, l, _, rfl, .inl (.inl (.inl el)), d, _, rfl, hd', by omega, log2_small (by omega), fun r x b c h0 h1 => ?_⟩
      obtain ⟨k, rfl⟩ := Int.eq_ofNat_of_zero_le h0
      have hk : k < ls.length := by omega
      have ek : ls[k]? = some ls[k] := List.getElem?_eq_getElem hk
      refine ⟨l, ls, (k : Int), k, _, rfl, rfl, by rw [upd_ne hld]; exact el, by omega, by omega, seqI h0 h1, ek, ?_⟩
      refine ⟨q', fs, _, rfl, rfl, by rw [upd_ne hql, upd_ne hqd]; exact eq, ?_, ?_⟩
      · exact Nat.lt_of_le_of_lt (show fs.length ≤ 1000 by omega) (by decide)
      · refine ⟨_, ls.eraseIdx k, fs ++ [ls[k]], rfl, ?_, ?_, by rw [List.length_append, lf]; rfl, ?_, ?_, ?_⟩
        · rw [upd_ne hql.symm, upd_same]
        · rw [upd_same]
        · have e1 := erase_perm ls k _ ek
          rw [List.append_assoc]
          exact (e1.append_left fs).trans hp
        · exact (sx.atd.at nl).at nq0
        · exact dice_upd (dice_upd (dice_new x b c) hld) hqd
    · obtain ⟨t, ls, fs, rfl, el, eq, lf, hp, sx, hd'⟩ := hP
      have lz := hp.length_eq
      rw [List.length_append] at lz
      have e0 : ls = [] := List.eq_nil_of_length_eq_zero (by omega)
      rw [e0, List.append_nil] at hp
      exact ⟨_, rfl, q q' H' fs hp nq0 eq sx hd'⟩
end
end Kl
set_option maxRecDepth 100000
set_option maxHeartbeats 4000000
namespace Kl
open PySem PySem.Spec PyProof.Rows L2 Gx Mx
def plF (first : Str) (el rd : Addr) : List (Key × V) := [(Sum.inr ("first" : Str), .str first), (Sum.inr ("ends" : Str), .ref el), (Sum.inr ("reads" : Str), .ref rd)]
theorem pf_first (first : Str) (el rd : Addr) : valV (plF first el rd) (Sum.inr ("first" : Str)) = some (.str first) := valV_pos (p := ((Sum.inr ("first" : Str) : Key), V.str first)) rfl
theorem pf_ends (first : Str) (el rd : Addr) : valV (plF first el rd) (Sum.inr ("ends" : Str)) = some (.ref el) := by
  have n1 : ("first" : Str) ≠ "ends" := by decide +kernel
  have h1 : ¬ (Sum.inr ("first" : Str) : Key) = Sum.inr ("ends" : Str) := fun z => n1 (Sum.inr.inj z)
  exact (valV_neg (p := ((Sum.inr ("first" : Str) : Key), V.str first)) h1).trans (valV_pos (p := ((Sum.inr ("ends" : Str) : Key), V.ref el)) rfl)
theorem pf_reads (first : Str) (el rd : Addr) : valV (plF first el rd) (Sum.inr ("reads" : Str)) = some (.ref rd) := by
  have n1 : ("first" : Str) ≠ "reads" := by decide +kernel
  have n2 : ("ends" : Str) ≠ "reads" := by decide +kernel
  have h1 : ¬ (Sum.inr ("first" : Str) : Key) = Sum.inr ("reads" : Str) := fun z => n1 (Sum.inr.inj z)
  have h2 : ¬ (Sum.inr ("ends" : Str) : Key) = Sum.inr ("reads" : Str) := fun z => n2 (Sum.inr.inj z)
  exact (valV_neg (p := ((Sum.inr ("first" : Str) : Key), V.str first)) h1).trans ((valV_neg (p := ((Sum.inr ("ends" : Str) : Key), V.ref el)) h2).trans (valV_pos (p := ((Sum.inr ("reads" : Str) : Key), V.ref rd)) rfl))
/-- at p stands the plain reader, its list of ends at el, its lines at rd -/
def PlainAt (P : Program) (w : World) (K : PySem.W.Frag) (H : Hp) (p el rd : Addr) (first : Str) (ends : List Str) (R : Rds) : Prop := H p = some (.dK (plF first el rd)) ∧ SqL K H el (ends.map V.str) ∧ RDict P w K H rd R
theorem PlainAt.same {P : Program} {w : World} {K : PySem.W.Frag} {H H' : Hp} {p el rd : Addr} {first : Str} {ends : List Str} {R : Rds} (h : PlainAt P w K H p el rd first ends R) (s : Same H H') : PlainAt P w K H' p el rd first ends R := ⟨s _ _ h.1, sqL_sameE s h.2.1, h.2.2.same s⟩
/-- there is a reader so -/
structure RdOk (first : Str) (ends : List Str) (R : Rds) : Prop where
  ok : ∀ ys, IsSt (statesL first ends R) ys → readerB first ends R ys = true
  nd : (R.map (·.1)).Nodup
  le : ends.length ≤ 6
  lr : R.length ≤ 40
  f8 : first.length ≤ 8
  e8 : ∀ z ∈ ends, z.length ≤ 8
  r8 : ∀ r ∈ R, r.1.1.length ≤ 8 ∧ r.1.2.length ≤ 3 ∧ (∀ y ∈ r.1.2, y.length ≤ 8) ∧ r.2.length ≤ 8
theorem RdOk.shrt {first : Str} {ends : List Str} {R : Rds} (h : RdOk first ends R) : Shrt R := fun r hr => by
  obtain ⟨a, b, c, d⟩ := h.r8 r hr
  exact ⟨by omega, by omega, fun y hy => Nat.le_trans (c y hy) (by decide), by omega⟩
theorem hu' {k : Nat} {A : Around} (h : Room k A) : A.units + 1 < cLine := by
  have := h.units
  omega
section
variable {P : Program} {w : World} {K : PySem.W.Frag} {mg : Str → Option Value} {base : Heap}
def spDigT (K : PySem.W.Frag) : Sp := fun vs H Q _ => ∃ (p : Addr) (q : List Str), vs = [V.ref p] ∧ SqT K H p (q.map V.str) ∧ q.length ≤ 100 ∧ (∀ z ∈ q, z.length ≤ 1000 ∧ PyData.strOk z = true) ∧ ∀ H', Same H H' → Q (.str (textD q)) H'
theorem ok_digt {f : Addr} {fd : FuncData} (F : Fun K "_law_digit_text" "_law_digit_text" s_law_digit_text f fd) (T : Top K mg) : FnOk P w K mg base CX0 1 f fd ["_law_digit"] (spDigT K) := by
  refine F.ok sc_law_digit_text (fun vs H Q E h => ?_) (fun cdv A outer s H vs Q E hr h => ?_)
  · obtain ⟨p, q, rfl, _⟩ := h
    rfl
  · obtain ⟨p, q, rfl, hp, hl, hs, hQ⟩ := h
    refine ⟨_, pss_one (ps_ret (pe_ifExp (pt_cmpR (op_neD hr.units) (pv 0) (pe_tup pa_nil) (nomark _)) (pe_join pe_str (pv 0)) pe_str)), ?_⟩
    refine ⟨_, rfl, Nat.zero_le _, fun l nl => ?_⟩
    have s1 := same_new (o := .tup []) (Same.refl H) nl
    refine ⟨.tuple (tD q), .tuple (tD []), .tup (sqT_same s1 hp) (dp_texts q), .tup (SqT.of upd_same) (dp_texts []), shaped_textsT (fun z hz => (hs z hz).2), shaped_textsT (fun z hz => by cases hz), _, rfl, ?_⟩
    rw [PyData.eqv, eqv_texts]
    have z := hQ _ s1
    unfold textD at z
    by_cases c : q = []
    · rw [if_pos c] at z
      rw [decide_eq_true c]
      exact ite2 (fun e => by cases e) (fun _ => z)
    · rw [if_neg c] at z
      rw [decide_eq_false c]
      refine ite2 (fun _ => ?_) (fun e => absurd rfl e)
      have ls := sum_by fun y hy => (hs y hy).1
      have e1 : ("+" : Str).length = 1 := rfl
      exact ⟨⟨_, rfl⟩, _, rfl, _, p, _, rfl, rfl, .inr (sqT_same s1 hp), by rw [e1]; omega, z⟩
def spMade (P : Program) (w : World) (K : PySem.W.Frag) (C : Addr) : Sp := fun vs H Q _ => ∃ (p el rd : Addr) (first : Str) (ends : List Str) (R : Rds), vs = [.ref p] ∧ PlainAt P w K H p el rd first ends R ∧ RdOk first ends R ∧
  ∀ (R' : Rds) (x : Addr) (H' : Hp), R'.Perm R → Asc R' → H x = none → Same H H' → RdrAt P w K C H' x first ends R' → (∀ (D : Addr) (L : NL) (u : HO), H D = some (DN P w D L) → RdrAt P w K C (upd H' D u) x first ends R') → Q (.ref x) H'
theorem ok_made {C f : Addr} {fd : FuncData} (F : Fun K "_law_made_reader" "_law_made_reader" s_law_made_reader f fd) (T : Top K mg) (TC : Cl_Reader K mg C) : FnOk P w K mg base CX0 10 f fd ["_law_plain"] (spMade P w K C) := by
  have cI : CalI P w K mg base C 8 ["self", "first", "ends", "reads"] (spRInit P w K C) := by
    obtain ⟨f, fd, M, F, b⟩ := TC.made
    exact ⟨f, fd, M, ok_rinit F T TC, b⟩
  refine F.ok sc_law_made_reader (fun vs H Q E h => ?_) (fun cdv A outer s H vs Q E hr h => ?_)
  · obtain ⟨p, el, rd, first, ends, R, rfl, _⟩ := h
    rfl
  · obtain ⟨p, el, rd, first, ends, R, rfl, ⟨hp, he, hD⟩, hok, q⟩ := h
    refine ⟨_, pss_one (ps_ret (pe_makeC cI hr (by rfl) TC.gC (pa_cons (pe_dget (hu' hr) (pv 0) pe_str (fun _ _ => rfl)) (pa_cons (pe_callTy call_tuple_of (by rfl) T.b_tuple (by decide +kernel) (pa_cons (pe_dget (hu' hr) (pv 0) pe_str (fun _ _ => rfl)) pa_nil)) (pa_cons (pe_dget (hu' hr) (pv 0) pe_str (fun _ _ => rfl)) pa_nil))))), ?_⟩
    have g1 : ∀ {G : Hp}, G p = some (.dK (plF first el rd)) → DGet G p (.str "first") (some (.str first)) := fun {G} e => by
      have z := DGet.k (k := Sum.inr ("first" : Str)) e
      rw [pf_first] at z
      exact z
    have g2 : ∀ {G : Hp}, G p = some (.dK (plF first el rd)) → DGet G p (.str "ends") (some (.ref el)) := fun {G} e => by
      have z := DGet.k (k := Sum.inr ("ends" : Str)) e
      rw [pf_ends] at z
      exact z
    have g3 : ∀ {G : Hp}, G p = some (.dK (plF first el rd)) → DGet G p (.str "reads") (some (.ref rd)) := fun {G} e => by
      have z := DGet.k (k := Sum.inr ("reads" : Str)) e
      rw [pf_reads] at z
      exact z
    refine ⟨_, rfl, p, _, rfl, g1 hp, _, rfl, p, _, rfl, g2 hp, el, _, rfl, .inl ⟨he, fun l nl => ?_⟩⟩
    have s1 := same_new (o := .tup (ends.map V.str)) (Same.refl H) nl
    have hl : SqT K (upd H l (.tup (ends.map V.str))) l (ends.map V.str) := SqT.of upd_same
    refine ⟨_, rfl, p, _, rfl, g3 (s1 _ _ hp), fun x dx nx ndx hne => ?_⟩
    have s2 : Same (upd H l (.tup (ends.map V.str))) (upd (upd (upd H l (.tup (ends.map V.str))) dx (.own x)) x (.ins C dx [])) := same_new (same_new (Same.refl _) ndx) (by rw [upd_ne (Ne.symm hne)]; exact nx)
    have s12 := s1.trans s2
    have nx0 : H x = none := s1.free nx
    have hl2 := sqT_same s2 hl
    have hx2 : (upd (upd (upd H l (.tup (ends.map V.str))) dx (.own x)) x (.ins C dx [])) x = some (.ins C dx []) := upd_same
    generalize upd (upd (upd H l (.tup (ends.map V.str))) dx (.own x)) x (.ins C dx []) = G at *
    refine ⟨x, dx, l, rd, first, ends, R, rfl, hx2, by have := hok.f8; omega, hl2, fun z hz => Nat.le_trans (hok.e8 z hz) (by decide), hD.same s12, hok.nd, by have := hok.le; omega, by have := hok.lr; omega, hok.shrt, hok.ok, fun R' H' hp' hasc hR sx far => ⟨rfl, q R' x H' hp' hasc nx0 (fun b u e => sx b u (ne_of_none e nx0) (s12 _ _ e)) hR (fun D L u e => far D L u (s12 _ _ e))⟩⟩
end
end Kl
set_option maxRecDepth 100000
set_option maxHeartbeats 4000000
namespace Kl
open PySem PySem.Spec PyProof.Rows L2 Gx Mx
theorem cut_to0 {xs : List V} (n : Nat) : cutV xs none (some ((n : Nat) : Int)) = xs.take n := by
  unfold cutV
  rw [HT.sIx_nat, HT.sIx_none, List.drop_zero, Nat.sub_zero]
  by_cases h : n ≤ xs.length
  · rw [Nat.min_eq_left h]
  · rw [Nat.min_eq_right (by omega), List.take_length, List.take_of_length_le (by omega)]
def TENS : List Str := ["s", "z", "o", "n", "y", "end", "first", "read", "zzzzzzzz", "a"]
theorem tens_nd : TENS.Nodup := by decide +kernel
theorem tens_ok : TENS.all nameB = true := by decide +kernel
theorem tens_short : TENS.all (fun z => decide (z.length ≤ 8)) = true := by decide +kernel
section
variable {P : Program} {w : World} {K : PySem.W.Frag} {mg : Str → Option Value} {base : Heap}
def spSN : Sp := fun vs H Q _ => ∃ (d : Addr) (n : Nat), vs = [.ref d, .int (n : Nat)] ∧ n ≤ 10 ∧ DiceAt H d ∧
  ∀ (p : Addr) (zs : List Str) H', SameX d H H' → DiceAt H' d → H p = none → H' p = some (.lst (zs.map V.str)) → zs.Nodup → (∀ z ∈ zs, z ∈ TENS) → zs.length = n → Q (.ref p) H'
theorem ok_sn {f : Addr} {fd : FuncData} (F : Fun K "_law_state_names" "_law_state_names" s_law_state_names f fd) (T : Top K mg) : FnOk P w K mg base CX0 3 f fd ["_law_dice_here", "_law_many"] spSN := by
  have cm : Cal P w K mg base 2 "_law_mixed" ["_law_dice_here", "_law_items"] (spMixed K) := T.d_law_mixed.cal fun f fd F => ok_mixed F T
  refine F.ok sc_law_state_names (fun vs H Q E h => ?_) (fun cdv A outer s H vs Q E hr h => ?_)
  · obtain ⟨d, n, rfl, _⟩ := h
    rfl
  · obtain ⟨d, n, rfl, hn, hd, q⟩ := h
    refine ⟨_, pss_one (ps_ret (pe_slice sl_list (pe_cal cm hr (by rfl) (pa_cons (pv 0) (pa_cons (pe_lst (pa_cons pe_str (pa_cons pe_str (pa_cons pe_str (pa_cons pe_str (pa_cons pe_str (pa_cons pe_str (pa_cons pe_str (pa_cons pe_str (pa_cons pe_str (pa_cons pe_str pa_nil))))))))))) pa_nil))) po_none (po_some (pv 1)))), ?_⟩
    have big : 100000 ≤ sizeLine := by decide
    refine ⟨_, rfl, by show 10 ≤ sizeLine; omega, fun pool np => ?_⟩
    have hpd : pool ≠ d := dice_ne hd np
    have hd1 := dice_upd (o := .lst (TENS.map V.str)) hd hpd
    have sx1 : SameX d H (upd H pool (.lst (TENS.map V.str))) := (SameX.refl d H).at np
    refine ⟨d, pool, TENS, rfl, hd1, hpd, .inl (.inl upd_same), by decide, fun lm H2 ys hperm nlm elm sx2 hd2 => ?_⟩
    have sxa := sx1.trans sx2
    have hlmd : lm ≠ d := dice_ne hd1 nlm
    have l8 : ys.length = 10 := hperm.length_eq
    refine ⟨_, rfl, _, rfl, lm, _, rfl, .inl (.inl elm), fun l nl => ?_⟩
    have ec : cutV (ys.map V.str) none (some ((n : Nat) : Int)) = (ys.take n).map V.str := by
      rw [cut_to0, List.map_take]
    rw [ec]
    have hld : l ≠ d := dice_ne hd2 nl
    refine q l (ys.take n) _ (sxa.new nl) (dice_upd hd2 hld) (sxa.free hld nl) upd_same ((hperm.nodup_iff.mpr tens_nd).sublist (List.take_sublist _ _)) (fun z hz => hperm.mem_iff.mp (List.mem_of_mem_take hz)) ?_
    rw [List.length_take]
    omega
theorem pg1 {H : Hp} {p el rd : Addr} {first : Str} (e : H p = some (.dK (plF first el rd))) : DGet H p (.str "first") (some (.str first)) := by
  have z := DGet.k (k := Sum.inr ("first" : Str)) e
  rw [pf_first] at z
  exact z
theorem pg2 {H : Hp} {p el rd : Addr} {first : Str} (e : H p = some (.dK (plF first el rd))) : DGet H p (.str "ends") (some (.ref el)) := by
  have z := DGet.k (k := Sum.inr ("ends" : Str)) e
  rw [pf_ends] at z
  exact z
theorem pg3 {H : Hp} {p el rd : Addr} {first : Str} (e : H p = some (.dK (plF first el rd))) : DGet H p (.str "reads") (some (.ref rd)) := by
  have z := DGet.k (k := Sum.inr ("reads" : Str)) e
  rw [pf_reads] at z
  exact z
end
end Kl
set_option maxRecDepth 100000
set_option maxHeartbeats 4000000
namespace Gx
open PySem PySem.Spec PyProof.Rows L2
section
variable {P : Program} {w : World}
/-- v holds nothing of a class statement, n levels down -/
def Plainly (P : Program) (w : World) (n : Nat) (s : Shared) (v : Value) : Prop := ∀ (A : Around) (E : Value → Shared → Prop) (Q : Bool → Shared → Prop), Q false s → wpAny (model P w) A (ofAClassStatement n v) Q E s
/-- whether the hash goes by value is told, n levels down -/
def Sayable (P : Program) (w : World) (n : Nat) (s : Shared) (v : Value) : Prop := ∀ (A : Around) (E : Value → Shared → Prop) (Q : Bool → Shared → Prop), (∀ b, Q b s) → wpAny (model P w) A (hashByValue n v) Q E s
theorem Plainly.tuple {n : Nat} {s : Shared} {a : Addr} {ob : Obj} {its : Array Value} {m : Nat} (e1 : s.heap.get? a = some ob) (e2 : ob.cls = .type "tuple") (e3 : ob.data = .seq its m) (all : ∀ v ∈ its.toList, Plainly P w n s v) : Plainly P w (n + 1) s (.ref a) := fun A E Q q => by
  have tp : s.TypeIs (.ref a) "tuple" := ⟨ob, e1, e2⟩
  unfold ofAClassStatement
  refine wpAny_bind <| wpAny_typeOf tp ?_
  dsimp only
  have same : (("tuple" : String) == "tuple") = true := by decide
  simp only [same, if_true, Bool.not_true, Bool.false_eq_true, if_false]
  try refine wpAny_bind (wpAny_pure ?_)
  try simp only [Bool.not_true, Bool.false_eq_true, if_false]
  refine wpAny_bind <| wpAny_seqItems e1 e3 ?_
  dsimp only
  refine wpAny_bind ?_
  show wpAny _ _ (forIn its _ _) _ _ s
  rw [← Array.forIn_toList]
  refine wpAny_forIn_list _ (fun left r st => (r.1 = none ∧ st = s) ∧ ∀ v ∈ left, Plainly P w n s v) _ ?_ ?_ _ _ ⟨⟨rfl, rfl⟩, all⟩
  · rintro v left r st ⟨⟨_, rfl⟩, every⟩
    refine wpAny_bind <| every v List.mem_cons_self _ _ _ ?_
    simp only [Bool.false_eq_true, if_false]
    exact wpAny_pure ⟨⟨rfl, rfl⟩, fun u m => every u (List.mem_cons_of_mem _ m)⟩
  · rintro ⟨r1, r2⟩ st ⟨⟨c, rfl⟩, _⟩
    dsimp only at c
    subst c
    exact wpAny_pure q
theorem Sayable.tuple {n : Nat} {s : Shared} {a : Addr} {ob : Obj} {its : Array Value} {m : Nat} (e1 : s.heap.get? a = some ob) (e2 : ob.cls = .type "tuple") (e3 : ob.data = .seq its m) (all : ∀ v ∈ its.toList, Sayable P w n s v) : Sayable P w (n + 1) s (.ref a) := fun A E Q q => by
  have tp : s.TypeIs (.ref a) "tuple" := ⟨ob, e1, e2⟩
  unfold hashByValue
  refine wpAny_bind <| wpAny_specialOf tp F.slot_tuple_hash.lookup ?_
  dsimp only
  refine wpAny_bind <| wpAny_seqItems e1 e3 ?_
  refine wpAny_bind ?_
  show wpAny _ _ (forIn its _ _) _ _ s
  rw [← Array.forIn_toList]
  refine wpAny_forIn_list _ (fun left r st => (r.1 = none ∧ st = s) ∧ ∀ v ∈ left, Sayable P w n s v) _ ?_ ?_ _ _ ⟨⟨rfl, rfl⟩, all⟩
  · rintro v left r st ⟨⟨_, rfl⟩, every⟩
    refine wpAny_bind <| every v List.mem_cons_self _ _ _ fun b => ?_
    cases b
    · simp only [Bool.not_false, if_true]
      exact wpAny_pure (wpAny_pure (q false))
    · simp only [Bool.not_true, Bool.false_eq_true, if_false]
      exact wpAny_pure ⟨⟨rfl, rfl⟩, fun u m => every u (List.mem_cons_of_mem _ m)⟩
  · rintro ⟨r1, r2⟩ st ⟨⟨c, rfl⟩, _⟩
    dsimp only at c
    subst c
    exact wpAny_pure (q true)
end
/-- at b stands the key k, in the true heap -/
def IsN (h : Heap) (k : NestedKey) (b : Addr) : Prop := NestedIs h k (.ref b) ∧ k.depth ≤ 8
theorem IsN.keep {h h' : Heap} {k : NestedKey} {b : Addr} (x : IsN h k b) (kp : ∀ c o its n, h.get? c = some o → o.data = .seq its n → h'.get? c = some o) : IsN h' k b := ⟨NestedIs.at kp k _ x.1, x.2⟩
abbrev NMs := List (Addr × NestedKey)
def rowsN (w : World) (L : NMs) : List (Int × Value) := L.map fun p => (p.2.hash w, Value.ref p.1)
abbrev hashN (w : World) (L : NMs) : List Int := L.map fun p => p.2.hash w
/-- the set's own object: its rows and its table -/
structure SetNAt (w : World) (h : Heap) (a : Addr) (L : NMs) (es : Array (Int × Value)) (ep : Nat) (t : SetTable) : Prop where
  here : ∃ ob, h.get? a = some ob ∧ ob.ExactSet ∧ ob.data = .set es ep t
  rows : es.toList = rowsN w L
  tab : TabOk t (hashN w L)
  once : (L.map (·.2)).Nodup
  led : w.params.followText "set-order" = true ∨ t.led = true
  room : L.length * 5 < t.mask * 3
  few : L.length < 64
section
variable {P : Program} {w : World} {A : Around} {E : Value → Shared → Prop} {s : Shared} {a : Addr} {L : NMs} {es : Array (Int × Value)} {ep : Nat} {t : SetTable}
theorem SetNAt.stays (R : SetNAt w s.heap a L es ep t) : ¬ t.gaveWay = true := by
  rw [SetTable.gaveWay, mask_odd R.tab.mok]
  decide
end
end Gx
set_option maxRecDepth 100000
set_option maxHeartbeats 4000000
namespace Gx
open PySem PySem.Spec PyProof.Rows L2
end Gx
set_option maxRecDepth 100000
set_option maxHeartbeats 4000000
namespace Gx
open PySem PySem.Spec PyProof.Rows L2
/-- what the set has of the first i keys of ks -/
structure GotN (ks : NMs) (i : Nat) (L : NMs) : Prop where
  old : ∀ p ∈ L, p ∈ ks.take i
  new : ∀ p ∈ ks.take i, p.2 ∈ L.map (·.2)
  len : L.length ≤ i
theorem GotN.more {ks L L' : NMs} {i : Nat} {x : Addr × NestedKey} (g : GotN ks i L) (e : ks[i]? = some x) (c1 : x.2 ∈ L.map (·.2) → L' = L) (c2 : x.2 ∉ L.map (·.2) → L'.Perm (x :: L)) : GotN ks (i + 1) L' := by
  have tk : ks.take (i + 1) = ks.take i ++ [x] := by rw [List.take_add_one, e]; rfl
  by_cases c : x.2 ∈ L.map (·.2)
  · rw [c1 c]
    refine ⟨fun p m => by rw [tk]; exact List.mem_append_left _ (g.old p m), fun p m => ?_, Nat.le_succ_of_le g.len⟩
    rw [tk, List.mem_append, List.mem_singleton] at m
    rcases m with m | rfl
    · exact g.new p m
    · exact c
  · have pm := c2 c
    refine ⟨fun p m => ?_, fun p m => ?_, by rw [pm.length_eq, List.length_cons]; exact Nat.succ_le_succ g.len⟩
    · rw [tk, List.mem_append, List.mem_singleton]
      rcases List.mem_cons.mp (pm.mem_iff.mp m) with z | z
      · exact .inr z
      · exact .inl (g.old p z)
    · rw [(pm.map (·.2)).mem_iff, List.map_cons, List.mem_cons]
      rw [tk, List.mem_append, List.mem_singleton] at m
      rcases m with m | rfl
      · exact .inr (g.new p m)
      · exact .inl rfl
section
variable {P : Program} {w : World} {A : Around} {E : Value → Shared → Prop} {s : Shared}
theorem SetNAt.at {h h' : Heap} {a : Addr} {L : NMs} {es : Array (Int × Value)} {ep : Nat} {t : SetTable} (R : SetNAt w h a L es ep t) (k : ∀ o, h.get? a = some o → h'.get? a = some o) : SetNAt w h' a L es ep t := by
  obtain ⟨ob, here, more⟩ := R.here
  exact ⟨⟨ob, k ob here, more⟩, R.rows, R.tab, R.once, R.led, R.room, R.few⟩
end
end Gx
set_option maxRecDepth 100000
set_option maxHeartbeats 4000000
namespace Gx
open PySem PySem.W PySem.Calls PyProof.Rows PySem.SeqAt
end Gx
set_option maxRecDepth 100000
set_option maxHeartbeats 4000000
namespace Kl
open PySem PySem.Spec PyProof.Rows L2 Gx Mx
def encT (xs : List Str) : PyData := .tuple (tD xs)
end Kl
set_option maxRecDepth 100000
set_option maxHeartbeats 4000000
namespace Kl
open PySem PySem.Spec PyProof.Rows L2 Gx Mx
/-- the members of l, each once, ascending -/
def IsDg (l ys : List (List Str)) : Prop := ys.Pairwise (fun a b => ltT b a = false) ∧ ys.Nodup ∧ ∀ z, z ∈ ys ↔ z ∈ l
theorem IsDg.unique {l xs ys : List (List Str)} (h : IsDg l xs) (g : IsDg l ys) : xs = ys :=
  List.Perm.eq_of_pairwise (le := fun a b => ltT b a = false) (fun a b _ _ h1 h2 => by
    rcases ltT_total a b with q | q | q
    · rw [q] at h2; cases h2
    · exact q
    · rw [q] at h1; cases h1) h.1 g.1 ((List.perm_ext_iff_of_nodup h.2.1 g.2.1).mpr fun z => (h.2.2 z).trans (g.2.2 z).symm)
theorem IsDg.of {l l' ys : List (List Str)} (h : IsDg l ys) (e : ∀ z, z ∈ l ↔ z ∈ l') : IsDg l' ys := ⟨h.1, h.2.1, fun z => (h.2.2 z).trans (e z)⟩
abbrev TsAt (K : PySem.W.Frag) (H : Hp) (L : List (Addr × List Str)) : Prop := ∀ p ∈ L, SqT K H p.1 (p.2.map V.str)
end Kl
set_option maxRecDepth 100000
set_option maxHeartbeats 4000000
namespace Gx
open PySem PySem.Spec PyProof.Rows L2
end Gx
set_option maxRecDepth 100000
set_option maxHeartbeats 4000000
namespace Kl
open PySem PySem.Spec PyProof.Rows L2 Gx Mx
theorem ok_app (a b : Str) : PyData.strOk (a ++ b) = (PyData.strOk a && PyData.strOk b) := by
  show (a.cps ++ b.cps).all _ = (a.cps.all _ && b.cps.all _)
  rw [Array.all_append]
structure Sm (B k : Nat) (d : PyData) : Prop where
  lay : d.canLay0 = true
  dp : d.depth ≤ k
  wt : d.weight ≤ B
  sh : d.showable = true
  is : d.intsShort 13 = true
theorem Sm.str {B k : Nat} {s : Str} (h : PyData.strOk s = true) (hl : s.length ≤ B) : Sm B k (.str s) := ⟨h, Nat.zero_le _, hl, rfl, rfl⟩
theorem Sm.all {B k : Nat} : ∀ {ds : List PyData}, (∀ d ∈ ds, Sm B k d) → PyData.canLayAll0 ds = true ∧ PyData.depthAll ds ≤ k ∧ PyData.weightAll ds ≤ ds.length * (B + 1) ∧ PyData.showableAll ds = true ∧ PyData.intsShortAll 13 ds = true
  | [], _ => ⟨rfl, Nat.zero_le _, Nat.zero_le _, rfl, rfl⟩
  | d :: ds, h => by
    obtain ⟨h1, h2, h3, h4, h5⟩ := h d List.mem_cons_self
    obtain ⟨i1, i2, i3, i4, i5⟩ := Sm.all (ds := ds) fun x hx => h x (List.mem_cons_of_mem _ hx)
    refine ⟨?_, ?_, ?_, ?_, ?_⟩
    · rw [PyData.canLayAll0, h1, i1]; rfl
    · rw [PyData.depthAll]; exact Nat.max_le.mpr ⟨h2, i2⟩
    · rw [PyData.weightAll, List.length_cons, Nat.succ_mul]
      omega
    · rw [PyData.showableAll, h4, i4]; rfl
    · rw [PyData.intsShortAll, h5, i5]; rfl
theorem Sm.tup {B k n B' k' : Nat} {ds : List PyData} (h : ∀ d ∈ ds, Sm B k d) (hn : ds.length ≤ n) (hB : n * (B + 1) ≤ B') (hk : k + 1 ≤ k') : Sm B' k' (.tuple ds) := by
  obtain ⟨i1, i2, i3, i4, i5⟩ := Sm.all h
  have hm : ds.length * (B + 1) ≤ n * (B + 1) := Nat.mul_le_mul_right _ hn
  exact ⟨i1, by rw [PyData.depth]; omega, by rw [PyData.weight]; omega, i4, i5⟩
theorem Sm.lst {B k n B' k' : Nat} {ds : List PyData} (h : ∀ d ∈ ds, Sm B k d) (hn : ds.length ≤ n) (hB : n * (B + 1) ≤ B') (hk : k + 1 ≤ k') : Sm B' k' (.list ds) := by
  obtain ⟨i1, i2, i3, i4, i5⟩ := Sm.all h
  have hm : ds.length * (B + 1) ≤ n * (B + 1) := Nat.mul_le_mul_right _ hn
  exact ⟨i1, by rw [PyData.depth]; omega, by rw [PyData.weight]; omega, i4, i5⟩
theorem Sm.int {B k n : Nat} (h : n ≤ 6) (hB : 3 ≤ B) : Sm B k (.int (n : Int)) := by
  have e : (List.range 7).all (fun n => decide (PyData.weight (.int (n : Int)) ≤ 3) && PyData.showable (.int (n : Int)) && PyData.intsShort 13 (.int (n : Int))) = true := by decide +kernel
  have e2 := List.all_eq_true.mp e n (List.mem_range.mpr (by omega))
  rw [Bool.and_eq_true, Bool.and_eq_true] at e2
  exact ⟨rfl, Nat.zero_le _, Nat.le_trans (of_decide_eq_true e2.1.1) hB, e2.1.2, e2.2⟩
/-- what repr asks of data -/
theorem Sm.repr {B k : Nat} {d : PyData} (h : Sm B k d) (hB : B ≤ 1000000) (hk : k ≤ 60) : d.showable = true ∧ d.hasDict = false ∧ d.depth ≤ 60 ∧ d.shown.length ≤ sizeLine := by
  have hl : PyData.layable0 d = true := by
    show (PyData.canLay0 d && decide (PyData.depth d ≤ 64) && decide (PyData.weight d ≤ 2 ^ 20)) = true
    rw [h.lay, decide_eq_true (show d.depth ≤ 64 from Nat.le_trans h.dp (by omega)), decide_eq_true (show d.weight ≤ 2 ^ 20 from Nat.le_trans h.wt (Nat.le_trans hB (by decide)))]
    rfl
  refine ⟨h.sh, PyData.hasDict_of_layable hl, Nat.le_trans h.dp hk, Nat.le_trans (shown_le13 hl h.is) (by decide)⟩
theorem Sm.bool {B k : Nat} (b : Bool) : Sm B k (.bool b) := ⟨rfl, Nat.zero_le _, Nat.zero_le _, rfl, rfl⟩
theorem Sm.non {B k : Nat} : Sm B k .none := ⟨rfl, Nat.zero_le _, Nat.zero_le _, rfl, rfl⟩
theorem Sm.shaped {B k : Nat} {d : PyData} (h : Sm B k d) (hk : k ≤ 64) : SeqAt.shaped d = true := by
  unfold SeqAt.shaped
  rw [Bool.and_eq_true]
  exact ⟨h.lay, decide_eq_true (Nat.le_trans h.dp hk)⟩
theorem sm_cons {B k : Nat} {d : PyData} {ds : List PyData} (h : Sm B k d) (r : ∀ e ∈ ds, Sm B k e) : ∀ e ∈ d :: ds, Sm B k e := fun e he => by
  rcases List.mem_cons.mp he with rfl | he
  · exact h
  · exact r e he
theorem sm_nil {B k : Nat} : ∀ e ∈ ([] : List PyData), Sm B k e := fun e he => nomatch he
theorem dice_sm {H H' : Hp} {d : Addr} (s : ∀ b o, H b = some o → H' b = some o) (q : DiceAt H d) : DiceAt H' d := by
  obtain ⟨x, b, c, h⟩ := q
  exact ⟨x, b, c, s _ _ h⟩
end Kl
set_option maxRecDepth 100000
set_option maxHeartbeats 4000000
namespace Gx
open PySem PySem.Spec PyProof.Rows L2
end Gx
set_option maxRecDepth 100000
set_option maxHeartbeats 4000000
namespace Kl
open PySem PySem.Spec PyProof.Rows L2 Gx Mx
theorem name_sok {z : Str} (h : nameB z = true) : PyData.strOk z = true := by
  unfold nameB at h
  rw [Bool.and_eq_true] at h
  show z.cps.all _ = true
  rw [Array.all_eq_true']
  intro c hc
  have l := List.all_eq_true.mp h.2 c (Array.mem_toList_iff.mpr hc)
  have := isLow_lt l
  exact decide_eq_true (by omega)
theorem RdOk.perm {first : Str} {ends : List Str} {R R' : Rds} (h : RdOk first ends R) (p : R'.Perm R) : RdOk first ends R' where
  ok := fun ys hys => by
    have h1 := h.ok ys ⟨hys.1, hys.2.1, fun z => (hys.2.2 z).trans (states_perm first ends p)⟩
    unfold readerB readsB at h1 ⊢
    rw [p.all_eq, p.all_eq, p.length_eq]
    exact h1
  nd := (p.map (·.1)).nodup_iff.mpr h.nd
  le := h.le
  lr := by rw [p.length_eq]; exact h.lr
  f8 := h.f8
  e8 := h.e8
  r8 := fun r m => h.r8 r (p.mem_iff.mp m)
theorem RdOk.names {first : Str} {ends : List Str} {R : Rds} (h : RdOk first ends R) : nameB first = true ∧ (∀ z ∈ ends, nameB z = true) ∧ (∀ r ∈ R, nameB r.1.1 = true ∧ (∀ y ∈ r.1.2, nameB y = true) ∧ nameB r.2 = true) ∧ ends ≠ [] := by
  obtain ⟨ys, hys⟩ := isSt_ex (statesL first ends R)
  have h1 := h.ok ys hys
  unfold readerB ascB readsB at h1
  simp only [Bool.and_eq_true, decide_eq_true_eq, List.all_eq_true] at h1
  obtain ⟨⟨⟨h2, ⟨⟨h3, _⟩, ⟨h5, _⟩⟩, _, h4⟩, _⟩, _⟩ := h1
  refine ⟨h2, h3, fun r m => ?_, fun e => by rw [e] at h5; exact absurd h5 (by simp)⟩
  have q := h4 r m
  unfold lineB digB at q
  simp only [Bool.and_eq_true, decide_eq_true_eq, List.all_eq_true] at q
  exact ⟨q.1.1, q.1.2.2.1, q.2⟩
theorem RdOk.state_sok {first : Str} {ends : List Str} {R : Rds} (h : RdOk first ends R) : ∀ z ∈ statesL first ends R, PyData.strOk z = true ∧ z.length ≤ 8 := by
  obtain ⟨n1, n2, n3, _⟩ := h.names
  intro z m
  unfold statesL at m
  rcases List.mem_cons.mp m with rfl | m
  · exact ⟨name_sok n1, h.f8⟩
  rcases List.mem_append.mp m with m | m
  · exact ⟨name_sok (n2 z m), h.e8 z m⟩
  rcases List.mem_append.mp m with m | m
  · obtain ⟨r, mr, rfl⟩ := List.mem_map.mp m
    exact ⟨name_sok (n3 r mr).1, (h.r8 r mr).1⟩
  · obtain ⟨r, mr, rfl⟩ := List.mem_map.mp m
    exact ⟨name_sok (n3 r mr).2.2, (h.r8 r mr).2.2.2⟩
theorem IsSt.perm {first : Str} {ends : List Str} {R R' : Rds} {ys : List Str} (h : IsSt (statesL first ends R') ys) (p : R'.Perm R) : IsSt (statesL first ends R) ys := ⟨h.1, h.2.1, fun z => (h.2.2 z).trans (states_perm first ends p)⟩
/-- lines that ascend stand in one order alone -/
theorem asc_unique {R S : Rds} (p : R.Perm S) (nd : (S.map (·.1)).Nodup) (h : Asc R) (g : Asc S) : R = S := by
  refine List.Perm.eq_of_pairwise (le := fun a b : KW × Str => ltK b.1 a.1 = false) (fun a b ma mb h1 h2 => ?_) h g p
  have e : a.1 = b.1 := by
    rcases ltK_total a.1 b.1 with q | q | q
    · rw [q] at h2; cases h2
    · exact q
    · rw [q] at h1; cases h1
  obtain ⟨i, hi⟩ := List.mem_iff_getElem?.mp (p.mem_iff.mp ma)
  obtain ⟨j, hj⟩ := List.mem_iff_getElem?.mp mb
  have hi' : (S.map (·.1))[i]? = some a.1 := by rw [List.getElem?_map, hi]; rfl
  have hj' : (S.map (·.1))[j]? = some a.1 := by rw [List.getElem?_map, hj, e]; rfl
  have ij := (List.getElem?_inj (List.getElem?_eq_some_iff.mp hi').1 nd).mp (hi'.trans hj'.symm)
  subst ij
  rw [hi] at hj
  exact Option.some.inj hj
theorem valV_own {R : Rds} (nd : (R.map (·.1)).Nodup) {r : KW × Str} (m : r ∈ R) : valV (R.map fun q => (q.1, V.str q.2)) r.1 = some (V.str r.2) := by
  induction R with
  | nil => cases m
  | cons x R ih =>
    rw [List.map_cons] at nd ⊢
    obtain ⟨n1, n2⟩ := List.nodup_cons.mp nd
    rcases List.mem_cons.mp m with rfl | m
    · exact valV_pos rfl
    · rw [valV_neg (p := (x.1, V.str x.2)) (fun e => n1 (List.mem_map.mpr ⟨r, m, e.symm⟩))]
      exact ih n2 m
theorem ml_keys {L : ML} {R : Rds} (e : prM L = R.map fun r => (r.1, V.str r.2)) : L.map (·.1) = R.map (·.1) := by
  have q := congrArg (List.map Prod.fst) e
  unfold prM at q
  rw [List.map_map, List.map_map] at q
  exact q
theorem dp_dgs {K : PySem.W.Frag} {H : Hp} : ∀ {L : List (Addr × List Str)}, TsAt K H L → DpAll K H (L.map fun x => V.ref x.1) ((L.map (·.2)).map encT)
  | [], _ => .nil
  | x :: L, h => .cons (.tup (h x List.mem_cons_self) (dp_texts x.2)) (dp_dgs fun y m => h y (List.mem_cons_of_mem _ m))
theorem ends_sok : ∀ {e : Str} {zs : List Str}, PyData.strOk e = true → (∀ z ∈ zs, PyData.strOk z = true) → PyData.strOk (Txt.join e zs) = true := by
  intro e zs he h
  rw [TL.join_eq]
  induction zs with
  | nil => show PyData.strOk Str.empty = true; decide +kernel
  | cons x r ih =>
    have hx := h x List.mem_cons_self
    cases r with
    | nil => exact hx
    | cons y r =>
      have i := ih fun z hz => h z (List.mem_cons_of_mem _ hz)
      show PyData.strOk (x ++ e ++ Str.join e (y :: r)) = true
      rw [ok_app, ok_app, hx, he, i]
      rfl
theorem textD_ok {q : List Str} (h : ∀ y ∈ q, PyData.strOk y = true ∧ y.length ≤ 8) (l : q.length ≤ 3) : PyData.strOk (textD q) = true ∧ (textD q).length ≤ 27 := by
  unfold textD
  split
  · exact ⟨by decide +kernel, by show 1 ≤ 27; omega⟩
  · refine ⟨ends_sok (by decide +kernel) fun z m => (h z m).1, ?_⟩
    · have := join_by (e := "+") rfl fun y m => (h y m).2
      omega
theorem RdOk.sm_lines {first : Str} {ends : List Str} {R : Rds} (h : RdOk first ends R) : ∀ z ∈ linesR first ends R, PyData.strOk z = true ∧ z.length ≤ 100 := by
  obtain ⟨n1, n2, n3, _⟩ := h.names
  have k5 : ("read " : Str).length = 5 := rfl
  have k1 : (" " : Str).length = 1 := rfl
  have k6 : ("first " : Str).length = 6 := rfl
  have k4 : ("ends" : Str).length = 4 := rfl
  intro z m
  unfold linesR at m
  rcases List.mem_cons.mp m with rfl | m
  · have := h.f8
    refine ⟨by rw [ok_app, name_sok n1]; decide +kernel, by rw [len_app, k6]; omega⟩
  rcases List.mem_cons.mp m with rfl | m
  · refine ⟨ends_sok (by decide +kernel) fun z m => ?_, ?_⟩
    · rcases List.mem_cons.mp m with rfl | m
      · decide +kernel
      · exact name_sok (n2 z m)
    · have := join_by (e := " ") rfl (m := 8) (zs := "ends" :: ends) fun z m => by
        rcases List.mem_cons.mp m with rfl | m
        · rw [k4]; omega
        · exact h.e8 z m
      rw [List.length_cons] at this
      have := h.le
      omega
  · obtain ⟨r, mr, rfl⟩ := List.mem_map.mp m
    obtain ⟨a1, a2, a3, a4⟩ := h.r8 r mr
    obtain ⟨b1, b2, b3⟩ := n3 r mr
    obtain ⟨t1, t2⟩ := textD_ok (fun y m => ⟨name_sok (b2 y m), a3 y m⟩) a2
    unfold lineR
    refine ⟨?_, ?_⟩
    · have s1 : PyData.strOk ("read " : Str) = true := by decide +kernel
      have s2 : PyData.strOk (" " : Str) = true := by decide +kernel
      rw [ok_app, ok_app, ok_app, ok_app, ok_app, s1, s2, name_sok b1, name_sok b3, t1]
      rfl
    · rw [len_app, len_app, len_app, len_app, len_app, k5, k1]
      omega
end Kl
set_option maxRecDepth 100000
set_option maxHeartbeats 4000000
namespace Kl
open PySem PySem.Spec PyProof.Rows L2 Gx Mx
theorem ix_listK {X : Cx} {K : PySem.W.Frag} (hk : X.K = K) : IxR X (rIxL K) := by
  subst hk
  exact ix_list
theorem cut_from0 {xs : List V} (n : Nat) : cutV xs (some ((n : Nat) : Int)) none = xs.drop n := by
  unfold cutV
  rw [HT.sIx_nat, HT.sIx_none]
  by_cases h : n ≤ xs.length
  · rw [Nat.min_eq_left h, List.take_of_length_le (by rw [List.length_drop]; omega)]
  · rw [Nat.min_eq_right (by omega), List.drop_of_length_le (Nat.le_refl _), List.drop_of_length_le (show xs.length ≤ n by omega), List.take_nil]
theorem at_word {zs : List Str} {i : Nat} {z : Str} (h : zs[i]? = some z) : atI (zs.map V.str) ((i : Nat) : Int) = some (.str z) := by
  have hi := (List.getElem?_eq_some_iff.mp h).1
  have e1 : ixN (zs.map V.str).length (i : Int) = some i := by
    unfold ixN
    rw [if_pos (Int.natCast_nonneg i), List.length_map]
    simp [hi]
  unfold atI
  rw [e1, Option.bind_some, List.getElem?_map, h]
  rfl
def atD (zs : List Str) (i : Nat) : Str := (zs[i]?).getD ""
def triD (zs : List Str) (i k : Nat) : List (List Str) := [atD zs i, atD zs k] :: (zs.drop k).map fun y => [atD zs i, atD zs k, y]
def rowD (zs : List Str) (i m : Nat) : List (List Str) := [atD zs i] :: (List.range m).flatMap fun k => triD zs i (i + k)
def headD (zs : List Str) (j : Nat) : List (List Str) := [] :: (List.range j).flatMap fun i => rowD zs i (zs.length - i)
def allD (zs : List Str) : List (List Str) := headD zs zs.length
theorem headD_succ (zs : List Str) (j : Nat) : headD zs (j + 1) = headD zs j ++ rowD zs j (zs.length - j) := by
  unfold headD
  rw [List.range_succ, List.flatMap_append, List.flatMap_singleton]
  rfl
theorem rowD_succ (zs : List Str) (i m : Nat) : rowD zs i (m + 1) = rowD zs i m ++ triD zs i (i + m) := by
  unfold rowD
  rw [List.range_succ, List.flatMap_append, List.flatMap_singleton]
  rfl
theorem atD_of {zs : List Str} {i : Nat} {z : Str} (h : zs[i]? = some z) : atD zs i = z := by
  unfold atD
  rw [h]
  rfl
/-- at the addresses of L stand its tuples -/
def TpsAt (K : PySem.W.Frag) (H : Hp) (L : List (Addr × List Str)) : Prop := ∀ q ∈ L, SqT K H q.1 (q.2.map V.str)
theorem TpsAt.same {K : PySem.W.Frag} {H H' : Hp} {L : List (Addr × List Str)} (h : TpsAt K H L) (s : Same H H') : TpsAt K H' L := fun q hq => sqT_same s (h q hq)
theorem TpsAt.upd_ {K : PySem.W.Frag} {G : Hp} {d : Addr} {u : HO} {L : List (Addr × List Str)} (n : ∀ ys, ¬ Rd G d (.tup ys)) (h : TpsAt K G L) : TpsAt K (upd G d u) L := fun q hq => sqT_upd n (h q hq)
theorem TpsAt.app {K : PySem.W.Frag} {H : Hp} {L M : List (Addr × List Str)} (h : TpsAt K H L) (k : TpsAt K H M) : TpsAt K H (L ++ M) := fun q hq => (List.mem_append.mp hq).elim (h q) (k q)
theorem TpsAt.one {K : PySem.W.Frag} {H : Hp} {a : Addr} {ys : List Str} (h : SqT K H a (ys.map V.str)) : TpsAt K H [(a, ys)] := fun q hq => by
  rw [List.mem_singleton.mp hq]
  exact h
section
variable {P : Program} {w : World} {K : PySem.W.Frag} {mg : Str → Option Value} {base : Heap}
def spAD (K : PySem.W.Frag) : Sp := fun vs H Q _ => ∃ (p : Addr) (zs : List Str), vs = [.ref p] ∧ SqL K H p (zs.map V.str) ∧ zs.length ≤ 3 ∧
  ∀ (l : Addr) (L : List (Addr × List Str)) (H' : Hp), Same H H' → H l = none → H' l = some (.lst (L.map fun q => V.ref q.1)) → TpsAt K H' L → L.map (·.2) = allD zs → Q (.ref l) H'
theorem ok_ad {f : Addr} {fd : FuncData} (F : Fun K "_law_all_digits" "_law_all_digits" s_law_all_digits f fd) (T : Top K mg) : FnOk P w K mg base CX0 1 f fd ["_law_names"] (spAD K) := by
  refine F.ok sc_law_all_digits (fun vs H Q E h => ?_) (fun cdv A outer s H vs Q E hr h => ?_)
  · obtain ⟨p, zs, rfl, _⟩ := h
    rfl
  · obtain ⟨p, zs, rfl, hp, hl, q⟩ := h
    refine ⟨_, pss_cut (ps_set (i := 1) sc_law_all_digits.nd rfl (.inl rfl) (pe_lst (pa_cons (pe_tup pa_nil) pa_nil)))
      (pss_cut (ps_for PassesOwn.never rfl (pi_enum (by rfl) T.b_enumerate (pa_cons (pv 0) pa_nil)) (pg_tup (n := 2) rfl (pgs_cons (pg_name (i := 2) sc_law_all_digits.nd rfl (.inl rfl)) (pgs_cons (pg_name (i := 3) sc_law_all_digits.nd rfl (.inr rfl)) pgs_nil)))
        (pss_cut (ps_expr (pe_bm PySem.F.plainAttrs_list PySem.F.slot_list_append PySem.F.type_list_append mt_append (pv 1) (pa_cons (pe_tup (pa_cons (pv 3) pa_nil)) pa_nil)))
        (pss_one (ps_for PassesOwn.never rfl (pi_range2 (by rfl) T.b_range (pa_cons (pv 2) (pa_cons (pe_callB call_len_seq (by rfl) T.b_len PySem.boot_len (pa_cons (pv 0) pa_nil)) pa_nil))) (pg_name (i := 4) sc_law_all_digits.nd rfl (.inr rfl))
          (pss_cut (ps_expr (pe_bm PySem.F.plainAttrs_list PySem.F.slot_list_append PySem.F.type_list_append mt_append (pv 1) (pa_cons (pe_tup (pa_cons (pv 3) (pa_cons (pe_ix ix_list (pv 0) (pv 4) (fun _ _ => rfl)) pa_nil))) pa_nil)))
          (pss_one (ps_expr (pe_bm PySem.F.plainAttrs_list PySem.F.slot_list_extend PySem.F.type_list_extend mt_extend (pv 1) (pa_cons (pe_lc (own := [("_law_more", 5)]) (g := gName 5) (tt := tYes) rfl sc_law_all_digits.nd (pi_list (pe_slice sl_list (pv 0) (po_some (pv 4)) po_none))
              (blkOk_by (N := ["_law_names", "_law_found", "_law_at", "_law_one", "_law_second", "_law_more"]) (sc := defScope s_law_all_digits) (by decide +kernel)) (fun _ _ _ _ _ => pg_name (i := 5) sc_law_all_digits.nd rfl (.inl rfl)) (fun _ _ _ _ _ => pts_nil)
              (fun _ _ _ _ _ => pe_tup (pa_cons (pv 3) (pa_cons (pe_ix (ix_listK (K := K) (by exact rfl)) (pv 0) (pv 4) (fun _ _ => rfl)) (pa_cons (pv 5) pa_nil))))) pa_nil)))))))))
      (pss_one (ps_ret (pv 1)))), ?_⟩
    have big : 100000 ≤ sizeLine := by decide
    refine ⟨fun σ' G => ∃ (l e : Addr), σ' = [some (.ref p), some (.ref l), none, none, none, none] ∧ H l = none ∧ G l = some (.lst [V.ref e]) ∧ SqT K G e [] ∧ Same H G, ?_, ?_⟩
    · refine ⟨Nat.zero_le _, fun e ne => ?_⟩
      have s1 := same_new (o := .tup []) (Same.refl H) ne
      have e1 : (upd H e (.tup [])) e = some (.tup []) := upd_same
      generalize upd H e (.tup []) = G1 at *
      refine ⟨by show 1 ≤ sizeLine; omega, fun l nl => ?_⟩
      have s2 := same_new (o := .lst [V.ref e]) (Same.refl G1) nl
      exact ⟨l, e, rfl, s1.free nl, upd_same, SqT.of (s2 _ _ e1), s1.trans s2⟩
    rintro σ' G1 ⟨l, e, rfl, nl, el, he, s1⟩
    refine ⟨fun σ' G => ∃ (L : List (Addr × List Str)) (t2 t3 t4 t5 : Option V), σ' = [some (.ref p), some (.ref l), t2, t3, t4, t5] ∧ G l = some (.lst (L.map fun q => V.ref q.1)) ∧ TpsAt K G L ∧ L.map (·.2) = allD zs ∧ Same H G, ?_, ?_⟩
    · refine ⟨_, rfl, p, _, rfl, sqL_sameE s1 hp, ?_⟩
      refine for_it (walk_enum (K := K) (a := p) (xs := zs.map V.str)) (fun j σ' G => ∃ (L : List (Addr × List Str)) (t2 t3 t4 t5 : Option V), σ' = [some (.ref p), some (.ref l), t2, t3, t4, t5] ∧ G l = some (.lst (L.map fun q => V.ref q.1)) ∧ TpsAt K G L ∧ L.map (·.2) = headD zs j ∧ Same H G ∧ L.length ≤ 1 + 13 * j)
        ⟨[(e, [])], none, none, none, none, rfl, el, TpsAt.one he, rfl, s1, by show 1 ≤ 1 + 13 * 0; omega⟩ (fun j σ' G _ h => by obtain ⟨_, _, _, _, _, _, _, _, _, s, _⟩ := h; exact sqL_sameE s hp) (fun j v σ' G G2 hj h hy => ?_) (fun σ' G h => ?_)
      · obtain ⟨L, t2, t3, t4, t5, rfl, eF, hT, hL, sm, lL⟩ := h
        obtain ⟨u, x, y, rfl, nu, rfl, hx, hy2⟩ := hy
        cases hx
        have hy2 : (zs.map V.str)[j]? = some y := hy2
        rw [List.getElem?_map] at hy2
        obtain ⟨z, hz, rfl⟩ := Option.map_eq_some_iff.mp hy2
        have hjz : j < zs.length := (List.getElem?_eq_some_iff.mp hz).1
        have s2 := same_new (o := .tup [V.int (j : Nat), V.str z]) (Same.refl G) nu
        have eu : (upd G u (.tup [V.int (j : Nat), V.str z])) u = some (.tup [V.int (j : Nat), V.str z]) := upd_same
        generalize upd G u (.tup [V.int (j : Nat), V.str z]) = G2 at *
        have ejz := atD_of hz
        refine ⟨u, _, rfl, SqT.of eu, rfl, _, _, rfl, _, _, rfl, rfl, ?_⟩
        refine ⟨fun σ' G3 => ∃ L : List (Addr × List Str), σ' = [some (.ref p), some (.ref l), some (.int (j : Nat)), some (.str z), t4, t5] ∧ G3 l = some (.lst (L.map fun q => V.ref q.1)) ∧ TpsAt K G3 L ∧ L.map (·.2) = headD zs j ++ rowD zs j 0 ∧ Same H G3 ∧ L.length ≤ 2 + 13 * j, ?_, ?_⟩
        · refine ⟨_, rfl, ⟨.inl ⟨rfl, _, .inl (.inl (s2 _ _ eF))⟩, ?_⟩⟩
          refine ⟨_, rfl, by show 1 ≤ sizeLine; omega, fun t nt => ?_⟩
          have s3 := same_new (o := .tup [V.str z]) (Same.refl G2) nt
          have et : (upd G2 t (.tup [V.str z])) t = some (.tup [V.str z]) := upd_same
          generalize upd G2 t (.tup [V.str z]) = G3 at *
          have eF3 := s3 _ _ (s2 _ _ eF)
          refine ⟨l, _, _, rfl, rfl, eF3, ?_, L ++ [(t, [z])], rfl, ?_, (((hT.same s2).same s3).upd_ (no_lst eF3)).app (TpsAt.one (sqT_upd (no_lst eF3) (SqT.of et))), ?_, fun b o e => ?_, ?_⟩
          · rw [List.length_map]
            omega
          · rw [upd_same, List.map_append]
            rfl
          · rw [List.map_append, hL]
            unfold rowD
            rw [ejz]
            rfl
          · rw [upd_ne (ne_of_none e nl)]
            exact s3 _ _ (s2 _ _ (sm _ _ e))
          · rw [List.length_append, List.length_singleton]
            omega
        rintro σ' G3 ⟨L3, rfl, eF3, hT3, hL3, sm3, lL3⟩
        refine ⟨_, rfl, _, rfl, p, _, rfl, .inl (sqL_sameE sm3 hp), _, _, rfl, ⟨by omega, by omega, by omega, by rw [List.length_map]; omega⟩, ?_⟩
        have en : (((zs.map V.str).length : Int) - (j : Nat)).toNat = zs.length - j := by rw [List.length_map]; omega
        rw [en]
        refine for_range (lo := (j : Nat)) (fun m σ' G4 => ∃ (L : List (Addr × List Str)) (t4 t5 : Option V), σ' = [some (.ref p), some (.ref l), some (.int (j : Nat)), some (.str z), t4, t5] ∧ G4 l = some (.lst (L.map fun q => V.ref q.1)) ∧ TpsAt K G4 L ∧ L.map (·.2) = headD zs j ++ rowD zs j m ∧ Same H G4 ∧ L.length ≤ 2 + 13 * j + 4 * m)
          ⟨L3, t4, t5, rfl, eF3, hT3, hL3, sm3, by omega⟩ (fun m σ' G4 hm hP => ?_) (fun σ' G4 hP => ?_)
        · obtain ⟨L4, y4, y5, rfl, eF4, hT4, hL4, sm4, lL4⟩ := hP
          have ek : (j : Int) + (m : Nat) = ((j + m : Nat) : Int) := by omega
          rw [ek]
          obtain ⟨y, hy⟩ : ∃ y, zs[j + m]? = some y := ⟨_, List.getElem?_eq_getElem (show j + m < zs.length by omega)⟩
          have ejy := atD_of hy
          have ld : (zs.drop (j + m)).length ≤ 3 := by rw [List.length_drop]; omega
          refine ⟨fun σ' G5 => ∃ L : List (Addr × List Str), σ' = [some (.ref p), some (.ref l), some (.int (j : Nat)), some (.str z), some (.int ((j + m : Nat) : Int)), y5] ∧ G5 l = some (.lst (L.map fun q => V.ref q.1)) ∧ TpsAt K G5 L ∧ L.map (·.2) = headD zs j ++ rowD zs j m ++ [[z, y]] ∧ Same H G5 ∧ L.length ≤ 3 + 13 * j + 4 * m, ?_, ?_⟩
          · refine ⟨_, rfl, ⟨.inl ⟨rfl, _, .inl (.inl eF4)⟩, ?_⟩⟩
            refine ⟨_, rfl, _, rfl, _, rfl, p, _, _, _, rfl, rfl, sqL_sameE sm4 hp, at_word hy, by show 2 ≤ sizeLine; omega, fun t nt => ?_⟩
            have s5 := same_new (o := .tup [V.str z, V.str y]) (Same.refl G4) nt
            have et : (upd G4 t (.tup [V.str z, V.str y])) t = some (.tup [V.str z, V.str y]) := upd_same
            generalize upd G4 t (.tup [V.str z, V.str y]) = G5 at *
            have eF5 := s5 _ _ eF4
            refine ⟨l, _, _, rfl, rfl, eF5, ?_, L4 ++ [(t, [z, y])], rfl, ?_, ((hT4.same s5).upd_ (no_lst eF5)).app (TpsAt.one (sqT_upd (no_lst eF5) (SqT.of et))), ?_, fun b o e => ?_, ?_⟩
            · rw [List.length_map]
              omega
            · rw [upd_same, List.map_append]
              rfl
            · rw [List.map_append, hL4]
              rfl
            · rw [upd_ne (ne_of_none e nl)]
              exact s5 _ _ (sm4 _ _ e)
            · rw [List.length_append, List.length_singleton]
              omega
          rintro σ' G5 ⟨L5, rfl, eF5, hT5, hL5, sm5, lL5⟩
          refine ⟨_, rfl, ⟨.inl ⟨rfl, _, .inl (.inl eF5)⟩, ?_⟩⟩
          refine ⟨_, rfl, _, rfl, _, rfl, p, _, rfl, sqL_sameE sm5 hp, fun k nk => ?_⟩
          rw [cut_from0, ← List.map_drop]
          have s6 := same_new (o := .lst ((zs.drop (j + m)).map V.str)) (Same.refl G5) nk
          have ekl : (upd G5 k (.lst ((zs.drop (j + m)).map V.str))) k = some (.lst ((zs.drop (j + m)).map V.str)) := upd_same
          generalize upd G5 k (.lst ((zs.drop (j + m)).map V.str)) = G6 at *
          have sm6 := sm5.trans s6
          refine ⟨k, rfl, ⟨_, .inl (.inl ekl)⟩, fun D hD => ?_⟩
          have eF6 := s6 _ _ eF5
          have nDl : D ≠ l := fun c => by rw [c, eF6] at hD; cases hD
          refine lc_it (walk_list (K := K) (a := k) (xs := (zs.drop (j + m)).map V.str)) (fun i G7 => ∃ M : List (Addr × List Str), G7 D = some (.lst (M.map fun q => V.ref q.1)) ∧ TpsAt K G7 M ∧ M.map (·.2) = ((zs.drop (j + m)).take i).map (fun x => [z, y, x]) ∧ Same G6 G7)
            ⟨[], upd_same, (fun x hx => nomatch hx), rfl, same_new (Same.refl G6) hD⟩ (fun i G7 _ h => by obtain ⟨_, _, _, _, sm⟩ := h; exact .inl (.inl (sm _ _ ekl))) (fun i v Gx G7 hi h hv => ?_) (fun G7 h => ?_)
          · obtain ⟨M, eD, hM, hMe, s7⟩ := h
            obtain ⟨rfl, hv⟩ := hv
            rw [List.getElem?_map] at hv
            obtain ⟨x, hx, rfl⟩ := Option.map_eq_some_iff.mp hv
            have sm7 := sm6.trans s7
            refine ⟨rfl, _, rfl, _, rfl, _, rfl, p, _, _, _, rfl, rfl, sqL_sameE sm7 hp, at_word hy, _, rfl, by show 3 ≤ sizeLine; omega, fun t nt => ?_⟩
            have s8 := same_new (o := .tup [V.str z, V.str y, V.str x]) (Same.refl G7) nt
            have et : (upd G7 t (.tup [V.str z, V.str y, V.str x])) t = some (.tup [V.str z, V.str y, V.str x]) := upd_same
            generalize upd G7 t (.tup [V.str z, V.str y, V.str x]) = G8 at *
            have eD8 := s8 _ _ eD
            have lM : M.length ≤ 3 := by
              have h4 := congrArg List.length hMe
              rw [List.length_map, List.length_map, List.length_take] at h4
              omega
            refine ⟨_, eD8, by rw [List.length_map]; omega, M ++ [(t, [z, y, x])], ?_, ((hM.same s8).upd_ (no_lst eD8)).app (TpsAt.one (sqT_upd (no_lst eD8) (SqT.of et))), ?_, fun b o e => by rw [upd_ne (ne_of_none e hD)]; exact s8 _ _ (s7 _ _ e)⟩
            · rw [upd_same, List.map_append]
              rfl
            · rw [List.map_append, hMe, List.take_add_one, hx, List.map_append]
              rfl
          · obtain ⟨M, eD, hM, hMe, s7⟩ := h
            rw [List.length_map, List.take_length] at hMe
            have eF7 := s7 _ _ eF6
            have lM : M.length ≤ 3 := by
              have h4 := congrArg List.length hMe
              rw [List.length_map, List.length_map] at h4
              omega
            refine ⟨l, D, _, _, rfl, rfl, eF7, eD, by rw [List.length_map, List.length_map]; omega, L5 ++ M, _, _, rfl, by rw [upd_same, List.map_append], (((hT5.same s6).same s7).app hM).upd_ (no_lst eF7), ?_, fun b o e => ?_, by rw [List.length_append]; omega⟩
            · rw [List.map_append, hL5, hMe, rowD_succ]
              unfold triD
              rw [ejz, ejy, List.append_assoc, List.append_assoc]
              rfl
            · rw [upd_ne (ne_of_none e nl)]
              exact s7 _ _ (sm6 _ _ e)
        · obtain ⟨L4, y4, y5, rfl, eF4, hT4, hL4, sm4, lL4⟩ := hP
          refine ⟨L4, _, _, _, _, rfl, eF4, hT4, ?_, sm4, by omega⟩
          rw [hL4, headD_succ]
      · obtain ⟨L, t2, t3, t4, t5, rfl, eF, hT, hL, sm, lL⟩ := h
        rw [List.length_map] at hL
        exact ⟨L, t2, t3, t4, t5, rfl, eF, hT, hL, sm⟩
    rintro σ' G2 ⟨L, t2, t3, t4, t5, rfl, eF, hT, hL, sm⟩
    exact ⟨_, rfl, q l L G2 sm nl eF hT hL⟩
end
end Kl
set_option maxRecDepth 100000
set_option maxHeartbeats 4000000
namespace Kl
open PySem PySem.Spec PyProof.Rows L2 Gx Mx
def NPOOL : List (List Str) := [["a"], ["a", "b"], ["a", "ab", "b"], ["b", "leaf"], ["zzzzzzzz"]]
def wordB (w : List Str) : Bool := digB w && (decide (w.length ≤ 3) && w.all fun y => decide (y.length ≤ 8) && PyData.strOk y)
theorem npool_ok : NPOOL.all (fun zs => decide (allD zs).Nodup && ((allD zs).all wordB && (decide (zs.length ≤ 3) && decide (2 ≤ (allD zs).length ∧ (allD zs).length ≤ 30)))) = true := by decide +kernel
theorem npool_of {zs : List Str} (h : zs ∈ NPOOL) : (allD zs).Nodup ∧ (∀ w ∈ allD zs, wordB w = true) ∧ zs.length ≤ 3 ∧ 2 ≤ (allD zs).length ∧ (allD zs).length ≤ 30 := by
  have e := List.all_eq_true.mp npool_ok zs h
  simp only [Bool.and_eq_true, decide_eq_true_eq] at e
  exact ⟨e.1, List.all_eq_true.mp e.2.1, e.2.2.1, e.2.2.2.1, e.2.2.2.2⟩
theorem perm_map_inv {α β : Type} {f : α → β} {ys zs : List β} (h : ys.Perm zs) : ∀ {L : List α}, zs = L.map f → ∃ L' : List α, L'.Perm L ∧ ys = L'.map f := by
  induction h with
  | nil =>
    intro L e
    exact ⟨L, .refl _, e⟩
  | cons x h ih =>
    intro L e
    cases L with
    | nil => cases e
    | cons a L =>
      rw [List.map_cons] at e
      obtain ⟨rfl, e2⟩ := List.cons.inj e
      obtain ⟨L', p, rfl⟩ := ih e2
      exact ⟨a :: L', p.cons a, rfl⟩
  | swap x y l =>
    intro L e
    cases L with
    | nil => cases e
    | cons a L =>
      cases L with
      | nil => cases e
      | cons b L =>
        rw [List.map_cons, List.map_cons] at e
        obtain ⟨rfl, e2⟩ := List.cons.inj e
        obtain ⟨rfl, rfl⟩ := List.cons.inj e2
        exact ⟨b :: a :: L, .swap a b L, rfl⟩
  | trans h1 h2 ih1 ih2 =>
    intro L e
    obtain ⟨L1, p1, e1⟩ := ih2 e
    obtain ⟨L2, p2, e2⟩ := ih1 e1
    exact ⟨L2, p2.trans p1, e2⟩
theorem sqT_sx {K : PySem.W.Frag} {G G' : Hp} {d a : Addr} {xs : List V} (hd : DiceAt G d) (s : SameX d G G') (h : SqT K G a xs) : SqT K G' a xs := by
  obtain ⟨x, b, c, e⟩ := hd
  rcases h with (h | ⟨o, h⟩) | h
  · exact .inl (.inl (s _ _ (fun z => by rw [z, e] at h; cases h) h))
  · exact .inl (.inr ⟨o, s _ _ (fun z => by rw [z, e] at h; cases h) h⟩)
  · exact .inr h
theorem TpsAt.sx {K : PySem.W.Frag} {H H' : Hp} {d : Addr} {L : List (Addr × List Str)} (hd : DiceAt H d) (h : TpsAt K H L) (s : SameX d H H') : TpsAt K H' L := fun q hq => sqT_sx hd s (h q hq)
section
variable {P : Program} {w : World} {K : PySem.W.Frag} {mg : Str → Option Value} {base : Heap}
def spSD (K : PySem.W.Frag) : Sp := fun vs H Q _ => ∃ (d : Addr) (n : Nat), vs = [.ref d, .int (n : Nat)] ∧ 0 < n ∧ n ≤ 10 ∧ DiceAt H d ∧
  ∀ (l : Addr) (L : List (Addr × List Str)) (H' : Hp), SameX d H H' → DiceAt H' d → H l = none → H' l = some (.lst (L.map fun q => V.ref q.1)) → TpsAt K H' L → (L.map (·.2)).Nodup → (∀ q ∈ L, wordB q.2 = true) → L.length ≤ n + 1 → L ≠ [] → Q (.ref l) H'
theorem ok_sd {f : Addr} {fd : FuncData} (F : Fun K "_law_some_digits" "_law_some_digits" s_law_some_digits f fd) (T : Top K mg) : FnOk P w K mg base CX0 3 f fd ["_law_dice_here", "_law_most"] (spSD K) := by
  have cr : Cal P w K mg base 1 "_law_roll" ["_law_dice_here", "_law_total"] spRoll := T.d_law_roll.cal fun f fd F => ok_roll F T
  have cp : Cal P w K mg base 2 "_law_pick" ["_law_dice_here", "_law_items"] (spPick K) := T.d_law_pick.cal fun f fd F => ok_pick F T
  have cm : Cal P w K mg base 2 "_law_mixed" ["_law_dice_here", "_law_items"] (spMixV K) := T.d_law_mixed.cal fun f fd F => ok_mixV F T
  have ca : Cal P w K mg base 1 "_law_all_digits" ["_law_names"] (spAD K) := T.d_law_all_digits.cal fun f fd F => ok_ad F T
  refine F.ok sc_law_some_digits (fun vs H Q E h => ?_) (fun cdv A outer s H vs Q E hr h => ?_)
  · obtain ⟨d, n, rfl, _⟩ := h
    rfl
  · obtain ⟨d, n, rfl, h0, hn, hd, q⟩ := h
    refine ⟨_, pss_cut (ps_set (i := 2) sc_law_some_digits.nd rfl (.inl rfl) (pe_cal cp hr (by rfl) (pa_cons (pv 0) (pa_cons (pe_lst
          (pa_cons (pe_lst (pa_cons pe_str pa_nil)) (pa_cons (pe_lst (pa_cons pe_str (pa_cons pe_str pa_nil))) (pa_cons (pe_lst (pa_cons pe_str (pa_cons pe_str (pa_cons pe_str pa_nil))))
            (pa_cons (pe_lst (pa_cons pe_str (pa_cons pe_str pa_nil))) (pa_cons (pe_lst (pa_cons pe_str pa_nil)) pa_nil)))))) pa_nil))))
      (pss_cut (ps_set (i := 3) sc_law_some_digits.nd rfl (.inl rfl) (pe_cal cm hr (by rfl) (pa_cons (pv 0) (pa_cons (pe_slice sl_list (pe_cal ca (hr.mono (by decide)) (by rfl) (pa_cons (pv 2) pa_nil)) (po_some pe_int) po_none) pa_nil))))
      (pss_one (ps_ret (pe_op op_cat (pe_op op_rep (pe_lst (pa_cons (pe_tup pa_nil) pa_nil)) (pe_callTy call_int1 (by rfl) T.b_int (by decide +kernel) (pa_cons (pe_cmpR op_gt (pe_cal cr (hr.mono (by decide)) (by rfl) (pa_cons (pv 0) (pa_cons pe_int pa_nil))) pe_int (nomark _)) pa_nil)))
        (pe_slice sl_list (pv 3) po_none (po_some (pe_op op_add pe_int (pe_cal cr (hr.mono (by decide)) (by rfl) (pa_cons (pv 0) (pa_cons (pv 1) pa_nil)))))))))), ?_⟩
    have big : 100000 ≤ sizeLine := by decide
    refine ⟨fun σ' G => ∃ (p : Addr) (zs : List Str), σ' = [some (.ref d), some (.int (n : Nat)), some (.ref p), none] ∧ zs ∈ NPOOL ∧ G p = some (.lst (zs.map V.str)) ∧ SameX d H G ∧ DiceAt G d, ?_, ?_⟩
    · refine ⟨_, rfl, ?_⟩
      refine ⟨by show 1 ≤ sizeLine; omega, fun p1 n1 => ?_⟩
      have s1 := same_new (o := .lst [V.str "a"]) (Same.refl H) n1
      have e1 : (upd H p1 (.lst [V.str "a"])) p1 = some (.lst [V.str "a"]) := upd_same
      generalize upd H p1 (.lst [V.str "a"]) = G1 at *
      refine ⟨by show 2 ≤ sizeLine; omega, fun p2 n2 => ?_⟩
      have s2 := same_new (o := .lst [V.str "a", V.str "b"]) (Same.refl G1) n2
      have e2 : (upd G1 p2 (.lst [V.str "a", V.str "b"])) p2 = some (.lst [V.str "a", V.str "b"]) := upd_same
      generalize upd G1 p2 (.lst [V.str "a", V.str "b"]) = G2 at *
      refine ⟨by show 3 ≤ sizeLine; omega, fun p3 n3 => ?_⟩
      have s3 := same_new (o := .lst [V.str "a", V.str "ab", V.str "b"]) (Same.refl G2) n3
      have e3 : (upd G2 p3 (.lst [V.str "a", V.str "ab", V.str "b"])) p3 = some (.lst [V.str "a", V.str "ab", V.str "b"]) := upd_same
      generalize upd G2 p3 (.lst [V.str "a", V.str "ab", V.str "b"]) = G3 at *
      refine ⟨by show 2 ≤ sizeLine; omega, fun p4 n4 => ?_⟩
      have s4 := same_new (o := .lst [V.str "b", V.str "leaf"]) (Same.refl G3) n4
      have e4 : (upd G3 p4 (.lst [V.str "b", V.str "leaf"])) p4 = some (.lst [V.str "b", V.str "leaf"]) := upd_same
      generalize upd G3 p4 (.lst [V.str "b", V.str "leaf"]) = G4 at *
      refine ⟨by show 1 ≤ sizeLine; omega, fun p5 n5 => ?_⟩
      have s5 := same_new (o := .lst [V.str "zzzzzzzz"]) (Same.refl G4) n5
      have e5 : (upd G4 p5 (.lst [V.str "zzzzzzzz"])) p5 = some (.lst [V.str "zzzzzzzz"]) := upd_same
      generalize upd G4 p5 (.lst [V.str "zzzzzzzz"]) = G5 at *
      have s45 := s5
      have s35 := s4.trans s5
      have s25 := s3.trans s35
      have s15 := s2.trans s25
      have s05 := s1.trans s15
      refine ⟨by show 5 ≤ sizeLine; omega, fun pp np => ?_⟩
      have s6 := same_new (o := .lst [V.ref p1, V.ref p2, V.ref p3, V.ref p4, V.ref p5]) (Same.refl G5) np
      have e6 : (upd G5 pp (.lst [V.ref p1, V.ref p2, V.ref p3, V.ref p4, V.ref p5])) pp = some (.lst [V.ref p1, V.ref p2, V.ref p3, V.ref p4, V.ref p5]) := upd_same
      generalize upd G5 pp (.lst [V.ref p1, V.ref p2, V.ref p3, V.ref p4, V.ref p5]) = G6 at *
      have s06 := s05.trans s6
      obtain ⟨x0, b0, c0, e0⟩ := id hd
      have e06 := s06 _ _ e0
      have ndl : ∀ {a : Addr} {xs : List V}, G6 a = some (.lst xs) → (∀ i j k : Int, xs ≠ [V.int i, V.int j, V.int k]) → a ≠ d := fun {a} {xs} e n c => by
        rw [c, e06] at e
        exact n _ _ _ (HO.lst.inj (Option.some.inj e)).symm
      refine ⟨d, _, _, rfl, ⟨_, _, _, e06⟩, .inl ⟨pp, rfl, ndl e6 (fun i j k c => by cases c), .inl (.inl (.inl e6))⟩, (fun c => by cases c), by show 5 ≤ 100000; omega, fun v x b c hv => ?_⟩
      have fin : ∀ (r : Addr) (zs : List Str), zs ∈ NPOOL → G6 r = some (.lst (zs.map V.str)) → ∃ (p : Addr) (zs : List Str), [some (.ref d), some (.int (n : Nat)), some (V.ref r), none] = [some (.ref d), some (.int (n : Nat)), some (.ref p), none] ∧ zs ∈ NPOOL ∧ (upd G6 d (.lst [V.int x, V.int b, V.int c])) p = some (.lst (zs.map V.str)) ∧ SameX d H (upd G6 d (.lst [V.int x, V.int b, V.int c])) ∧ DiceAt (upd G6 d (.lst [V.int x, V.int b, V.int c])) d := fun r zs hz er => by
        have nr : r ≠ d := fun c => by
          rw [c, e06] at er
          have e := HO.lst.inj (Option.some.inj er)
          cases zs with
          | nil => cases e
          | cons y ys => cases e
        exact ⟨r, zs, rfl, hz, by rw [upd_ne nr]; exact er, (SameX.of s06).atd, ⟨_, _, _, upd_same⟩⟩
      have m1 : (["a"] : List Str) ∈ NPOOL := by decide +kernel
      have m2 : (["a", "b"] : List Str) ∈ NPOOL := by decide +kernel
      have m3 : (["a", "ab", "b"] : List Str) ∈ NPOOL := by decide +kernel
      have m4 : (["b", "leaf"] : List Str) ∈ NPOOL := by decide +kernel
      have m5 : (["zzzzzzzz"] : List Str) ∈ NPOOL := by decide +kernel
      simp only [List.mem_cons, List.not_mem_nil, or_false] at hv
      rcases hv with rfl | rfl | rfl | rfl | rfl
      · exact fin p1 _ m1 (s6 _ _ (s15 _ _ e1))
      · exact fin p2 _ m2 (s6 _ _ (s25 _ _ e2))
      · exact fin p3 _ m3 (s6 _ _ (s35 _ _ e3))
      · exact fin p4 _ m4 (s6 _ _ (s45 _ _ e4))
      · exact fin p5 _ m5 (s6 _ _ e5)
    rintro σ' G1 ⟨p, zs, rfl, hz, ep, sx1, hd1⟩
    obtain ⟨ndA, okA, lz, lA2, lA⟩ := npool_of hz
    refine ⟨fun σ' G => ∃ (o : Addr) (L : List (Addr × List Str)), σ' = [some (.ref d), some (.int (n : Nat)), some (.ref p), some (.ref o)] ∧ G o = some (.lst (L.map fun q => V.ref q.1)) ∧ TpsAt K G L ∧ (L.map (·.2)).Perm ((allD zs).drop 1) ∧ SameX d H G ∧ DiceAt G d, ?_, ?_⟩
    · refine ⟨_, rfl, _, rfl, p, zs, rfl, .inl (.inl ep), lz, fun l L G2 s2 nl el hL eL => ?_⟩
      refine ⟨_, rfl, l, _, rfl, .inl (.inl el), fun k nk => ?_⟩
      have ec : cutV (L.map fun q => V.ref q.1) (some 1) none = (L.drop 1).map fun q => V.ref q.1 := by
        rw [List.map_drop]
        exact cut_from0 1
      rw [ec]
      have s3 := same_new (o := .lst ((L.drop 1).map fun q => V.ref q.1)) (Same.refl G2) nk
      have ek : (upd G2 k (.lst ((L.drop 1).map fun q => V.ref q.1))) k = some (.lst ((L.drop 1).map fun q => V.ref q.1)) := upd_same
      generalize upd G2 k (.lst ((L.drop 1).map fun q => V.ref q.1)) = G3 at *
      have s13 := s2.trans s3
      have hd3 : DiceAt G3 d := by
        obtain ⟨x, b, c, e⟩ := hd1
        exact ⟨x, b, c, s13 _ _ e⟩
      have nk1 : G1 k = none := s2.free nk
      have nkd : k ≠ d := dice_ne hd1 nk1
      have lLL : L.length ≤ 30 := by
        have := congrArg List.length eL
        rw [List.length_map] at this
        omega
      refine ⟨d, k, _, rfl, hd3, .inl (.inl (.inl ek)), by rw [List.length_map, List.length_drop]; omega, fun o G4 ys hperm no eo sx4 hd4 => ?_⟩
      obtain ⟨L', pL, rfl⟩ := perm_map_inv hperm rfl
      refine ⟨o, L', rfl, eo, ?_, ?_, (sx1.trans (SameX.of s13)).trans sx4, hd4⟩
      · have h3 : TpsAt K G3 L := hL.same s3
        exact fun q hq => sqT_sx hd3 sx4 (h3 q (List.mem_of_mem_drop (pL.mem_iff.mp hq)))
      · have e := pL.map (·.2)
        rw [List.map_drop, eL] at e
        exact e
    rintro σ' G2 ⟨o, L, rfl, eo, hL, pL, sx2, hd2⟩
    have lL : L.length ≤ 30 := by
      have := pL.length_eq
      rw [List.length_map, List.length_drop] at this
      omega
    refine ⟨Nat.zero_le _, fun e ne => ?_⟩
    have s3 := same_new (o := .tup []) (Same.refl G2) ne
    have ee : (upd G2 e (.tup [])) e = some (.tup []) := upd_same
    generalize upd G2 e (.tup []) = G3 at *
    refine ⟨by show 1 ≤ sizeLine; omega, fun t nt => ?_⟩
    have s4 := same_new (o := .lst [V.ref e]) (Same.refl G3) nt
    have et : (upd G3 t (.lst [V.ref e])) t = some (.lst [V.ref e]) := upd_same
    generalize upd G3 t (.lst [V.ref e]) = G4 at *
    have s24 := s3.trans s4
    have hd4 : DiceAt G4 d := by
      obtain ⟨x, b, c, e⟩ := hd2
      exact ⟨x, b, c, s24 _ _ e⟩
    have ntd : t ≠ d := by
      obtain ⟨x, b, c, e0⟩ := hd4
      intro c
      rw [c, e0] at et
      cases HO.lst.inj (Option.some.inj et)
    have nod : o ≠ d := by
      obtain ⟨x, b, c, e0⟩ := hd2
      intro c
      rw [c, e0] at eo
      have := HO.lst.inj (Option.some.inj eo)
      cases L with
      | nil => cases this
      | cons q L => cases this
    refine ⟨_, rfl, d, 4, rfl, hd4, by decide, by decide, fun r x b c r0 r1 => ?_⟩
    refine ⟨_, _, rfl, rfl, .inr ⟨_, rfl, ?_⟩⟩
    obtain ⟨m, hm, em⟩ : ∃ m : Nat, m ≤ 1 ∧ (if decide (0 < r) = true then (1 : Int) else 0) = (m : Nat) := by
      by_cases c : 0 < r
      · exact ⟨1, by omega, by rw [decide_eq_true c]; rfl⟩
      · exact ⟨0, by omega, by rw [decide_eq_false c]; rfl⟩
    rw [em]
    have ef : (List.replicate ((m : Nat) : Int).toNat [V.ref e]).flatten = (List.replicate m (e, ([] : List Str))).map fun q => V.ref q.1 := by
      rcases (show m = 0 ∨ m = 1 by omega) with rfl | rfl
      · rfl
      · rfl
    have hd5 : DiceAt (upd G4 d (.lst [V.int x, V.int b, V.int c])) d := ⟨_, _, _, upd_same⟩
    have sx5 : SameX d G4 (upd G4 d (.lst [V.int x, V.int b, V.int c])) := (SameX.refl d G4).atd
    have et5 := sx5 _ _ ntd et
    generalize upd G4 d (.lst [V.int x, V.int b, V.int c]) = G5 at *
    refine ⟨t, _, _, rfl, rfl, et5, by omega, by omega, ?_, fun l1 n1 => ?_⟩
    · show 1 * ((m : Nat) : Int).toNat ≤ sizeLine
      omega
    rw [ef]
    have s6 := same_new (o := .lst ((List.replicate m (e, ([] : List Str))).map fun q => V.ref q.1)) (Same.refl G5) n1
    have e16 : (upd G5 l1 (.lst ((List.replicate m (e, ([] : List Str))).map fun q => V.ref q.1))) l1 = some (.lst ((List.replicate m (e, ([] : List Str))).map fun q => V.ref q.1)) := upd_same
    have n1d : l1 ≠ d := dice_ne hd5 n1
    generalize upd G5 l1 (.lst ((List.replicate m (e, ([] : List Str))).map fun q => V.ref q.1)) = G6 at *
    have hd6 : DiceAt G6 d := by
      obtain ⟨x, b, c, e⟩ := hd5
      exact ⟨x, b, c, s6 _ _ e⟩
    refine ⟨_, rfl, _, rfl, _, rfl, d, _, rfl, hd6, by omega, log2_small (by omega), fun r2 x2 b2 c2 h20 h21 => ?_⟩
    obtain ⟨k2, rfl⟩ := Int.eq_ofNat_of_zero_le h20
    have hd7 : DiceAt (upd G6 d (.lst [V.int x2, V.int b2, V.int c2])) d := ⟨_, _, _, upd_same⟩
    have sx7 : SameX d G6 (upd G6 d (.lst [V.int x2, V.int b2, V.int c2])) := (SameX.refl d G6).atd
    generalize upd G6 d (.lst [V.int x2, V.int b2, V.int c2]) = G7 at *
    have sx47 : SameX d G4 G7 := (sx5.trans (SameX.of s6)).trans sx7
    have eo7 := sx47 _ _ nod (s24 _ _ eo)
    refine ⟨_, _, rfl, rfl, _, rfl, o, _, rfl, .inl (.inl eo7), fun l2 n2 => ?_⟩
    have ec : cutV (L.map fun q => V.ref q.1) none (some (1 + (k2 : Int))) = (L.take (1 + k2)).map fun q => V.ref q.1 := by
      rw [List.map_take, show (1 : Int) + (k2 : Int) = ((1 + k2 : Nat) : Int) by omega]
      exact cut_to0 (1 + k2)
    rw [ec]
    have n2d : l2 ≠ d := dice_ne hd7 n2
    have s8 := same_new (o := .lst ((L.take (1 + k2)).map fun q => V.ref q.1)) (Same.refl G7) n2
    have e28 : (upd G7 l2 (.lst ((L.take (1 + k2)).map fun q => V.ref q.1))) l2 = some (.lst ((L.take (1 + k2)).map fun q => V.ref q.1)) := upd_same
    generalize upd G7 l2 (.lst ((L.take (1 + k2)).map fun q => V.ref q.1)) = G8 at *
    have e18 := s8 _ _ (sx7 _ _ n1d e16)
    have hd8 : DiceAt G8 d := by
      obtain ⟨x, b, c, e⟩ := hd7
      exact ⟨x, b, c, s8 _ _ e⟩
    have sx48 : SameX d G4 G8 := sx47.trans (SameX.of s8)
    have lt : (L.take (1 + k2)).length ≤ n := by
      rw [List.length_take]
      omega
    refine ⟨l1, l2, _, _, rfl, rfl, e18, e28, by rw [List.length_map, List.length_map, List.length_replicate]; omega, fun l3 n3 => ?_⟩
    rw [← List.map_append]
    have s9 := same_new (o := .lst ((List.replicate m (e, ([] : List Str)) ++ L.take (1 + k2)).map fun q => V.ref q.1)) (Same.refl G8) n3
    have hsx : SameX d H G8 := (sx2.trans (SameX.of s24)).trans sx48
    have n3d : l3 ≠ d := dice_ne hd8 n3
    refine q l3 (List.replicate m (e, ([] : List Str)) ++ L.take (1 + k2)) _ (hsx.trans (SameX.of s9)) (by obtain ⟨x, b, c, e⟩ := hd8; exact ⟨x, b, c, s9 _ _ e⟩) (hsx.free n3d n3) upd_same ?_ ?_ ?_ ?_ ?_
    · refine TpsAt.app (fun q0 hq => ?_) (fun q0 hq => ?_)
      · rw [List.eq_of_mem_replicate hq]
        exact sqT_same s9 (sqT_sx hd4 sx48 (SqT.of (s4 _ _ ee)))
      · exact sqT_same s9 (sqT_sx hd4 sx48 (sqT_same s24 (hL q0 (List.mem_of_mem_take hq))))
    · have nd1 : ((allD zs).drop 1).Nodup := ndA.sublist (List.drop_sublist _ _)
      have ndL : (L.map (·.2)).Nodup := pL.nodup_iff.mpr nd1
      have n0 : ([] : List Str) ∉ L.map (·.2) := fun hc => by
        have h1 := pL.mem_iff.mp hc
        exact (List.nodup_cons.mp ndA).1 h1
      rcases (show m = 0 ∨ m = 1 by omega) with rfl | rfl
      · show ((L.take (1 + k2)).map (·.2)).Nodup
        rw [List.map_take]
        exact ndL.sublist (List.take_sublist _ _)
      · show ([] :: (L.take (1 + k2)).map (·.2)).Nodup
        rw [List.map_take]
        exact List.nodup_cons.mpr ⟨fun hc => n0 (List.mem_of_mem_take hc), ndL.sublist (List.take_sublist _ _)⟩
    · intro q0 hq
      rcases List.mem_append.mp hq with hq | hq
      · rw [List.eq_of_mem_replicate hq]
        exact okA [] List.mem_cons_self
      · exact okA _ (List.mem_of_mem_drop (pL.mem_iff.mp (List.mem_map.mpr ⟨q0, List.mem_of_mem_take hq, rfl⟩)))
    · rw [List.length_append, List.length_replicate]
      omega
    · intro z
      have e := congrArg List.length z
      rw [List.length_append, List.length_take, List.length_nil] at e
      have ll := pL.length_eq
      rw [List.length_map, List.length_drop] at ll
      omega
end
end Kl
set_option maxRecDepth 100000
set_option maxHeartbeats 4000000
namespace Kl
open PySem PySem.Spec PyProof.Rows L2 Gx Mx
theorem ten_name {z : Str} (h : z ∈ TENS) : nameB z = true := List.all_eq_true.mp tens_ok z h
theorem ten_len {z : Str} (h : z ∈ TENS) : z.length ≤ 8 := of_decide_eq_true (List.all_eq_true.mp tens_short z h)
/-- what a draw gives of a line -/
def LineOk (first : Str) (sm ends : List Str) (r : KW × Str) : Prop := r.1.1 ∈ first :: sm ∧ wordB r.1.2 = true ∧ r.2 ∈ sm ∧ (r.1.2 = [] → r.2 ∉ ends)
theorem rdOk_of {first : Str} {sm ends : List Str} {R : Rds} (nd : (first :: sm).Nodup) (ten : ∀ z ∈ first :: sm, z ∈ TENS) (l6 : sm.length ≤ 5) (es : sortedS ends = true) (en : ends.Nodup) (e0 : ends ≠ []) (esub : ∀ z ∈ ends, z ∈ sm)
    (rn : (R.map (·.1)).Nodup) (rl : R.length ≤ 40) (rk : ∀ r ∈ R, LineOk first sm ends r) : RdOk first ends R := by
  have word : ∀ r ∈ R, digB r.1.2 = true ∧ r.1.2.length ≤ 3 ∧ ∀ y ∈ r.1.2, y.length ≤ 8 := fun r hr => by
    have h := (rk r hr).2.1
    unfold wordB at h
    simp only [Bool.and_eq_true, decide_eq_true_eq, List.all_eq_true] at h
    exact ⟨h.1, h.2.1, fun y hy => (h.2.2 y hy).1⟩
  have hsm : ∀ z ∈ sm, z ∈ TENS := fun z hz => ten z (List.mem_cons_of_mem _ hz)
  have nf : first ∉ sm := (List.nodup_cons.mp nd).1
  refine ⟨fun ys hys => ?_, rn, ?_, rl, ten_len (ten _ List.mem_cons_self), fun z hz => ten_len (hsm z (esub z hz)), fun r hr => ?_⟩
  · have ly : ys.length ≤ (first :: sm).length := nodup_le hys.2.1 fun z hz => by
      have h := (hys.2.2 z).mp hz
      unfold statesL at h
      rcases List.mem_cons.mp h with rfl | h
      · exact List.mem_cons_self
      rcases List.mem_append.mp h with h | h
      · exact List.mem_cons_of_mem _ (esub z h)
      rcases List.mem_append.mp h with h | h
      · obtain ⟨r, hr, rfl⟩ := List.mem_map.mp h
        exact (rk r hr).1
      · obtain ⟨r, hr, rfl⟩ := List.mem_map.mp h
        exact List.mem_cons_of_mem _ (rk r hr).2.2.1
    rw [List.length_cons] at ly
    have ha : ascB ends = true := by
      unfold ascB
      have h1 : ends.all nameB = true := List.all_eq_true.mpr fun z hz => ten_name (hsm z (esub z hz))
      have h2 : 0 < ends.length := List.length_pos_iff.mpr e0
      rw [h1, es, decide_eq_true h2, decide_eq_true en]
      rfl
    have hr : readsB R = true := by
      unfold readsB
      have h1 : R.all lineB = true := List.all_eq_true.mpr fun r hr => by
        unfold lineB
        rw [ten_name (ten _ (rk r hr).1), (word r hr).1, ten_name (hsm _ (rk r hr).2.2.1)]
        rfl
      rw [h1, decide_eq_true (show (R.length : Int) ≤ 40 by omega)]
      rfl
    have hg : R.all (goodB first ends) = true := List.all_eq_true.mpr fun r hr => by
      obtain ⟨_, _, k3, k4⟩ := rk r hr
      unfold goodB
      have h1 : decide (r.2 = first) = false := decide_eq_false fun c => nf (c ▸ k3)
      have h2 : (decide (r.2 ∈ ends) && r.1.2.isEmpty) = false := by
        cases c : r.1.2 with
        | nil => rw [decide_eq_false (k4 c)]; rfl
        | cons y ys => exact Bool.and_false _
      rw [h1, h2]
      rfl
    unfold readerB
    rw [ten_name (ten _ List.mem_cons_self), ha, hr, hg, decide_eq_false (fun c => nf (esub _ c)), decide_eq_true (show (ys.length : Int) ≤ 6 by omega)]
    rfl
  · have := nodup_le en esub
    omega
  · obtain ⟨k1, _, k3, _⟩ := rk r hr
    exact ⟨ten_len (ten _ k1), (word r hr).2.1, (word r hr).2.2, ten_len (hsm _ k3)⟩
end Kl
set_option maxRecDepth 100000
set_option maxHeartbeats 4000000
namespace Kl
open PySem PySem.Spec PyProof.Rows L2 Gx Mx
theorem merge_new : ∀ (more kvs : List (Key × V)), (more.map (·.1)).Nodup → (∀ k ∈ more.map (·.1), valV kvs k = none) → mergeK kvs more = kvs ++ more
  | [], kvs, _, _ => by unfold mergeK; rw [List.foldl_nil, List.append_nil]
  | p :: r, kvs, nd, hn => by
    rw [List.map_cons, List.nodup_cons] at nd
    have e : mergeK kvs (p :: r) = mergeK (putK kvs p.1 p.2) r := rfl
    have e0 : valV kvs p.1 = none := hn _ (by rw [List.map_cons]; exact List.mem_cons_self)
    rw [e, putK_new _ e0, merge_new r _ nd.2 fun k hk => ?_, List.append_assoc]
    · rfl
    · have hk0 := hn k (by rw [List.map_cons]; exact List.mem_cons_of_mem _ hk)
      rw [valV_snoc _ _ _ _ e0, if_neg (fun (q : k = p.1) => nd.1 (by rw [← q]; exact hk)), hk0]
theorem merge_nil {more : List (Key × V)} (nd : (more.map (·.1)).Nodup) : mergeK [] more = more := merge_new more [] nd fun _ _ => rfl
theorem tens_sok : TENS.all PyData.strOk = true := by decide +kernel
theorem ten_sok {z : Str} (h : z ∈ TENS) : PyData.strOk z = true := List.all_eq_true.mp tens_sok z h
/-- all but d and rd stays -/
def Two (d rd : Addr) (H H' : Hp) : Prop := ∀ b u, b ≠ d → b ≠ rd → H b = some u → H' b = some u
theorem sqT_two {K : PySem.W.Frag} {G G' : Hp} {d rd a : Addr} {xs : List V} (hd : DiceAt G d) (nr : ∀ ys, ¬ Rd G rd (.tup ys)) (t : Two d rd G G') (h : SqT K G a xs) : SqT K G' a xs := by
  obtain ⟨x, b, c, e⟩ := hd
  rcases h with (h | ⟨o, h⟩) | h
  · exact .inl (.inl (t _ _ (fun z => by rw [z, e] at h; cases h) (fun z => nr xs (z ▸ .inl h)) h))
  · exact .inl (.inr ⟨o, t _ _ (fun z => by rw [z, e] at h; cases h) (fun z => nr xs (z ▸ .inr ⟨o, h⟩)) h⟩)
  · exact .inr h
theorem no_dn {P : Program} {w : World} {G : Hp} {d : Addr} {L : NL} (e : G d = some (DN P w d L)) : ∀ ys, ¬ Rd G d (.tup ys) := fun ys h => by
  rcases h with h | ⟨o, h⟩
  · rw [e] at h; cases h
  · rw [e] at h; cases h
theorem RDict.two {P : Program} {w : World} {K : PySem.W.Frag} {G G' : Hp} {d rd : Addr} {R : Rds} (h : RDict P w K G rd R) (hd : DiceAt G d) (t : SameX d G G') (n : rd ≠ d) : RDict P w K G' rd R := by
  obtain ⟨M, h1, h2, h3⟩ := h
  exact ⟨M, t _ _ n h1, fun x hx => (h2 x hx).mono fun _ _ z => sqT_sx hd t z, h3⟩
abbrev NPR : List Str := ["_law_dice_here", "_law_states", "_law_digits", "_law_names", "_law_some", "_law_reads", "_law_ends", "_law_calm", "_law_state", "_law_digit", "_law_pool"]
section
variable {P : Program} {w : World} {K : PySem.W.Frag} {mg : Str → Option Value} {base : Heap}
def spPR (P : Program) (w : World) (K : PySem.W.Frag) : Sp := fun vs H Q _ => ∃ (d g : Addr) (m : Nat) (L : List (Addr × List Str)), vs = [.ref d, .int (m : Nat), .ref g] ∧ 3 ≤ m ∧ m ≤ 6 ∧ DiceAt H d ∧ H g = some (.lst (L.map fun q => V.ref q.1)) ∧ TpsAt K H L ∧ (L.map (·.2)).Nodup ∧ (∀ q ∈ L, wordB q.2 = true) ∧ L.length ≤ 5 ∧
  ∀ (p el rd : Addr) (first : Str) (ends : List Str) (R : Rds) (H' : Hp), SameX d H H' → DiceAt H' d → PlainAt P w K H' p el rd first ends R → RdOk first ends R → (∀ r ∈ R, ∀ y ∈ r.1.2, PyData.strOk y = true) → (∀ z ∈ statesL first ends R, z ∈ TENS) → R.length ≤ 30 → Q (.ref p) H'
theorem ok_pr {f : Addr} {fd : FuncData} (F : Fun K "_law_plain_reader" "_law_plain_reader" s_law_plain_reader f fd) (T : Top K mg) : FnOk P w K mg base CX0 4 f fd ["_law_dice_here", "_law_states", "_law_digits"] (spPR P w K) := by
  have cr : Cal P w K mg base 1 "_law_roll" ["_law_dice_here", "_law_total"] spRoll := T.d_law_roll.cal fun f fd F => ok_roll F T
  have cp : Cal P w K mg base 2 "_law_pick" ["_law_dice_here", "_law_items"] (spPick K) := T.d_law_pick.cal fun f fd F => ok_pick F T
  have cs : Cal P w K mg base 3 "_law_state_names" ["_law_dice_here", "_law_many"] spSN := T.d_law_state_names.cal fun f fd F => ok_sn F T
  refine F.ok sc_law_plain_reader (fun vs H Q E h => ?_) (fun cdv A outer s H vs Q E hr h => ?_)
  · obtain ⟨d, g, m, L, rfl, _⟩ := h
    rfl
  · obtain ⟨d, g, m, L, rfl, m3, m6, hd, eg, hL, ndL, okL, lL, q⟩ := h
    refine ⟨_, pss_cut (ps_set (i := 3) sc_law_plain_reader.nd rfl (.inl rfl) (pe_cal cs hr (by rfl) (pa_cons (pv 0) (pa_cons (pe_op op_add pe_int (pe_cal cr (hr.mono (by decide)) (by rfl) (pa_cons (pv 0) (pa_cons (pe_op op_sub (pv 1) pe_int) pa_nil)))) pa_nil))))
      (pss_cut (ps_par (i := 4) (j := 5) rfl sc_law_plain_reader.nd rfl rfl (by decide) rfl rfl (pa_cons (pe_slice sl_list (pv 3) (po_some pe_int) po_none) (pa_cons (pe_nnew (P := P) (w := w) (K := K) (by exact ⟨rfl, rfl, rfl⟩)) pa_nil)) rfl)
      (pss_cut (ps_set (i := 6) sc_law_plain_reader.nd rfl (.inr rfl) (pe_callB cr_sortedS (by rfl) T.b_sorted (by decide +kernel) (pa_cons (pe_lc (own := [("_law_state", 8)]) (g := gName 8) rfl sc_law_plain_reader.nd (pi_list (pv 4))
          (blkOk_by (N := NPR) (sc := defScope s_law_plain_reader) (by decide +kernel)) (fun _ _ _ _ _ => pg_name (i := 8) sc_law_plain_reader.nd rfl (.inl rfl))
          (fun _ _ _ _ _ => pts_one (pt_cmpR op_eq (pe_cal cr (hr.mono (by decide)) (by rfl) (pa_cons (pv 0) (pa_cons pe_int pa_nil))) pe_int (nomark _))) (fun _ _ _ _ _ => pv 8)) pa_nil)))
      (pss_cut (ps_set (i := 6) sc_law_plain_reader.nd rfl (.inr rfl) (pe_ifExp (pt_cmpR (op_neD hr.units) (pv 6) (pe_lst pa_nil) (nomark _)) (pv 6) (pe_slice sl_list (pv 4) po_none (po_some pe_int))))
      (pss_cut (ps_setLc (i := 7) (own := [("_law_state", 8)]) (g := gName 8) (by rfl) sc_law_plain_reader.nd rfl rfl (sw_true rfl rfl rfl (by decide +kernel)) (pi_list (pv 4))
          (blkOk_by (N := NPR) (sc := defScope s_law_plain_reader) (by decide +kernel)) (fun _ _ _ _ _ => pg_name (i := 8) sc_law_plain_reader.nd rfl (.inl rfl))
          (fun _ _ _ _ _ => pts_one (pt_cmpR (op_notInK (K := K) (by exact rfl)) (pv 8) (pv 6) (by rfl))) (fun _ _ _ _ _ => pv 8))
      (pss_cut (ps_for PassesOwn.never rfl (pi_list (pv 3)) (pg_name (i := 8) sc_law_plain_reader.nd rfl (.inl rfl))
        (pss_one (ps_for PassesOwn.never rfl (pi_list (pv 2)) (pg_name (i := 9) sc_law_plain_reader.nd rfl (.inl rfl))
          (pss_cut (ps_set (i := 10) sc_law_plain_reader.nd rfl (.inl rfl) (pe_ifExp (pt_cmpR (op_neD hr.units) (pv 9) (pe_tup pa_nil) (nomark _)) (pv 4) (pv 7)))
          (pss_one (ps_if (PW.pt (pw_and (pt_cmpR (op_neD hr.units) (pv 10) (pe_lst pa_nil) (nomark _)) (pw_and1 (pt_cmpR op_gt (pe_cal cr (hr.mono (by decide)) (by rfl) (pa_cons (pv 0) (pa_cons pe_int pa_nil))) pe_int (nomark _)))))
            (pss_one (ps_nput (P := P) (w := w) (K := K) (by exact ⟨rfl, rfl, rfl⟩) (by exact hr.units) (pv 5) (pe_tup (pa_cons (pv 8) (pa_cons (pv 9) pa_nil))) (pe_cal cp (hr.mono (by decide)) (by rfl) (pa_cons (pv 0) (pa_cons (pv 10) pa_nil))) rfl)) pss_nil))))))
      (pss_one (ps_ret (pe_disp (pps_cons pe_str (pe_ix ix_list (pv 3) pe_int (fun _ _ => rfl)) (pps_cons pe_str (pv 6) (pps_cons pe_str (pv 5) pps_nil))) rfl rfl (by decide) (by decide))))))))), ?_⟩
    have big : 100000 ≤ sizeLine := by decide
    -- the names
    refine ⟨fun σ' G => ∃ (nl : Addr) (first : Str) (sm : List Str), σ' = [some (.ref d), some (.int (m : Nat)), some (.ref g), some (.ref nl), none, none, none, none, none, none, none] ∧ G nl = some (.lst ((first :: sm).map V.str)) ∧ nl ≠ d ∧ (first :: sm).Nodup ∧ (∀ z ∈ first :: sm, z ∈ TENS) ∧ 1 ≤ sm.length ∧ sm.length ≤ 5 ∧ SameX d H G ∧ DiceAt G d, ?_, ?_⟩
    · refine ⟨_, rfl, _, rfl, _, rfl, _, _, rfl, rfl, d, _, rfl, hd, by omega, by have := Nat.log2_le_self ((m : Int) - 1).natAbs; omega, fun r x b c r0 r1 => ?_⟩
      obtain ⟨k, rfl⟩ := Int.eq_ofNat_of_zero_le r0
      have hd1 : DiceAt (upd H d (.lst [V.int x, V.int b, V.int c])) d := ⟨_, _, _, upd_same⟩
      have sx1 : SameX d H (upd H d (.lst [V.int x, V.int b, V.int c])) := (SameX.refl d H).atd
      generalize upd H d (.lst [V.int x, V.int b, V.int c]) = G1 at *
      refine ⟨_, _, rfl, rfl, d, 2 + k, ?_, by omega, hd1, fun p zs G2 sx2 hd2 np ep nd ten len => ?_⟩
      · show [V.ref d, V.int (2 + (k : Int))] = [V.ref d, V.int ((2 + k : Nat) : Int)]
        rw [show (2 : Int) + (k : Int) = ((2 + k : Nat) : Int) by omega]
      cases zs with
      | nil => rw [List.length_nil] at len; omega
      | cons first sm =>
        rw [List.length_cons] at len
        exact ⟨p, first, sm, rfl, ep, dice_ne hd1 np, nd, ten, by omega, by omega, sx1.trans sx2, hd2⟩
    rintro σ' G1 ⟨nl, first, sm, rfl, en, nnd, nd, ten, l1, l5, sx1, hd1⟩
    have nsm : sm.Nodup := (List.nodup_cons.mp nd).2
    -- the others, no lines yet
    refine ⟨fun σ' G => ∃ (sl rd : Addr), σ' = [some (.ref d), some (.int (m : Nat)), some (.ref g), some (.ref nl), some (.ref sl), some (.ref rd), none, none, none, none, none] ∧ G sl = some (.lst (sm.map V.str)) ∧ sl ≠ d ∧ G rd = some (DN P w rd []) ∧ rd ≠ d ∧ G1 rd = none ∧ Same G1 G, ?_, ?_⟩
    · refine ⟨_, rfl, _, rfl, nl, _, rfl, .inl (.inl en), fun sl nsl => ?_⟩
      have ec : cutV ((first :: sm).map V.str) (some 1) none = sm.map V.str := cut_from0 1
      rw [ec]
      have s2 := same_new (o := .lst (sm.map V.str)) (Same.refl G1) nsl
      have e2 : (upd G1 sl (.lst (sm.map V.str))) sl = some (.lst (sm.map V.str)) := upd_same
      have nd2 := dice_ne hd1 nsl
      generalize upd G1 sl (.lst (sm.map V.str)) = G2 at *
      refine fun rd nrd => ?_
      have s3 := same_new (o := DN P w rd []) (Same.refl G2) nrd
      have nr1 : G1 rd = none := s2.free nrd
      exact ⟨_, _, rfl, sl, rd, rfl, s3 _ _ e2, nd2, upd_same, dice_ne hd1 nr1, nr1, s2.trans s3⟩
    rintro σ' G2 ⟨sl, rd, rfl, esl, nsd, erd, nrd, nr1, s2⟩
    have hd2 : DiceAt G2 d := by
      obtain ⟨x, b, c, e⟩ := hd1
      exact ⟨x, b, c, s2 _ _ e⟩
    have en2 := s2 _ _ en
    have sx2 : SameX d H G2 := sx1.trans (SameX.of s2)
    -- the ends drawn
    refine ⟨fun σ' G => ∃ (el : Addr) (es : List Str), σ' = [some (.ref d), some (.int (m : Nat)), some (.ref g), some (.ref nl), some (.ref sl), some (.ref rd), some (.ref el), none, none, none, none] ∧ G el = some (.lst (es.map V.str)) ∧ el ≠ d ∧ sortedS es = true ∧ es.Nodup ∧ (∀ z ∈ es, z ∈ sm) ∧ SameX d G2 G ∧ DiceAt G d, ?_, ?_⟩
    · refine ⟨_, rfl, sl, rfl, ⟨_, .inl (.inl esl)⟩, fun D hD => ?_⟩
      have nDd : D ≠ d := dice_ne hd2 hD
      refine lc_it (g := gName 8) (vs := [8]) (walk_list (K := K) (a := sl) (xs := sm.map V.str)) (fun j G => ∃ fs : List Str, G D = some (.lst (fs.map V.str)) ∧ fs.Sublist (sm.take j) ∧ SameX d G2 G ∧ DiceAt G d) ⟨[], upd_same, List.nil_sublist _, (SameX.refl d G2).at hD, by obtain ⟨x, b, c, e⟩ := hd2; exact ⟨x, b, c, by rw [upd_ne (Ne.symm nDd)]; exact e⟩⟩ (fun j G _ h => by obtain ⟨_, _, _, sx, _⟩ := h; exact .inl (.inl (sx _ _ nsd esl))) (fun j v Gx G hj h hy => ?_) (fun G h => ?_)
      · obtain ⟨fs, eD, hfs, sx, hd3⟩ := h
        obtain ⟨rfl, hv⟩ := hy
        rw [List.getElem?_map] at hv
        obtain ⟨y, hy, rfl⟩ := Option.map_eq_some_iff.mp hv
        have et : sm.take (j + 1) = sm.take j ++ [y] := by rw [List.take_add_one, hy]; rfl
        refine ⟨rfl, _, rfl, d, 2, rfl, hd3, by decide, by decide, fun r x b c r0 r1 => ?_⟩
        have hd4 : DiceAt (upd G d (.lst [V.int x, V.int b, V.int c])) d := ⟨_, _, _, upd_same⟩
        have sx4 : SameX d G (upd G d (.lst [V.int x, V.int b, V.int c])) := (SameX.refl d G).atd
        generalize upd G d (.lst [V.int x, V.int b, V.int c]) = G4 at *
        have eD4 := sx4 _ _ nDd eD
        refine ⟨rfl, _, rfl, ite2 (fun c0 => ?_) (fun c0 => ?_)⟩
        · have lfs : fs.length ≤ 5 := by
            have := hfs.length_le
            rw [List.length_take] at this
            omega
          refine ⟨_, rfl, _, eD4, by rw [List.length_map]; omega, fs ++ [y], ?_, ?_, ?_, ?_⟩
          · rw [upd_same, List.map_append]
            rfl
          · rw [et]
            exact hfs.append (List.Sublist.refl _)
          · exact fun b' u n e => by rw [upd_ne (ne_of_none e hD)]; exact sx4 _ _ n (sx _ _ n e)
          · obtain ⟨x, b, c, e⟩ := hd4
            exact ⟨x, b, c, by rw [upd_ne (Ne.symm nDd)]; exact e⟩
        · exact ⟨fs, eD4, by rw [et]; exact hfs.trans (List.sublist_append_left _ _), sx.trans sx4, hd4⟩
      · obtain ⟨fs, eD, hfs, sx, hd3⟩ := h
        rw [List.length_map, List.take_length] at hfs
        have lfs := hfs.length_le
        refine ⟨D, fs, rfl, .inl (.inl eD), by omega, fun es el hp hs nel => ?_⟩
        have ned := dice_ne hd3 nel
        have s5 := same_new (o := .lst (es.map V.str)) (Same.refl G) nel
        exact ⟨el, es, rfl, upd_same, ned, hs, hp.nodup_iff.mpr (nsm.sublist hfs), fun z hz => hfs.subset (hp.mem_iff.mp hz), sx.trans (SameX.of s5), by obtain ⟨x, b, c, e⟩ := hd3; exact ⟨x, b, c, s5 _ _ e⟩⟩
    rintro σ' G3 ⟨e1, es1, rfl, ee1, nee1, hs1, hn1, hsub1, sx3, hd3⟩
    have en3 := sx3 _ _ nnd en2
    have esl3 := sx3 _ _ nsd esl
    have erd3 := sx3 _ _ nrd erd
    -- .. or the first
    refine ⟨fun σ' G => ∃ (el : Addr) (es : List Str), σ' = [some (.ref d), some (.int (m : Nat)), some (.ref g), some (.ref nl), some (.ref sl), some (.ref rd), some (.ref el), none, none, none, none] ∧ G el = some (.lst (es.map V.str)) ∧ el ≠ d ∧ sortedS es = true ∧ es.Nodup ∧ es ≠ [] ∧ (∀ z ∈ es, z ∈ sm) ∧ Same G3 G, ?_, ?_⟩
    · refine ⟨_, rfl, Nat.zero_le _, fun t nt => ?_⟩
      have s4 := same_new (o := .lst []) (Same.refl G3) nt
      have et : (upd G3 t (.lst [])) t = some (.lst []) := upd_same
      generalize upd G3 t (.lst []) = G4 at *
      refine ⟨.list (tD es1), .list (tD []), .lst (.inl (.inl (s4 _ _ ee1))) (dp_texts es1), .lst (.inl (.inl et)) (dp_texts []), ?_, ?_, _, rfl, ?_⟩
      · exact shaped_texts fun z hz => ten_sok (ten z (List.mem_cons_of_mem _ (hsub1 z hz)))
      · exact shaped_texts fun z hz => nomatch hz
      rw [PyData.eqv, eqv_texts]
      by_cases c : es1 = []
      · rw [decide_eq_true c]
        refine ite2 (fun c1 => by cases c1) (fun _ => ?_)
        refine ⟨_, rfl, _, rfl, sl, _, rfl, .inl (.inl (s4 _ _ esl3)), fun l nl1 => ?_⟩
        have ec : cutV (sm.map V.str) none (some 1) = (sm.take 1).map V.str := by
          rw [List.map_take]
          exact cut_to0 1
        rw [ec]
        have s5 := same_new (o := .lst ((sm.take 1).map V.str)) (Same.refl G4) nl1
        refine ⟨l, sm.take 1, rfl, upd_same, ?_, ?_, nsm.sublist (List.take_sublist _ _), ?_, fun z hz => List.mem_of_mem_take hz, s4.trans s5⟩
        · exact dice_ne hd3 (s4.free nl1)
        · cases sm with
          | nil => rfl
          | cons y ys => rfl
        · cases sm with
          | nil => rw [List.length_nil] at l1; omega
          | cons y ys => intro c2; cases c2
      · rw [decide_eq_false c]
        refine ite2 (fun _ => ?_) (fun c1 => absurd rfl c1)
        exact ⟨_, rfl, e1, es1, rfl, s4 _ _ ee1, nee1, hs1, hn1, c, hsub1, s4⟩
    rintro σ' G4 ⟨el, es, rfl, eel, neel, hs, hn, hne, hsub, s4⟩
    -- the calm
    refine ⟨fun σ' G => ∃ (cl : Addr) (cs : List Str), σ' = [some (.ref d), some (.int (m : Nat)), some (.ref g), some (.ref nl), some (.ref sl), some (.ref rd), some (.ref el), some (.ref cl), none, none, none] ∧ G cl = some (.lst (cs.map V.str)) ∧ cl ≠ d ∧ cs.length ≤ 5 ∧ (∀ z ∈ cs, z ∈ sm ∧ z ∉ es) ∧ Same G4 G, ?_, ?_⟩
    · refine ⟨_, rfl, sl, rfl, ⟨_, .inl (.inl (s4 _ _ esl3))⟩, fun D hD => ?_⟩
      have hd4 : DiceAt G4 d := by
        obtain ⟨x, b, c, e⟩ := hd3
        exact ⟨x, b, c, s4 _ _ e⟩
      have nDd : D ≠ d := dice_ne hd4 hD
      refine lc_it (g := gName 8) (vs := [8]) (walk_list (K := K) (a := sl) (xs := sm.map V.str)) (fun j G => ∃ fs : List Str, G D = some (.lst (fs.map V.str)) ∧ fs.length ≤ j ∧ (∀ z ∈ fs, z ∈ sm ∧ z ∉ es) ∧ Same G4 G) ⟨[], upd_same, Nat.zero_le _, (fun z hz => nomatch hz), same_new (Same.refl G4) hD⟩ (fun j G _ h => by obtain ⟨_, _, _, _, sm0⟩ := h; exact .inl (.inl (sm0 _ _ (s4 _ _ esl3)))) (fun j v Gx G hj h hy => ?_) (fun G h => ?_)
      · obtain ⟨fs, eD, lfs, hfs, sm0⟩ := h
        obtain ⟨rfl, hv⟩ := hy
        rw [List.getElem?_map] at hv
        obtain ⟨y, hy, rfl⟩ := Option.map_eq_some_iff.mp hv
        have hj5 : j < 5 := by rw [List.length_map] at hj; omega
        refine ⟨rfl, _, rfl, _, rfl, el, _, rfl, .inl (.inl (.inl (sm0 _ _ eel))), rfl, flat_tx es, !decide (y ∈ es), congrArg V.bl (by rw [← inV_tx y es]; rfl), ?_⟩
        by_cases c : y ∈ es
        · rw [decide_eq_true c]
          refine ite2 (fun c1 => by cases c1) (fun _ => ?_)
          exact ⟨fs, eD, by omega, hfs, sm0⟩
        · rw [decide_eq_false c]
          refine ite2 (fun _ => ?_) (fun c1 => absurd rfl c1)
          refine ⟨_, rfl, _, eD, by rw [List.length_map]; omega, fs ++ [y], ?_, ?_, ?_, fun b u e => by rw [upd_ne (ne_of_none e hD)]; exact sm0 b u e⟩
          · rw [upd_same, List.map_append]
            rfl
          · rw [List.length_append, List.length_singleton]
            omega
          · intro z hz
            rcases List.mem_append.mp hz with hz | hz
            · exact hfs z hz
            · rw [List.mem_singleton.mp hz]
              exact ⟨List.mem_of_getElem? hy, c⟩
      · obtain ⟨fs, eD, lfs, hfs, sm0⟩ := h
        rw [List.length_map] at lfs
        exact ⟨D, fs, rfl, eD, nDd, by omega, hfs, sm0⟩
    rintro σ' G5 ⟨cl, cs', rfl, ecl, ncl, lcs, hcs, s5⟩
    have s35 := s4.trans s5
    have hd5 : DiceAt G5 d := by
      obtain ⟨x, b, c, e⟩ := hd3
      exact ⟨x, b, c, s35 _ _ e⟩
    have sx5 : SameX d H G5 := (sx2.trans sx3).trans (SameX.of s35)
    have ngd : g ≠ d := by
      obtain ⟨x, b, c, e0⟩ := hd
      intro c
      rw [c, e0] at eg
      have := HO.lst.inj (Option.some.inj eg)
      cases L with
      | nil => cases this
      | cons q L => cases this
    have eg5 := sx5 _ _ ngd eg
    have hL5 : TpsAt K G5 L := hL.sx hd sx5
    have en5 := s35 _ _ en3
    have esl5 := s35 _ _ esl3
    have erd5 := s35 _ _ erd3
    have eel5 := s5 _ _ eel
    have nrl : ∀ {a : Addr} {xs : List V}, G5 a = some (.lst xs) → a ≠ rd := fun {a} {xs} e z => by
      rw [z, erd5] at e
      cases e
    -- the lines
    refine ⟨fun σ' G => ∃ (R : Rds) (t8 t9 t10 : Option V), σ' = [some (.ref d), some (.int (m : Nat)), some (.ref g), some (.ref nl), some (.ref sl), some (.ref rd), some (.ref el), some (.ref cl), t8, t9, t10] ∧ RDict P w K G rd R ∧ (R.map (·.1)).Nodup ∧ R.length ≤ 30 ∧ (∀ r ∈ R, LineOk first sm es r) ∧ Two d rd G5 G ∧ DiceAt G d, ?_, ?_⟩
    · refine ⟨_, rfl, nl, rfl, ⟨_, .inl (.inl en5)⟩, ?_⟩
      refine for_it (walk_list (K := K) (a := nl) (xs := (first :: sm).map V.str)) (fun i σ' G => ∃ (R : Rds) (t8 t9 t10 : Option V), σ' = [some (.ref d), some (.int (m : Nat)), some (.ref g), some (.ref nl), some (.ref sl), some (.ref rd), some (.ref el), some (.ref cl), t8, t9, t10] ∧ RDict P w K G rd R ∧ (R.map (·.1)).Nodup ∧ R.length ≤ 5 * i ∧ (∀ r ∈ R, LineOk first sm es r) ∧ Two d rd G5 G ∧ DiceAt G d ∧ (∀ r ∈ R, ∃ i', i' < i ∧ (first :: sm)[i']? = some r.1.1))
        ⟨[], none, none, none, rfl, ⟨[], erd5, (fun x hx => nomatch hx), rfl⟩, List.nodup_nil, Nat.zero_le _, (fun r hr => nomatch hr), (fun _ _ _ _ e => e), hd5, (fun r hr => nomatch hr)⟩ (fun i σ' G _ h => by obtain ⟨_, _, _, _, _, _, _, _, _, tw, _⟩ := h; exact .inl (.inl (tw _ _ nnd (nrl en5) en5))) (fun i v σ' G G' hi h hy => ?_) (fun σ' G h => ?_)
      · obtain ⟨R, t8, t9, t10, rfl, hR, hRn, hRl, hRo, tw, hdG, hRi⟩ := h
        obtain ⟨rfl, hv⟩ := hy
        rw [List.getElem?_map] at hv
        obtain ⟨z, hz, rfl⟩ := Option.map_eq_some_iff.mp hv
        refine ⟨_, rfl, g, rfl, ⟨_, .inl (.inl (tw _ _ ngd (nrl eg5) eg5))⟩, ?_⟩
        refine for_it (walk_list (K := K) (a := g) (xs := L.map fun q => V.ref q.1)) (fun j σ' G => ∃ (R : Rds) (t9 t10 : Option V), σ' = [some (.ref d), some (.int (m : Nat)), some (.ref g), some (.ref nl), some (.ref sl), some (.ref rd), some (.ref el), some (.ref cl), some (.str z), t9, t10] ∧ RDict P w K G rd R ∧ (R.map (·.1)).Nodup ∧ R.length ≤ 5 * i + j ∧ (∀ r ∈ R, LineOk first sm es r) ∧ Two d rd G5 G ∧ DiceAt G d ∧ (∀ r ∈ R, (∃ i', i' < i ∧ (first :: sm)[i']? = some r.1.1) ∨ (r.1.1 = z ∧ ∃ j', j' < j ∧ (L.map (·.2))[j']? = some r.1.2)))
          ⟨R, t9, t10, rfl, hR, hRn, hRl, hRo, tw, hdG, fun r hr => .inl (hRi r hr)⟩ (fun j σ' G _ h => by obtain ⟨_, _, _, _, _, _, _, _, tw, _⟩ := h; exact .inl (.inl (tw _ _ ngd (nrl eg5) eg5))) (fun j v σ' G G' hj h hy => ?_) (fun σ' G h => ?_)
        · obtain ⟨R, t9, t10, rfl, hR, hRn, hRl, hRo, tw, hdG, hRi⟩ := h
          obtain ⟨rfl, hv⟩ := hy
          rw [List.getElem?_map] at hv
          obtain ⟨q0, hq0, rfl⟩ := Option.map_eq_some_iff.mp hv
          obtain ⟨ad, wd⟩ := q0
          have mq := List.mem_of_getElem? hq0
          have okw : wordB wd = true := okL _ mq
          have sok : ∀ y ∈ wd, PyData.strOk y = true := fun y hy => by
            unfold wordB at okw
            simp only [Bool.and_eq_true, List.all_eq_true] at okw
            exact (okw.2.2 y hy).2
          have hi6 : i < 6 := by rw [List.length_map, List.length_cons] at hi; omega
          have hj5 : j < 5 := by rw [List.length_map] at hj; omega
          have had : SqT K G' ad (wd.map V.str) := sqT_two hd5 (no_dn erd5) tw (hL5 _ mq)
          refine ⟨fun σ' G => ∃ (pl : Addr) (ps : List Str), σ' = [some (.ref d), some (.int (m : Nat)), some (.ref g), some (.ref nl), some (.ref sl), some (.ref rd), some (.ref el), some (.ref cl), some (.str z), some (.ref ad), some (.ref pl)] ∧ G pl = some (.lst (ps.map V.str)) ∧ pl ≠ d ∧ ps.length ≤ 5 ∧ (∀ y ∈ ps, y ∈ sm ∧ (wd = [] → y ∉ es)) ∧ Same G' G, ?_, ?_⟩
          · refine ⟨_, rfl, Nat.zero_le _, fun t nt => ?_⟩
            have s6 := same_new (o := .tup []) (Same.refl G') nt
            have et : (upd G' t (.tup [])) t = some (.tup []) := upd_same
            generalize upd G' t (.tup []) = G6 at *
            refine ⟨.tuple (tD wd), .tuple (tD []), .tup (sqT_same s6 had) (dp_texts wd), .tup (SqT.of et) (dp_texts []), shaped_textsT sok, shaped_textsT (fun z hz => nomatch hz), _, rfl, ?_⟩
            rw [PyData.eqv, eqv_texts]
            by_cases c : wd = []
            · rw [decide_eq_true c]
              refine ite2 (fun c1 => by cases c1) (fun _ => ?_)
              exact ⟨_, rfl, cl, cs', rfl, s6 _ _ (tw _ _ ncl (nrl ecl) ecl), ncl, lcs, fun y hy => ⟨(hcs y hy).1, fun _ => (hcs y hy).2⟩, s6⟩
            · rw [decide_eq_false c]
              refine ite2 (fun _ => ?_) (fun c1 => absurd rfl c1)
              exact ⟨_, rfl, sl, sm, rfl, s6 _ _ (tw _ _ nsd (nrl esl5) esl5), nsd, l5, fun y hy => ⟨hy, fun e => absurd e c⟩, s6⟩
          rintro σ' G6 ⟨pl, ps, rfl, epl, npl, lps, hps, s6⟩
          have hR6 : RDict P w K G6 rd R := hR.same s6
          have tw6 : Two d rd G5 G6 := fun b u n1 n2 e => s6 _ _ (tw b u n1 n2 e)
          have hd6 : DiceAt G6 d := by
            obtain ⟨x, b, c, e⟩ := hdG
            exact ⟨x, b, c, s6 _ _ e⟩
          refine ⟨_, rfl, Nat.zero_le _, fun t nt => ?_⟩
          have s7 := same_new (o := .lst []) (Same.refl G6) nt
          have et : (upd G6 t (.lst [])) t = some (.lst []) := upd_same
          generalize upd G6 t (.lst []) = G7 at *
          have epl7 := s7 _ _ epl
          have hR7 : RDict P w K G7 rd R := hR6.same s7
          have tw7 : Two d rd G5 G7 := fun b u n1 n2 e => s7 _ _ (tw6 b u n1 n2 e)
          have hd7 : DiceAt G7 d := by
            obtain ⟨x, b, c, e⟩ := hd6
            exact ⟨x, b, c, s7 _ _ e⟩
          have had7 : SqT K G7 ad (wd.map V.str) := sqT_same s7 (sqT_same s6 had)
          have keep : ∀ G8 : Hp, RDict P w K G8 rd R → Two d rd G5 G8 → DiceAt G8 d → ∃ (R : Rds) (t9 t10 : Option V), [some (.ref d), some (.int (m : Nat)), some (.ref g), some (.ref nl), some (.ref sl), some (.ref rd), some (.ref el), some (.ref cl), some (.str z), some (.ref ad), some (.ref pl)] = [some (.ref d), some (.int (m : Nat)), some (.ref g), some (.ref nl), some (.ref sl), some (.ref rd), some (.ref el), some (.ref cl), some (.str z), t9, t10] ∧ RDict P w K G8 rd R ∧ (R.map (·.1)).Nodup ∧ R.length ≤ 5 * i + (j + 1) ∧ (∀ r ∈ R, LineOk first sm es r) ∧ Two d rd G5 G8 ∧ DiceAt G8 d ∧ (∀ r ∈ R, (∃ i', i' < i ∧ (first :: sm)[i']? = some r.1.1) ∨ (r.1.1 = z ∧ ∃ j', j' < j + 1 ∧ (L.map (·.2))[j']? = some r.1.2)) := fun G8 h1 h2 h3 => by
            refine ⟨R, _, _, rfl, h1, hRn, by omega, hRo, h2, h3, fun r hr => ?_⟩
            rcases hRi r hr with h | ⟨h, j', k1, k2⟩
            · exact .inl h
            · exact .inr ⟨h, j', by omega, k2⟩
          refine ⟨.list (tD ps), .list (tD []), .lst (.inl (.inl epl7)) (dp_texts ps), .lst (.inl (.inl et)) (dp_texts []), shaped_texts (fun y hy => ten_sok (ten y (List.mem_cons_of_mem _ (hps y hy).1))), shaped_texts (fun z hz => nomatch hz), _, rfl, ?_⟩
          rw [PyData.eqv, eqv_texts]
          by_cases c : ps = []
          · rw [decide_eq_true c]
            refine ite2 (fun c1 => by cases c1) (fun _ => ?_)
            exact ite2 (fun c1 => by cases c1) (fun _ => keep G7 hR7 tw7 hd7)
          rw [decide_eq_false c]
          refine ite2 (fun _ => ?_) (fun c1 => absurd rfl c1)
          refine ⟨_, rfl, d, 5, rfl, hd7, by decide, by decide, fun r x b c0 r0 r1 => ?_⟩
          have hd8 : DiceAt (upd G7 d (.lst [V.int x, V.int b, V.int c0])) d := ⟨_, _, _, upd_same⟩
          have sx8 : SameX d G7 (upd G7 d (.lst [V.int x, V.int b, V.int c0])) := (SameX.refl d G7).atd
          generalize upd G7 d (.lst [V.int x, V.int b, V.int c0]) = G8 at *
          have hR8 : RDict P w K G8 rd R := hR7.two hd7 sx8 nrd
          have tw8 : Two d rd G5 G8 := fun b u n1 n2 e => sx8 _ _ n1 (tw7 b u n1 n2 e)
          have epl8 := sx8 _ _ npl epl7
          have had8 : SqT K G8 ad (wd.map V.str) := sqT_sx hd7 sx8 had7
          refine ⟨_, _, rfl, rfl, _, rfl, ite2 (fun _ => ?_) (fun _ => keep G8 hR8 tw8 hd8)⟩
          refine ⟨_, rfl, _, rfl, d, _, ps.map V.str, rfl, hd8, .inl ⟨pl, rfl, npl, .inl (.inl (.inl epl8))⟩, (fun e => c (List.map_eq_nil_iff.mp e)), by rw [List.length_map]; omega, fun v x2 b2 c2 hv => ?_⟩
          obtain ⟨y, hy, rfl⟩ := List.mem_map.mp hv
          have hd9 : DiceAt (upd G8 d (.lst [V.int x2, V.int b2, V.int c2])) d := ⟨_, _, _, upd_same⟩
          have sx9 : SameX d G8 (upd G8 d (.lst [V.int x2, V.int b2, V.int c2])) := (SameX.refl d G8).atd
          generalize upd G8 d (.lst [V.int x2, V.int b2, V.int c2]) = G9 at *
          have hR9 : RDict P w K G9 rd R := hR8.two hd8 sx9 nrd
          have tw9 : Two d rd G5 G9 := fun b u n1 n2 e => sx9 _ _ n1 (tw8 b u n1 n2 e)
          have had9 : SqT K G9 ad (wd.map V.str) := sqT_sx hd8 sx9 had8
          refine ⟨_, rfl, _, rfl, _, rfl, by show 2 ≤ sizeLine; omega, fun q1 nq => ?_⟩
          have s10 := same_new (o := .tup [V.str z, V.ref ad]) (Same.refl G9) nq
          have eq1 : (upd G9 q1 (.tup [V.str z, V.ref ad])) q1 = some (.tup [V.str z, V.ref ad]) := upd_same
          generalize upd G9 q1 (.tup [V.str z, V.ref ad]) = G10 at *
          obtain ⟨M, eM, kM, hM⟩ := hR9.same s10
          have lM := prM_len hM
          have hk : KeyA K G10 q1 (keyK (z, wd)) := keyK_at.mpr ⟨ad, SqT.of eq1, sqT_same s10 had9⟩
          have hnk : (z, wd) ∉ R.map (·.1) := fun hc => by
            obtain ⟨r, hr, e⟩ := List.mem_map.mp hc
            have e1 : r.1.1 = z := by rw [e]
            have e2 : r.1.2 = wd := by rw [e]
            rcases hRi r hr with ⟨i', k1, k2⟩ | ⟨_, j', k1, k2⟩
            · rw [e1] at k2
              have := (List.getElem?_inj (List.getElem?_eq_some_iff.mp k2).1 nd).mp (k2.trans hz.symm)
              omega
            · rw [e2] at k2
              have h3 : (L.map (·.2))[j]? = some wd := by rw [List.getElem?_map, hq0]; rfl
              have := (List.getElem?_inj (List.getElem?_eq_some_iff.mp k2).1 ndL).mp (k2.trans h3.symm)
              omega
          have hnM : (z, wd) ∉ M.map (·.1) := fun hc => hnk (by
            have e := congrArg (List.map Prod.fst) hM
            unfold prM at e
            rw [List.map_map, List.map_map] at e
            have e' : M.map (·.1) = R.map (·.1) := e
            rw [← e']
            exact hc)
          refine ⟨rd, q1, toN M, keyK (z, wd), rfl, rfl, eM, fun e he => ?_, hk, ?_, ?_⟩
          · obtain ⟨m, hm, rfl⟩ := List.mem_map.mp he
            exact kM m hm
          · rw [toN_len]
            omega
          rw [putN_to, putM_new hnM]
          have tw10 : Two d rd G5 G10 := fun b u n1 n2 e => s10 _ _ (tw9 b u n1 n2 e)
          refine ⟨R ++ [((z, wd), y)], _, _, rfl, ⟨M ++ [((z, wd), q1, V.str y)], upd_same, fun m hm => ?_, ?_⟩, ?_, by rw [List.length_append, List.length_singleton]; omega, fun r hr => ?_, fun b u n1 n2 e => by rw [upd_ne n2]; exact tw10 b u n1 n2 e, ?_, fun r hr => ?_⟩
          · rcases List.mem_append.mp hm with hm | hm
            · exact (kM m hm).mono fun _ _ h => sqT_upd (no_dn eM) h
            · rw [List.mem_singleton.mp hm]
              exact hk.mono fun _ _ h => sqT_upd (no_dn eM) h
          · unfold prM at hM ⊢
            rw [List.map_append, List.map_append, hM]
            rfl
          · rw [List.map_append]
            exact List.nodup_append.mpr ⟨hRn, List.nodup_cons.mpr ⟨fun h => (nomatch h), List.nodup_nil⟩, fun a ha b hb e => hnk (by
              have : b = (z, wd) := List.mem_singleton.mp hb
              rw [← this, ← e]
              exact ha)⟩
          · rcases List.mem_append.mp hr with hr | hr
            · exact hRo r hr
            · rw [List.mem_singleton.mp hr]
              exact ⟨List.mem_of_getElem? hz, okw, (hps y hy).1, (hps y hy).2⟩
          · obtain ⟨x, b, c, e⟩ := hd9
            exact ⟨x, b, c, by rw [upd_ne (Ne.symm nrd)]; exact s10 _ _ e⟩
          · rcases List.mem_append.mp hr with hr | hr
            · rcases hRi r hr with h | ⟨h, j', k1, k2⟩
              · exact .inl h
              · exact .inr ⟨h, j', by omega, k2⟩
            · rw [List.mem_singleton.mp hr]
              exact .inr ⟨rfl, j, by omega, by rw [List.getElem?_map, hq0]; rfl⟩
        · obtain ⟨R, t9, t10, rfl, hR, hRn, hRl, hRo, tw, hdG, hRi⟩ := h
          rw [List.length_map] at hRl
          refine ⟨R, _, t9, t10, rfl, hR, hRn, by omega, hRo, tw, hdG, fun r hr => ?_⟩
          rcases hRi r hr with ⟨i', h1, h2⟩ | ⟨h1, _⟩
          · exact ⟨i', by omega, h2⟩
          · exact ⟨i, by omega, by rw [h1]; exact hz⟩
      · obtain ⟨R, t8, t9, t10, rfl, hR, hRn, hRl, hRo, tw, hdG, hRi⟩ := h
        rw [List.length_map, List.length_cons] at hRl
        exact ⟨R, t8, t9, t10, rfl, hR, hRn, by omega, hRo, tw, hdG⟩
    rintro σ' G6 ⟨R, t8, t9, t10, rfl, hR, hRn, hRl, hRo, tw, hd6⟩
    have nd5 : G6 nl = some (.lst ((first :: sm).map V.str)) := tw _ _ nnd (nrl en5) en5
    have eel6 : G6 el = some (.lst (es.map V.str)) := tw _ _ neel (nrl eel5) eel5
    refine fun p np => ?_
    have nd6 : (upd G6 p (.dK [])) nl = some (.lst ((first :: sm).map V.str)) := by
      rw [upd_ne (ne_of_none nd5 np)]
      exact nd5
    refine ⟨_, rfl, nl, _, _, _, rfl, rfl, .inl (.inl nd6), at_word (i := 0) (z := first) rfl, _, rfl, _, rfl, upd_same, plF first el rd, rfl, by show 3 ≤ 15; omega, ?_⟩
    rw [merge_nil (by show (([Sum.inr "first", Sum.inr "ends", Sum.inr "reads"] : List Key)).Nodup; decide +kernel)]
    have sl : Same G6 (upd (upd G6 p (.dK [])) p (.dK (plF first el rd))) := fun b o e => by rw [upd_ne (ne_of_none e np), upd_ne (ne_of_none e np)]; exact e
    have sxF : SameX d H G6 := fun b u n e => by
      by_cases c : b = rd
      · exfalso
        have h1 := sx1 _ _ n e
        rw [c, nr1] at h1
        cases h1
      · exact tw b u n c (sx5 _ _ n e)
    refine q p el rd first es R _ (sxF.trans (SameX.of sl)) (by obtain ⟨x, b, c, e⟩ := hd6; exact ⟨x, b, c, sl _ _ e⟩) ⟨upd_same, .inl (.inl (sl _ _ eel6)), hR.same sl⟩ (rdOk_of nd ten l5 hs hn hne hsub hRn (by omega) hRo) (fun r hr y hy => ?_) (fun z hz => ?_) (by omega)
    · have h := (hRo r hr).2.1
      unfold wordB at h
      simp only [Bool.and_eq_true, List.all_eq_true] at h
      exact (h.2.2 y hy).2
    · unfold statesL at hz
      rcases List.mem_cons.mp hz with rfl | hz
      · exact ten _ List.mem_cons_self
      rcases List.mem_append.mp hz with hz | hz
      · exact ten _ (List.mem_cons_of_mem _ (hsub z hz))
      rcases List.mem_append.mp hz with hz | hz
      · obtain ⟨r, hr, rfl⟩ := List.mem_map.mp hz
        exact ten _ (hRo r hr).1
      · obtain ⟨r, hr, rfl⟩ := List.mem_map.mp hz
        exact ten _ (List.mem_cons_of_mem _ (hRo r hr).2.2.1)
end
end Kl
set_option maxRecDepth 100000
set_option maxHeartbeats 4000000
namespace Kl
open PySem PySem.Spec PyProof.Rows L2 Gx Mx
theorem sqL_sx {K : PySem.W.Frag} {G G' : Hp} {d a : Addr} {xs : List Str} (hd : DiceAt G d) (s : SameX d G G') (h : SqL K G a (xs.map V.str)) : SqL K G' a (xs.map V.str) := by
  obtain ⟨x, b, c, e⟩ := hd
  rcases h with (h | ⟨o, h⟩) | h
  · refine .inl (.inl (s _ _ (fun z => ?_) h))
    rw [z, e] at h
    have h' := HO.lst.inj (Option.some.inj h)
    cases xs with
    | nil => cases h'
    | cons y ys => cases h'
  · exact .inl (.inr ⟨o, s _ _ (fun z => by rw [z, e] at h; cases h) h⟩)
  · exact .inr h
theorem PlainAt.sx {P : Program} {w : World} {K : PySem.W.Frag} {H H' : Hp} {d p el rd : Addr} {first : Str} {ends : List Str} {R : Rds} (h : PlainAt P w K H p el rd first ends R) (hd : DiceAt H d) (s : SameX d H H') : PlainAt P w K H' p el rd first ends R := by
  obtain ⟨h1, h2, L, h3, h4, h5⟩ := h
  obtain ⟨x, b, c, e⟩ := id hd
  exact ⟨s _ _ (fun z => by rw [z, e] at h1; cases h1) h1, sqL_sx hd s h2, L, s _ _ (fun z => by rw [z, e] at h3; cases h3) h3, fun y m => (h4 y m).mono fun _ _ q => sqT_sx hd s q, h5⟩
theorem paired_imp {α β : Type} {A B : α → β → Prop} {as : List α} {bs : List β} (h : Paired A as bs) (i : ∀ a b, A a b → B a b) : Paired B as bs := by
  induction h with
  | nil => exact .nil
  | cons h _ ih => exact .cons (i _ _ h) ih
end Kl
set_option maxRecDepth 100000
set_option maxHeartbeats 4000000
namespace Kl
open PySem PySem.Spec PyProof.Rows L2 Gx Mx
theorem name_len {z : Str} (h : nameB z = true) : z.length ≤ 8 := by
  unfold nameB at h
  simp only [Bool.and_eq_true, decide_eq_true_eq] at h
  exact h.1.2
theorem rdOk_mk {first : Str} {ends : List Str} {R : Rds} (n1 : nameB first = true) (n2 : ascB ends = true) (n3 : ∀ r ∈ R, lineB r = true) (l40 : R.length ≤ 40) (nf : first ∉ ends) (six : ∀ ys, IsSt (statesL first ends R) ys → ys.length ≤ 6)
    (good : ∀ r ∈ R, goodB first ends r = true) (nd : (R.map (·.1)).Nodup) (le : ends.length ≤ 6) : RdOk first ends R where
  ok := fun ys hys => by
    have := six ys hys
    unfold readerB readsB
    rw [n1, n2, decide_eq_true (show (R.length : Int) ≤ 40 by omega), List.all_eq_true.mpr n3, decide_eq_false nf, decide_eq_true (show (ys.length : Int) ≤ 6 by omega), List.all_eq_true.mpr good]
    rfl
  nd := nd
  le := le
  lr := l40
  f8 := name_len n1
  e8 := fun z m => by
    unfold ascB at n2
    simp only [Bool.and_eq_true, List.all_eq_true] at n2
    exact name_len (n2.1.1 z m)
  r8 := fun r m => by
    have h := n3 r m
    unfold lineB digB at h
    simp only [Bool.and_eq_true, decide_eq_true_eq, List.all_eq_true] at h
    exact ⟨name_len h.1.1, by have := h.1.2.1; omega, fun y my => name_len (h.1.2.2.1 y my), name_len h.2⟩
theorem RdOk.parts {first : Str} {ends : List Str} {R : Rds} (h : RdOk first ends R) : nameB first = true ∧ ascB ends = true ∧ (∀ r ∈ R, lineB r = true) ∧ first ∉ ends ∧ ∀ r ∈ R, goodB first ends r = true := by
  obtain ⟨ys, hys⟩ := isSt_ex (statesL first ends R)
  have h1 := h.ok ys hys
  unfold readerB readsB at h1
  simp only [Bool.and_eq_true, decide_eq_true_eq, List.all_eq_true, Bool.not_eq_true', decide_eq_false_iff_not] at h1
  exact ⟨h1.1.1.1, h1.1.1.2.1, h1.1.1.2.2.2, h1.1.2.1, h1.2⟩
theorem mem_states {first : Str} {ends : List Str} {R : Rds} {z : Str} : z ∈ statesL first ends R ↔ z = first ∨ z ∈ ends ∨ (∃ r ∈ R, r.1.1 = z) ∨ ∃ r ∈ R, r.2 = z := by
  unfold statesL
  simp only [List.mem_cons, List.mem_append, List.mem_map]
/-- eqM tells whether the lines are the same -/
theorem valV_mem {R : Rds} {k : KW} {z : Str} (h : valV (R.map fun q => (q.1, V.str q.2)) k = some (V.str z)) : (k, z) ∈ R := by
  induction R with
  | nil => cases h
  | cons x R ih =>
    rw [List.map_cons] at h
    by_cases e : x.1 = k
    · rw [valV_pos (p := (x.1, V.str x.2)) e] at h
      have : x.2 = z := V.str.inj (Option.some.inj h)
      rw [← e, ← this]
      exact List.mem_cons_self
    · rw [valV_neg (p := (x.1, V.str x.2)) e] at h
      exact List.mem_cons_of_mem _ (ih h)
end Kl
set_option maxRecDepth 100000
set_option maxHeartbeats 4000000
namespace Kl
open PySem PySem.Spec PyProof.Rows L2 Gx Mx
/-- the state behind s by the digit g, "" if there is none -/
def stp (R : Rds) (s : Str) (g : List Str) : Str := txK ((valV (R.map fun r => (r.1, V.str r.2)) (s, g)).getD (.str ""))
theorem stp_val (R : Rds) (s : Str) (g : List Str) : (valV (R.map fun r => (r.1, V.str r.2)) (s, g)).getD (.str "") = .str (stp R s g) := by
  unfold stp
  cases e : valV (R.map fun r => (r.1, V.str r.2)) (s, g) with
  | none => rfl
  | some v =>
    have : ∃ z, v = V.str z := by
      induction R with
      | nil => cases e
      | cons x R ih =>
        rw [List.map_cons] at e
        by_cases c : x.1 = (s, g)
        · rw [valV_pos (p := (x.1, V.str x.2)) c] at e
          exact ⟨x.2, (Option.some.inj e).symm⟩
        · rw [valV_neg (p := (x.1, V.str x.2)) c] at e
          exact ih e
    obtain ⟨z, rfl⟩ := this
    rfl
theorem stp_in {R : Rds} (nd : (R.map (·.1)).Nodup) {s t : Str} {g : List Str} (m : ((s, g), t) ∈ R) : stp R s g = t := by
  unfold stp
  rw [valV_own nd m]
  rfl
theorem stp_out {R : Rds} {s : Str} {g : List Str} (h : ∀ t, ((s, g), t) ∉ R) : stp R s g = "" := by
  unfold stp
  have e : valV (R.map fun r => (r.1, V.str r.2)) (s, g) = none := by
    cases c : valV (R.map fun r => (r.1, V.str r.2)) (s, g) with
    | none => rfl
    | some v =>
      have q := stp_val R s g
      rw [c] at q
      have q2 : v = .str (stp R s g) := q
      rw [q2] at c
      exact absurd (valV_mem c) (h _)
  rw [e]
  rfl
theorem stp_cases (R : Rds) (s : Str) (g : List Str) : ((s, g), stp R s g) ∈ R ∨ (stp R s g = "" ∧ ∀ t, ((s, g), t) ∉ R) := by
  cases c : valV (R.map fun r => (r.1, V.str r.2)) (s, g) with
  | none =>
    refine .inr ⟨by unfold stp; rw [c]; rfl, fun t m => ?_⟩
    have : (R.map fun r => (r.1, V.str r.2)).any (fun kv => decide (kv.1 = (s, g))) = true := List.any_eq_true.mpr ⟨((s, g), V.str t), List.mem_map.mpr ⟨_, m, rfl⟩, decide_eq_true rfl⟩
    rw [valV_any, c] at this
    cases this
  | some v =>
    have q := stp_val R s g
    rw [c] at q
    have q2 : v = .str (stp R s g) := q
    rw [q2] at c
    exact .inl (valV_mem c)
/-- what is asked of lines: one for each place, no state is "" -/
structure Lns (R : Rds) : Prop where
  nd : (R.map (·.1)).Nodup
  ne : ∀ r ∈ R, r.1.1 ≠ "" ∧ r.2 ≠ ""
theorem Lns.none {R : Rds} (h : Lns R) (g : List Str) : stp R "" g = "" := by
  rcases stp_cases R "" g with m | ⟨e, _⟩
  · exact absurd rfl (h.ne _ m).1
  · exact e
theorem Lns.sub {R B : Rds} (h : Lns R) (s : B.Sublist R) : Lns B := ⟨h.nd.sublist (s.map _), fun r m => h.ne r (s.subset m)⟩
/-- the pairs of states to which rows lead in two readers -/
inductive PR (R S : Rds) (D : List (List Str)) (a b : Str) : Str × Str → Prop
  | start : PR R S D a b (a, b)
  | step {p : Str × Str} {g : List Str} : PR R S D a b p → g ∈ D → PR R S D a b (stp R p.1 g, stp S p.2 g)
/-- no row is taken by just one of both -/
def Alike (ends ends' : List Str) (R S : Rds) (D : List (List Str)) (a b : Str) : Prop := ∀ p, PR R S D a b p → (p.1 ∈ ends ↔ p.2 ∈ ends')
section
variable {first : Str} {ends : List Str} {R B : Rds} {D : List (List Str)}
theorem PR.swap {R S : Rds} {D : List (List Str)} {a b : Str} {p : Str × Str} (q : PR R S D a b p) : PR S R D b a (p.2, p.1) := by
  induction q with
  | start => exact .start
  | step _ m ih => exact .step (p := (_, _)) ih m
theorem Alike.swap {ends ends' : List Str} {R S : Rds} {a b : Str} (h : Alike ends ends' R S D a b) : Alike ends' ends S R D b a := fun p q => (h _ q.swap).symm
end
section
variable {first : Str} {ends : List Str} {R : Rds} {D : List (List Str)} {σ : Str → Str}
theorem st_first : first ∈ statesL first ends R := mem_states.mpr (.inl rfl)
end
end Kl
set_option maxRecDepth 100000
set_option maxHeartbeats 4000000
namespace Kl
open PySem PySem.Spec PyProof.Rows L2 Gx Mx
theorem pss_nvK {X : Cx} {b : List Stmt} : PSs X b (fun _ _ _ => False) := ⟨fun _ _ _ _ _ _ h => h.elim⟩
/-- a digit of a loose row -/
def dgB (q : List Str) : Bool := decide ((q.length : Int) ≤ 20) && (q.all nameB && sortedS q)
/-- the state behind digits -/
def runR (R : Rds) : Str → List (List Str) → Str
  | s, [] => s
  | s, g :: gs => runR R (stp R s g) gs
theorem runR_snoc (R : Rds) : ∀ (s : Str) (gs : List (List Str)) (g : List Str), runR R s (gs ++ [g]) = stp R (runR R s gs) g
  | _, [], _ => rfl
  | s, _ :: gs, g => runR_snoc R _ gs g
theorem rf_behind (first : Str) (e d st sp : Addr) : List.lookup ("behind" : Str) (rdF first e d st sp) = none := by
  have h1 : (("behind" : Str) == "_first") = false := by decide +kernel
  have h2 : (("behind" : Str) == "_ends") = false := by decide +kernel
  have h3 : (("behind" : Str) == "_reads") = false := by decide +kernel
  have h4 : (("behind" : Str) == "_states") = false := by decide +kernel
  have h5 : (("behind" : Str) == "_spare") = false := by decide +kernel
  simp [List.lookup, h1, h2, h3, h4, h5]
theorem rf_takes (first : Str) (e d st sp : Addr) : List.lookup ("takes" : Str) (rdF first e d st sp) = none := by
  have h1 : (("takes" : Str) == "_first") = false := by decide +kernel
  have h2 : (("takes" : Str) == "_ends") = false := by decide +kernel
  have h3 : (("takes" : Str) == "_reads") = false := by decide +kernel
  have h4 : (("takes" : Str) == "_states") = false := by decide +kernel
  have h5 : (("takes" : Str) == "_spare") = false := by decide +kernel
  simp [List.lookup, h1, h2, h3, h4, h5]
section
variable {P : Program} {w : World} {K : PySem.W.Frag} {mg : Str → Option Value} {base : Heap}
def spDgs (K : PySem.W.Frag) : Sp := fun vs H Q _ => ∃ (p : Addr) (LL : List (Addr × List Str)), vs = [V.ref p] ∧ SqT K H p (LL.map fun q => V.ref q.1) ∧ TsAt K H LL ∧ LL.length ≤ 402 ∧ (∀ q ∈ LL, dgB q.2 = true ∧ q.2.length ≤ 20 ∧ ∀ z ∈ q.2, z.length ≤ 1000) ∧ ∀ H', Same H H' → Q (.bl true) H'
theorem ok_dgs {f : Addr} {fd : FuncData} (F : Fun K "are_digits" "are_digits" s_are_digits f fd) (T : Top K mg) : FnOk P w K mg base CX0 4 f fd ["value"] (spDgs K) := by
  obtain ⟨tm, gm⟩ := T.g_LOOSE_DIGIT
  have cs : CalO P w K mg base 3 "is_sorted" ["value", "most"] 1 ["most"] (fun vs zs => vs ++ zs) (spSorted K) := T.d_is_sorted.calO fun f fd F => ok_sorted F T
  refine F.ok sc_are_digits (fun vs H Q E h => ?_) (fun cdv A outer s H vs Q E hr h => ?_)
  · obtain ⟨p, LL, rfl, _⟩ := h
    rfl
  · obtain ⟨p, LL, rfl, hp, hT, l4, hg, q⟩ := h
    refine ⟨_, pss_one (ps_ret (pe_and (pe_callB call_isi (by rfl) T.b_isinstance (by decide +kernel) (pa_cons (pv 0) (pa_cons (pe_bltn (v := .ty "tuple") (by rfl) T.b_tuple (by decide +kernel) rfl) pa_nil)))
      (pe_one (pe_callB (cr_all rfl) (by rfl) T.b_all (by decide +kernel) (pa_cons (pe_lc (own := [("digit", 1)]) (g := gName 1) (tt := tYes) rfl sc_are_digits.nd (pi_tup (pv 0))
        (blkOk_by (N := ["value", "digit"]) (sc := defScope s_are_digits) (by decide +kernel)) (fun _ _ _ _ _ => pg_name (i := 1) sc_are_digits.nd rfl (.inl rfl)) (fun _ _ _ _ _ => pts_nil)
        (fun _ _ _ _ _ => pe_calO cs hr (by rfl) (pa_cons (pv 1) pa_nil) (pk_cons (pe_glob (v := .int 20) (by rfl) gm ⟨_, rfl⟩) pk_nil))) pa_nil))))), ?_⟩
    have big : 100000 ≤ sizeLine := by decide
    refine ⟨_, rfl, _, .ty "tuple", .type "tuple", .type "tuple", true, rfl, .ty _, ty_sq hp, kit_ty (by decide +kernel), true, rfl, ?_⟩
    rw [if_pos rfl]
    refine ⟨_, rfl, p, rfl, ⟨_, hp⟩, fun D hD => ?_⟩
    refine lc_it (g := gName 1) (tt := tYes) (vs := [1]) (walk_tup (K := K) (a := p) (xs := LL.map fun q => V.ref q.1)) (fun j G' => G' D = some (.lst (((LL.take j).map fun _ => true).map V.bl)) ∧ Same H G')
      ⟨upd_same, same_new (Same.refl H) hD⟩ (fun j G' _ h => sqT_same h.2 hp) (fun j u Gx G' hj h hy => ?_) (fun G' h => ?_)
    · obtain ⟨eD, sm⟩ := h
      obtain ⟨rfl, hu⟩ := hy
      rw [List.getElem?_map] at hu
      obtain ⟨q0, hq0, rfl⟩ := Option.map_eq_some_iff.mp hu
      have hm := List.mem_of_getElem? hq0
      obtain ⟨g1, g2, g3⟩ := hg q0 hm
      have hs := sqT_same sm (hT q0 hm)
      refine ⟨rfl, _, rfl, rfl, rfl, q0.1, q0.2, 20, rfl, hs, ty_sq hs, by decide, by decide, by omega, g3, fun G3 s3 => ?_⟩
      refine ⟨_, s3 _ _ eD, ?_, ?_, fun b o e => by rw [upd_ne (ne_of_none e hD)]; exact s3 _ _ (sm b o e)⟩
      · rw [List.length_map, List.length_map, List.length_take]
        omega
      · rw [upd_same, List.take_add_one, hq0, List.map_append, List.map_append]
        show some (HO.lst (_ ++ [V.bl (dgB q0.2)])) = some (HO.lst (_ ++ [V.bl true]))
        rw [g1]
    · obtain ⟨eD, sm⟩ := h
      rw [List.length_map, List.take_length] at eD
      refine ⟨D, _, rfl, .inl (.inl eD), ?_⟩
      rw [List.all_eq_true.mpr (fun b m => by obtain ⟨_, _, rfl⟩ := List.mem_map.mp m; rfl)]
      exact q G' sm
theorem ok_ldgs {f : Addr} {fd : FuncData} (F : Fun K "are_loose_digits" "are_loose_digits" s_are_loose_digits f fd) (T : Top K mg) : FnOk P w K mg base CX0 5 f fd ["value"] (spDgs K) := by
  obtain ⟨tm, gm⟩ := T.g__LOOSE_RANKS
  have cd : Cal P w K mg base 4 "are_digits" ["value"] (spDgs K) := T.d_are_digits.cal fun f fd F => ok_dgs F T
  refine F.ok sc_are_loose_digits (fun vs H Q E h => ?_) (fun cdv A outer s H vs Q E hr h => ?_)
  · obtain ⟨p, LL, rfl, _⟩ := h
    rfl
  · obtain ⟨p, LL, rfl, hp, hT, l4, hg, q⟩ := h
    refine ⟨_, pss_one (ps_ret (pe_and (pe_callB call_isi (by rfl) T.b_isinstance (by decide +kernel) (pa_cons (pv 0) (pa_cons (pe_bltn (v := .ty "tuple") (by rfl) T.b_tuple (by decide +kernel) rfl) pa_nil)))
      (pe_and (pe_cmpR op_le (pe_callB call_len_seq (by rfl) T.b_len PySem.boot_len (pa_cons (pv 0) pa_nil)) (pe_glob (v := .int 402) (by rfl) gm ⟨_, rfl⟩) (nomark _))
        (pe_one (pe_cal cd hr (by rfl) (pa_cons (pv 0) pa_nil)))))), ?_⟩
    refine ⟨_, rfl, _, .ty "tuple", .type "tuple", .type "tuple", true, rfl, .ty _, ty_sq hp, kit_ty (by decide +kernel), true, rfl, ?_⟩
    rw [if_pos rfl]
    refine ⟨_, rfl, p, _, rfl, .inr hp, _, _, rfl, rfl, _, rfl, ?_⟩
    rw [List.length_map, decide_eq_true (show ((LL.length : Nat) : Int) ≤ 402 by omega), if_pos rfl]
    exact ⟨_, rfl, p, LL, rfl, hp, hT, l4, hg, q⟩
def spBehind (P : Program) (w : World) (K : PySem.W.Frag) (C : Addr) : Sp := fun vs H Q _ => ∃ (x p : Addr) (first : Str) (ends : List Str) (R : Rds) (LL : List (Addr × List Str)), vs = [.ref x, .ref p] ∧ RdrAt P w K C H x first ends R ∧ SqT K H p (LL.map fun q => V.ref q.1) ∧ TsAt K H LL ∧ LL.length ≤ 402 ∧ (∀ q ∈ LL, dgB q.2 = true ∧ q.2.length ≤ 20 ∧ ∀ z ∈ q.2, z.length ≤ 1000) ∧
  ∀ H', Same H H' → Q (.str (runR R first (LL.map (·.2)))) H'
theorem ok_behind {C f : Addr} {fd : FuncData} (F : Fun K "behind" "Reader.behind" s_Reader_behind f fd) (T : Top K mg) (TC : Cl_Reader K mg C) : FnOk P w K mg base CX0 6 f fd ["self", "digits"] (spBehind P w K C) := by
  have cd : Cal P w K mg base 5 "are_loose_digits" ["value"] (spDgs K) := T.d_are_loose_digits.cal fun f fd F => ok_ldgs F T
  refine F.ok sc_Reader_behind (fun vs H Q E h => ?_) (fun cdv A outer s H vs Q E hr h => ?_)
  · obtain ⟨x, p, first, ends, R, LL, rfl, _⟩ := h
    rfl
  · obtain ⟨x, p, first, ends, R, LL, rfl, hR, hp, hT, l4, hg, q⟩ := h
    refine ⟨_, pss_cut (ps_if (pt_not (pt_val (pe_cal cd hr (by rfl) (pa_cons (pv 1) pa_nil)))) pss_nvK pss_nil)
      (pss_cut (ps_set (i := 2) sc_Reader_behind.nd rfl (.inl rfl) (pe_fld (pv 0) rfl))
      (pss_cut (ps_for PassesOwn.never rfl (pi_tup (pv 1)) (pg_name (i := 3) sc_Reader_behind.nd rfl (.inl rfl))
        (pss_one (ps_set (i := 2) sc_Reader_behind.nd rfl (.inl rfl) (pe_nget2 (P := P) (w := w) (K := K) (by exact ⟨rfl, rfl, rfl⟩) (by exact hr.units) (pe_fld (pv 0) rfl) (pe_tup (pa_cons (pv 2) (pa_cons (pv 3) pa_nil))) pe_str (by constructor <;> rfl)))))
      (pss_one (ps_ret (pv 2))))), ?_⟩
    have big : 100000 ≤ sizeLine := by decide
    obtain ⟨dx, e, d, st, sp, ys, M, hx, he, ⟨L, k1, k2, k3⟩, _⟩ := id hR
    refine ⟨fun σ' G => σ' = [some (.ref x), some (.ref p), none, none] ∧ Same H G, ?_, ?_⟩
    · refine ⟨_, rfl, p, LL, rfl, hp, hT, l4, hg, fun H1 s1 => ?_⟩
      refine ⟨_, rfl, ?_⟩
      show (if (!true) = true then _ else _)
      rw [if_neg (by decide)]
      exact ⟨rfl, s1⟩
    rintro σ' G1 ⟨rfl, s1⟩
    refine ⟨fun σ' G => σ' = [some (.ref x), some (.ref p), some (.str first), none] ∧ Same H G, ?_, ?_⟩
    · exact ⟨_, rfl, x, C, dx, _, _, rfl, s1 _ _ hx, TC.cl, TC.n_first, rf_first _ _ _ _ _, rfl, s1⟩
    rintro σ' G2 ⟨rfl, s2⟩
    refine ⟨fun σ' G => ∃ t3 : Option V, σ' = [some (.ref x), some (.ref p), some (.str (runR R first (LL.map (·.2)))), t3] ∧ Same H G, ?_, ?_⟩
    · refine ⟨_, rfl, p, rfl, ⟨_, sqT_same s2 hp⟩, ?_⟩
      refine for_it (walk_tup (K := K) (a := p) (xs := LL.map fun q => V.ref q.1)) (fun j σ' G => ∃ t3 : Option V, σ' = [some (.ref x), some (.ref p), some (.str (runR R first ((LL.take j).map (·.2)))), t3] ∧ Same H G) ⟨none, rfl, s2⟩ (fun j σ' G _ h => by obtain ⟨_, _, s⟩ := h; exact sqT_same s hp) (fun j u σ' G Gy hj h hy => ?_) (fun σ' G h => ?_)
      · obtain ⟨t3, rfl, s3⟩ := h
        obtain ⟨rfl, hu⟩ := hy
        rw [List.getElem?_map] at hu
        obtain ⟨q0, hq0, rfl⟩ := Option.map_eq_some_iff.mp hu
        have hm := List.mem_of_getElem? hq0
        refine ⟨_, rfl, x, C, dx, _, _, rfl, s3 _ _ hx, TC.cl, TC.n_reads, rf_reads _ _ _ _ _, d, toN L, rfl, .inl (s3 _ _ k1), _, rfl, _, rfl, by show 2 ≤ sizeLine; omega, fun t nt => ?_⟩
        have s4 := same_new (o := .tup [V.str (runR R first ((LL.take j).map (·.2))), V.ref q0.1]) (Same.refl Gy) nt
        have et : (upd Gy t (.tup [V.str (runR R first ((LL.take j).map (·.2))), V.ref q0.1])) t = some (.tup [V.str (runR R first ((LL.take j).map (·.2))), V.ref q0.1]) := upd_same
        generalize upd Gy t (.tup [V.str (runR R first ((LL.take j).map (·.2))), V.ref q0.1]) = G4 at *
        have s34 := s3.trans s4
        have v1 : (getN (toN L) (keyK (runR R first ((LL.take j).map (·.2)), q0.2))).getD (.str "") = .str (runR R first ((LL.take (j + 1)).map (·.2))) := by
          rw [getN_to, k3, List.take_add_one, hq0, List.map_append]
          show _ = V.str (runR R first ((LL.take j).map (·.2) ++ [q0.2]))
          rw [runR_snoc]
          exact stp_val R _ q0.2
        refine ⟨t, toN L, keyK (runR R first ((LL.take j).map (·.2)), q0.2), rfl, ⟨.inl (s34 _ _ k1), fun e m => ?_⟩, keyK_at.mpr ⟨q0.1, SqT.of et, sqT_same s34 (hT q0 hm)⟩, ?_⟩
        · obtain ⟨z, mz, rfl⟩ := List.mem_map.mp m
          exact keyA_same s34 (k2 z mz)
        rw [v1]
        exact ⟨_, rfl, s34⟩
      · obtain ⟨t3, rfl, s3⟩ := h
        rw [List.length_map, List.take_length]
        exact ⟨t3, rfl, s3⟩
    rintro σ' G3 ⟨t3, rfl, s3⟩
    exact ⟨_, rfl, q G3 s3⟩
end
end Kl
set_option maxRecDepth 100000
set_option maxHeartbeats 4000000
namespace Kl
open PySem PySem.Spec PyProof.Rows L2 Gx Mx
theorem str_assoc (a b c : Str) : a ++ b ++ c = a ++ (b ++ c) := by
  show (⟨a.cps ++ b.cps ++ c.cps⟩ : Str) = ⟨a.cps ++ (b.cps ++ c.cps)⟩
  rw [Array.append_assoc]
theorem line_join (r : KW × Str) : Txt.join " " ["read", r.1.1, textD r.1.2, r.2] = lineR r := by
  rw [TL.join_eq]
  show ("read" : Str) ++ " " ++ (r.1.1 ++ " " ++ (textD r.1.2 ++ " " ++ r.2)) = _
  unfold lineR
  have e1 : ("read " : Str) = ("read" : Str) ++ " " := by decide +kernel
  rw [e1]
  simp only [str_assoc]
theorem ends_join {ends : List Str} (h : ends ≠ []) : ("ends " : Str) ++ Txt.join " " ends = Txt.join " " ("ends" :: ends) := by
  rw [TL.join_eq, TL.join_eq]
  cases ends with
  | nil => exact absurd rfl h
  | cons z r =>
    have e1 : ("ends " : Str) = ("ends" : Str) ++ " " := by decide +kernel
    rw [e1]
    rfl
section
variable {P : Program} {w : World} {K : PySem.W.Frag} {mg : Str → Option Value} {base : Heap}
def spRLs (P : Program) (w : World) (K : PySem.W.Frag) : Sp := fun vs H Q _ => ∃ (p el rd : Addr) (first : Str) (ends : List Str) (R : Rds), vs = [.ref p] ∧ PlainAt P w K H p el rd first ends R ∧ RdOk first ends R ∧ ends ≠ [] ∧ (∀ r ∈ R, ∀ y ∈ r.1.2, PyData.strOk y = true) ∧
  ∀ (R' : Rds) (l : Addr) (H' : Hp), R'.Perm R → Asc R' → Same H H' → H l = none → H' l = some (.lst ((linesR first ends R').map V.str)) → Q (.ref l) H'
theorem ok_rls {f : Addr} {fd : FuncData} (F : Fun K "_law_reader_lines" "_law_reader_lines" s_law_reader_lines f fd) (T : Top K mg) : FnOk P w K mg base CX0 2 f fd ["_law_plain"] (spRLs P w K) := by
  have cd : Cal P w K mg base 1 "_law_digit_text" ["_law_digit"] (spDigT K) := T.d_law_digit_text.cal fun f fd F => ok_digt F T
  refine F.ok sc_law_reader_lines (fun vs H Q E h => ?_) (fun cdv A outer s H vs Q E hr h => ?_)
  · obtain ⟨p, el, rd, first, ends, R, rfl, _⟩ := h
    rfl
  · obtain ⟨p, el, rd, first, ends, R, rfl, ⟨hp, he, hD⟩, hok, hne, hso, q⟩ := h
    refine ⟨_, pss_cut (ps_set (i := 1) sc_law_reader_lines.nd rfl (.inl rfl) (pe_lst (pa_cons (pe_op op_add_str pe_str (pe_dget (hu' hr) (pv 0) pe_str (fun _ _ => rfl))) (pa_cons (pe_op op_add_str pe_str (pe_join pe_str (pe_dget (hu' hr) (pv 0) pe_str (fun _ _ => rfl)))) pa_nil))))
      (pss_cut (ps_for PassesOwn.never rfl (pi_listK (K := K) rfl (pe_callB (cr_sortedN (P := P) (w := w) (K := K) (by exact ⟨rfl, rfl, rfl⟩) rfl (by exact hr.units)) (by rfl) T.b_sorted (by decide +kernel) (pa_cons (pe_dget (hu' hr) (pv 0) pe_str (fun _ _ => rfl)) pa_nil)))
          (pg_tup rfl (pgs_cons (pg_name (i := 2) sc_law_reader_lines.nd rfl (.inl rfl)) (pgs_cons (pg_name (i := 3) sc_law_reader_lines.nd rfl (.inl rfl)) pgs_nil)))
        (pss_one (ps_expr (pe_bm PySem.F.plainAttrs_list PySem.F.slot_list_append PySem.F.type_list_append mt_append (pv 1) (pa_cons
          (pe_join pe_str (pe_lst (pa_cons pe_str (pa_cons (pv 2) (pa_cons (pe_cal cd hr (by rfl) (pa_cons (pv 3) pa_nil)) (pa_cons (pe_nget (P := P) (w := w) (K := K) (by exact ⟨rfl, rfl, rfl⟩) (by exact hr.units) (pe_dget (hu' hr) (pv 0) pe_str (fun _ _ => rfl)) (pe_tup (pa_cons (pv 2) (pa_cons (pv 3) pa_nil))) (by intro _ _; rfl)) pa_nil)))))) pa_nil)))))
      (pss_one (ps_ret (pv 1)))), ?_⟩
    have big : 100000 ≤ sizeLine := by decide
    have k6 : ("first " : Str).length = 6 := rfl
    have k5 : ("ends " : Str).length = 5 := rfl
    have k1 : (" " : Str).length = 1 := rfl
    have k4 : ("read" : Str).length = 4 := rfl
    obtain ⟨L, hdL, hkL, hL⟩ := id hD
    have hlen := prM_len hL
    have hlr := hok.lr
    have ndL : (L.map (·.1)).Nodup := by
      have e := congrArg (List.map Prod.fst) hL
      unfold prM at e
      rw [List.map_map, List.map_map] at e
      have e' : L.map (·.1) = R.map (·.1) := e
      rw [e']
      exact hok.nd
    refine ⟨fun σ' G => ∃ l : Addr, σ' = [some (.ref p), some (.ref l), none, none] ∧ H l = none ∧ G l = some (.lst [V.str ("first " ++ first), V.str (Txt.join " " ("ends" :: ends))]) ∧ Same H G, ?_, ?_⟩
    · have js := join_by (e := " ") rfl hok.e8
      have sb := sum_by hok.e8
      have le := hok.le
      refine ⟨_, rfl, p, _, rfl, pg1 hp, _, _, rfl, rfl, by rw [k6]; have := hok.f8; omega, ?_⟩
      refine ⟨⟨_, rfl⟩, _, rfl, p, _, rfl, pg2 hp, " ", el, ends, rfl, rfl, .inl he, by rw [k1]; omega, _, _, rfl, rfl, by rw [k5]; omega, ?_⟩
      refine ⟨by show 2 ≤ sizeLine; omega, fun l nl => ⟨l, rfl, nl, ?_, same_new (Same.refl H) nl⟩⟩
      rw [upd_same, ends_join hne]
    rintro σ' G1 ⟨l, rfl, nl, el1, s1⟩
    refine ⟨fun σ' G => ∃ (R' : Rds) (t u : Option V), σ' = [some (.ref p), some (.ref l), t, u] ∧ R'.Perm R ∧ Asc R' ∧ G l = some (.lst ((linesR first ends R').map V.str)) ∧ Same H G, ?_, ?_⟩
    · refine ⟨_, rfl, p, _, rfl, pg3 (s1 _ _ hp), rd, L, rfl, ⟨.inl (s1 _ _ hdL), fun y hy => ?_⟩, by omega, fun L' kl hperm hsrt nkl => ?_⟩
      · obtain ⟨z, hz, rfl⟩ := List.mem_map.mp hy
        exact keyA_same s1 (hkL z hz)
      have nk : G1 kl = none := nkl
      have nlk : kl ≠ l := fun z => by rw [z, el1] at nk; cases nk
      have s2 : Same G1 (upd G1 kl (.lst (L'.map fun x => V.ref x.2.1))) := same_new (Same.refl G1) nk
      have ekl : (upd G1 kl (.lst (L'.map fun x => V.ref x.2.1))) kl = some (.lst (L'.map fun x => V.ref x.2.1)) := upd_same
      generalize upd G1 kl (.lst (L'.map fun x => V.ref x.2.1)) = G2 at *
      have s02 := s1.trans s2
      have nd' : (L'.map (·.1)).Nodup := (hperm.map (·.1)).nodup_iff.mpr ndL
      have llen : L'.length = L.length := hperm.length_eq
      refine ⟨kl, rfl, ⟨_, .inl (.inl ekl)⟩, ?_⟩
      refine for_it (walk_list (K := K) (a := kl) (xs := L'.map fun x => V.ref x.2.1)) (fun j σ' G => ∃ (t u : Option V), σ' = [some (.ref p), some (.ref l), t, u] ∧ G l = some (.lst (V.str ("first " ++ first) :: V.str (Txt.join " " ("ends" :: ends)) :: ((L'.take j).map fun z => V.str (lineR (z.1, txK z.2.2))))) ∧ Same H G ∧ G kl = some (.lst (L'.map fun x => V.ref x.2.1)))
        ⟨none, none, rfl, s2 _ _ el1, s02, ekl⟩ (fun j σ' G _ h => by obtain ⟨_, _, _, _, _, k⟩ := h; exact .inl (.inl k)) (fun j x σ' G G' hj h hy => ?_) (fun σ' G h => ?_)
      · obtain ⟨t, u, rfl, eF, sm, ek⟩ := h
        obtain ⟨rfl, hu⟩ := hy
        rw [List.getElem?_map] at hu
        obtain ⟨y, hy, rfl⟩ := Option.map_eq_some_iff.mp hu
        have hyL : y ∈ L' := List.mem_of_getElem? hy
        obtain ⟨i, hi⟩ := List.mem_iff_getElem?.mp (hperm.mem_iff.mp hyL)
        have hv : getN (toN L) (keyK y.1) = some y.2.2 := getN_own ndL hi
        obtain ⟨r, hr0, er1, er2⟩ := prM_at hL hi
        have hrR := List.mem_of_getElem? hr0
        obtain ⟨a1, a2, a3, a4⟩ := hok.r8 r hrR
        have hy0 := hkL y (List.mem_of_getElem? hi)
        obtain ⟨g, hg1, hg2⟩ := keyK_at.mp hy0
        refine ⟨y.2.1, _, rfl, sqT_same sm hg1, rfl, _, _, rfl, _, _, rfl, rfl, ?_⟩
        have lT : (textD y.1.2).length ≤ 27 := by
          rw [er1]
          unfold textD
          split
          · show 1 ≤ 27
            omega
          · have := join_by (e := "+") rfl a3
            omega
        have hj' : j < L'.length := by rw [List.length_map] at hj; exact hj
        refine ⟨_, rfl, ⟨.inl ⟨rfl, _, .inl (.inl eF)⟩, ?_⟩⟩
        refine ⟨⟨_, rfl⟩, _, rfl, _, rfl, g, y.1.2, rfl, sqT_same sm hg2, by rw [er1]; omega, fun z hz => ?_, fun G5 s5 => ?_⟩
        · rw [er1] at hz
          exact ⟨Nat.le_trans (a3 z hz) (by decide), hso r hrR z hz⟩
        refine ⟨_, rfl, p, _, rfl, pg3 (s5 _ _ (sm _ _ hp)), _, rfl, _, rfl, by show 2 ≤ sizeLine; omega, fun q nq => ?_⟩
        have s6 := same_new (o := .tup [V.str y.1.1, V.ref g]) (Same.refl G5) nq
        have e6 : (upd G5 q (.tup [V.str y.1.1, V.ref g])) q = some (.tup [V.str y.1.1, V.ref g]) := upd_same
        generalize upd G5 q (.tup [V.str y.1.1, V.ref g]) = G6 at *
        have s06 := sm.trans (s5.trans s6)
        refine ⟨rd, q, toN L, keyK y.1, V.str r.2, rfl, rfl, ⟨.inl (s06 _ _ hdL), fun z hz => ?_⟩, keyK_at.mpr ⟨g, SqT.of e6, sqT_same s06 hg2⟩, by rw [hv, er2], ?_⟩
        · obtain ⟨z', hz', rfl⟩ := List.mem_map.mp hz
          exact keyA_same s06 (hkL z' hz')
        refine ⟨by show 4 ≤ sizeLine; omega, fun m nm => ?_⟩
        have s7 := same_new (o := .lst [V.str "read", V.str y.1.1, V.str (textD y.1.2), V.str r.2]) (Same.refl G6) nm
        have e7 : (upd G6 m (.lst [V.str "read", V.str y.1.1, V.str (textD y.1.2), V.str r.2])) m = some (.lst [V.str "read", V.str y.1.1, V.str (textD y.1.2), V.str r.2]) := upd_same
        generalize upd G6 m (.lst [V.str "read", V.str y.1.1, V.str (textD y.1.2), V.str r.2]) = G7 at *
        have s47 := s5.trans (s6.trans s7)
        refine ⟨" ", m, ["read", y.1.1, textD y.1.2, r.2], rfl, rfl, .inl (.inl (.inl e7)), ?_, ?_⟩
        · show ("read" : Str).length + (y.1.1.length + ((textD y.1.2).length + (r.2.length + 0))) + 4 * (" " : Str).length ≤ 16777216
          rw [k4, k1, er1]
          rw [er1] at lT
          omega
        refine ⟨l, _, _, rfl, rfl, s47 _ _ eF, ?_, ?_⟩
        · simp only [List.length_cons, List.length_map, List.length_take]
          exact Nat.lt_of_le_of_lt (show min j L'.length + 1 + 1 ≤ 1000 by omega) (by decide)
        have eline : V.str (Txt.join " " ["read", y.1.1, textD y.1.2, r.2]) = V.str (lineR (y.1, txK y.2.2)) := by
          rw [er2]
          exact congrArg V.str (line_join (y.1, r.2))
        refine ⟨_, _, rfl, ?_, fun b o e => ?_, ?_⟩
        · rw [upd_same, eline, List.take_add_one, hy, List.map_append]
          rfl
        · rw [upd_ne (ne_of_none e nl)]
          exact (sm.trans s47) b o e
        · rw [upd_ne nlk]
          exact s47 _ _ ek
      · obtain ⟨t, u, rfl, eF, sm, ek⟩ := h
        rw [List.length_map, List.take_length] at eF
        have valL : ∀ z ∈ L, z.2.2 = V.str (txK z.2.2) := fun z hz => by
          obtain ⟨i, hi⟩ := List.mem_iff_getElem?.mp hz
          obtain ⟨r, _, _, e2⟩ := prM_at hL hi
          rw [e2]
          rfl
        have eR : R = L.map fun z => (z.1, txK z.2.2) := by
          have e := congrArg (List.map fun q : KW × V => (q.1, txK q.2)) hL
          unfold prM at e
          rw [List.map_map, List.map_map] at e
          have e2 : R.map ((fun q : KW × V => (q.1, txK q.2)) ∘ fun r => (r.1, V.str r.2)) = R := by
            have : ((fun q : KW × V => (q.1, txK q.2)) ∘ fun r : KW × Str => (r.1, V.str r.2)) = id := by
              funext r
              rfl
            rw [this, List.map_id]
          rw [e2] at e
          exact e.symm
        refine ⟨L'.map fun z => (z.1, txK z.2.2), t, u, rfl, ?_, ?_, ?_, sm⟩
        · have z := hperm.map fun z : KW × Addr × V => (z.1, txK z.2.2)
          rw [← eR] at z
          exact z
        · unfold Asc
          rw [List.pairwise_map]
          exact hsrt
        · rw [eF]
          unfold linesR
          rw [List.map_cons, List.map_cons, List.map_map, List.map_map]
          rfl
    rintro σ' G3 ⟨R', t, u, rfl, hperm, hasc, el3, s3⟩
    exact ⟨_, rfl, q R' l G3 hperm hasc s3 nl el3⟩
end
end Kl
set_option maxRecDepth 100000
set_option maxHeartbeats 4000000
namespace Kl
open PySem PySem.Spec PyProof.Rows L2 Gx Mx
section
variable {P : Program} {w : World} {K : PySem.W.Frag} {mg : Str → Option Value} {base : Heap}
/-- the values are rows of the digits of L, n at most -/
def RowsD (K : PySem.W.Frag) (H : Hp) (L : List (Addr × List Str)) (n : Nat) (l : List V) : Prop := ∀ v ∈ l, ∃ (p : Addr) (LL : List (Addr × List Str)), v = .ref p ∧ SqT K H p (LL.map fun q => V.ref q.1) ∧ (∀ q ∈ LL, q ∈ L) ∧ LL.length ≤ n
def Tst (K : PySem.W.Frag) (H H' : Hp) : Prop := ∀ p xs, SqT K H p xs → SqT K H' p xs
theorem Tst.trans {H H' H'' : Hp} (a : Tst K H H') (b : Tst K H' H'') : Tst K H H'' := fun p xs h => b p xs (a p xs h)
theorem tst_same {H H' : Hp} (s : Same H H') : Tst K H H' := fun _ _ h => sqT_same s h
theorem tst_lst {H : Hp} {p : Addr} {xs : List V} {o : HO} (e : H p = some (.lst xs)) : Tst K H (upd H p o) := fun _ _ h => sqT_upd (no_lst e) h
theorem RowsD.tst {H H' : Hp} {L : List (Addr × List Str)} {n : Nat} {l : List V} (h : RowsD K H L n l) (t : Tst K H H') : RowsD K H' L n l := fun v hv => by
  obtain ⟨p, zs, a, b, c⟩ := h v hv
  exact ⟨p, zs, a, t _ _ b, c⟩
theorem RowsD.mono {H : Hp} {L : List (Addr × List Str)} {n m : Nat} {l : List V} (h : RowsD K H L n l) (hm : n ≤ m) : RowsD K H L m l := fun v hv => by
  obtain ⟨p, zs, a, b, c, d⟩ := h v hv
  exact ⟨p, zs, a, b, c, Nat.le_trans d hm⟩
theorem RowsD.app {H : Hp} {L : List (Addr × List Str)} {n : Nat} {l m : List V} (h : RowsD K H L n l) (h' : RowsD K H L n m) : RowsD K H L n (l ++ m) := fun v hv => by
  rcases List.mem_append.mp hv with hv | hv
  · exact h v hv
  · exact h' v hv
theorem RowsD.one {H : Hp} {L : List (Addr × List Str)} {n : Nat} {p : Addr} {LL : List (Addr × List Str)} (h : SqT K H p (LL.map fun q => V.ref q.1)) (h1 : ∀ q ∈ LL, q ∈ L) (h2 : LL.length ≤ n) : RowsD K H L n [.ref p] := fun v hv => by
  rw [List.mem_singleton.mp hv]
  exact ⟨p, LL, rfl, h, h1, h2⟩
theorem op_catAK {X : Cx} (hk : X.K = K) : OpR X (binaryOp .Add) (rCatA K) := by
  subst hk
  exact op_catA
def spWords (K : PySem.W.Frag) : Sp := fun vs H Q _ => ∃ (a : Addr) (L : List (Addr × List Str)), vs = [.ref a, .int 4] ∧ SqL K H a (L.map fun q => V.ref q.1) ∧ L.length ≤ 5 ∧
  ∀ (p : Addr) (H' : Hp) (l : List V), Same H H' → H p = none → H' p = some (.lst l) → l.length ≤ 3125 → RowsD K H' L 4 l → Q (.ref p) H'
theorem ok_words {f : Addr} {fd : FuncData} (F : Fun K "_law_words" "_law_words" s_law_words f fd) (T : Top K mg) : FnOk P w K mg base CX0 1 f fd ["_law_digits", "_law_most"] (spWords K) := by
  refine F.ok sc_law_words (fun vs H Q E h => ?_) (fun cdv A outer s H vs Q E hr h => ?_)
  · obtain ⟨a, L, rfl, _⟩ := h
    rfl
  · obtain ⟨a, L, rfl, hS, hlen, q⟩ := h
    refine ⟨_, pss_cons (ps_par (i := 2) (j := 3) rfl sc_law_words.nd rfl rfl (by decide) rfl rfl (pa_cons (pe_lst (pa_cons (pe_tup pa_nil) pa_nil)) (pa_cons (pe_lst (pa_cons (pe_tup pa_nil) pa_nil)) pa_nil)) (by rfl))
      (pss_cons (ps_for PassesOwn.never rfl (pi_range1 (by rfl) T.b_range (pa_cons (pv 1) pa_nil)) (pg_name (i := 4) sc_law_words.nd rfl (.inl rfl))
        (pss_cons (ps_set (i := 5) sc_law_words.nd rfl (.inl rfl) (pe_lst pa_nil))
        (pss_cut (ps_for PassesOwn.never rfl (pi_list (pv 3)) (pg_name (i := 6) sc_law_words.nd rfl (.inr rfl))
            (pss_one (ps_expr (pe_bm PySem.F.plainAttrs_list PySem.F.slot_list_extend PySem.F.type_list_extend mt_extend (pv 5) (pa_cons
              (pe_lc (own := [("_law_digit", 7)]) (g := gName 7) (tt := tYes) rfl sc_law_words.nd (pi_list (pv 0))
                (blkOk_by (N := ["_law_digits", "_law_most", "_law_found", "_law_layer", "_law_turn", "_law_later", "_law_word", "_law_digit"]) (sc := defScope s_law_words) (by decide +kernel))
                (fun _ _ _ _ _ => pg_name (i := 7) sc_law_words.nd rfl (.inl rfl)) (fun _ _ _ _ _ => pts_nil) (fun _ _ _ _ _ => pe_op (op_catAK (K := K) (by exact rfl)) (pv 6) (pe_tup (pa_cons (pv 7) pa_nil)))) pa_nil)))))
        (pss_cons (ps_set (i := 3) sc_law_words.nd rfl (.inl rfl) (pe_callTy call_list_of (by rfl) T.b_list (by decide +kernel) (pa_cons (pv 5) pa_nil)))
        (pss_one (ps_expr (pe_bm PySem.F.plainAttrs_list PySem.F.slot_list_extend PySem.F.type_list_extend mt_extend (pv 2) (pa_cons (pv 5) pa_nil))))))))
      (pss_one (ps_ret (pv 2)))), ?_⟩
    have big : 100000 ≤ sizeLine := by decide
    refine ⟨by show 0 ≤ sizeLine; decide, fun t1 nt1 => ⟨by show 1 ≤ sizeLine; decide, fun pf npf => ⟨by show 0 ≤ sizeLine; decide, fun t2 nt2 => ⟨by show 1 ≤ sizeLine; decide, fun pl npl => ?_⟩⟩⟩⟩
    refine ⟨_, _, rfl, ?_⟩
    obtain ⟨G0, hG0, sm0, ef0, el0, tf0, tl0, hpf, hpl, hne⟩ : ∃ G0 : Hp, G0 = upd (upd (upd (upd H t1 (.tup [])) pf (.lst [.ref t1])) t2 (.tup [])) pl (.lst [.ref t2]) ∧ Same H G0 ∧ G0 pf = some (.lst [.ref t1]) ∧ G0 pl = some (.lst [.ref t2]) ∧
        G0 t1 = some (.tup []) ∧ G0 t2 = some (.tup []) ∧ H pf = none ∧ H pl = none ∧ pf ≠ pl := by
      have s1 := same_new (o := .tup []) (Same.refl H) nt1
      have s2 := same_new (o := .lst [.ref t1]) (Same.refl _) npf
      have s3 := same_new (o := .tup []) (Same.refl _) nt2
      have s4 := same_new (o := .lst [.ref t2]) (Same.refl _) npl
      refine ⟨_, rfl, s1.trans (s2.trans (s3.trans s4)), s4 _ _ (s3 _ _ upd_same), upd_same, s4 _ _ (s3 _ _ (s2 _ _ upd_same)), s4 _ _ upd_same, s1.free npf, s1.free (s2.free (s3.free npl)), ne_of_none (s3 pf _ (upd_same (o := .lst [.ref t1]))) npl⟩
    rw [← hG0]
    clear hG0 nt1 npf nt2 npl
    refine ⟨_, rfl, _, rfl, by decide, by decide, ?_⟩
    refine for_range (lo := 0) (fun i σ' H' => ∃ (pf pl : Addr) (Fl Lr : List V) (y4 y5 y6 y7 : Option V), σ' = [some (.ref a), some (.int 4), some (.ref pf), some (.ref pl), y4, y5, y6, y7] ∧ Same H H' ∧ H pf = none ∧ H pl = none ∧ pf ≠ pl ∧ H' pf = some (.lst Fl) ∧ H' pl = some (.lst Lr) ∧
      RowsD K H' L i Fl ∧ RowsD K H' L i Lr ∧ Lr.length ≤ 5 ^ i ∧ Fl.length ≤ 5 ^ (i + 1)) ⟨pf, pl, _, _, _, _, _, _, rfl, sm0, hpf, hpl, hne, ef0, el0, RowsD.one (LL := []) (SqT.of tf0) (fun z hz => by cases hz) (Nat.le_refl _), RowsD.one (LL := []) (SqT.of tl0) (fun z hz => by cases hz) (Nat.le_refl _), Nat.le_refl _, by show 1 ≤ 5; decide⟩ (fun i σ' H' hi hP => ?_) (fun σ' H' hP => ?_)
    · clear sm0 ef0 el0 tf0 tl0 hpf hpl hne
      obtain ⟨pf, pl, Fl, Lr, y4, y5, y6, y7, rfl, sm, hpf, hpl, hne, ef, el, rF, rL, lL, lF⟩ := hP
      have hi4 : i < 4 := by have : (4 : Int).toNat = 4 := rfl; omega
      have h5i : 5 ^ i ≤ 125 := Nat.le_trans (Nat.pow_le_pow_right (by decide) (show i ≤ 3 by omega)) (by decide)
      have h5s : 5 ^ (i + 1) = 5 * 5 ^ i := by rw [Nat.pow_succ, Nat.mul_comm]
      have h5t : 5 ^ (i + 1 + 1) = 5 * 5 ^ (i + 1) := by rw [Nat.pow_succ (n := 5) (m := i + 1), Nat.mul_comm]
      refine ⟨by show 0 ≤ sizeLine; decide, fun pn npn => ?_⟩
      have hpn : H pn = none := sm.free npn
      have s1 := same_new (o := .lst []) (Same.refl H') npn
      have en1 : upd H' pn (.lst []) pn = some (.lst []) := upd_same
      have nfn : pf ≠ pn := ne_of_none ef npn
      have nln : pl ≠ pn := ne_of_none el npn
      generalize upd H' pn (.lst []) = H1 at s1 en1 ⊢
      refine ⟨fun σ2 H2 => ∃ (y6 y7 : Option V) (Gl : List V), σ2 = [some (.ref a), some (.int 4), some (.ref pf), some (.ref pl), some (.int (0 + (i : Int))), some (.ref pn), y6, y7] ∧ Same H H2 ∧ H2 pf = some (.lst Fl) ∧ H2 pn = some (.lst Gl) ∧ Gl.length ≤ 5 * Lr.length ∧ RowsD K H2 L (i + 1) Gl ∧ Tst K H' H2, ?_, ?_⟩
      · refine ⟨_, rfl, _, rfl, ⟨_, .inl (.inl (s1 _ _ el))⟩, for_list (xs := Lr) (fun j σ3 H3 => ∃ (y6 y7 : Option V) (Gl : List V), σ3 = [some (.ref a), some (.int 4), some (.ref pf), some (.ref pl), some (.int (0 + (i : Int))), some (.ref pn), y6, y7] ∧ Same H H3 ∧ H3 pf = some (.lst Fl) ∧ H3 pn = some (.lst Gl) ∧ H3 pl = some (.lst Lr) ∧ Gl.length ≤ 5 * j ∧ RowsD K H3 L (i + 1) Gl ∧ Tst K H' H3)
          ⟨_, _, [], rfl, sm.trans s1, s1 _ _ ef, en1, s1 _ _ el, Nat.le_refl _, (fun v hv => by cases hv), tst_same s1⟩ (fun j σ3 H3 _ hP => ?_) (fun j v σ3 H3 hv hP => ?_) (fun σ3 H3 hP => ?_)⟩
        · obtain ⟨_, _, _, _, _, _, _, ec, _⟩ := hP
          exact .inl (.inl ec)
        · obtain ⟨y6, y7, Gl, rfl, sm3, ef3, en3, ec3, lG, rG, ts3⟩ := hP
          obtain ⟨p, zs, rfl, hp, hz, hl⟩ := rL v (List.mem_of_getElem? hv)
          have hjL := (List.getElem?_eq_some_iff.mp hv).1
          have hp3 := ts3 _ _ hp
          refine ⟨_, rfl, .inl ⟨rfl, _, .inl (.inl en3)⟩, ?_⟩
          refine ⟨_, rfl, _, rfl, ⟨_, sqL_sameE sm3 hS⟩, fun D hD => ?_⟩
          refine lc_list (xs := L.map fun q => V.ref q.1) (fun k H4 => ∃ acc : List V, H4 D = some (.lst acc) ∧ acc.length = k ∧ RowsD K H4 L (i + 1) acc ∧ Same H3 H4) ⟨[], upd_same, rfl, (fun v hv => by cases hv), same_new (Same.refl H3) hD⟩ (fun k H4 _ hP => ?_) (fun k v H4 hk hP => ?_) (fun H4 hP => ?_)
          · obtain ⟨_, _, _, _, s4⟩ := hP
            exact sqL_sameE (sm3.trans s4) hS
          · obtain ⟨acc, eD, lA, rA, s4⟩ := hP
            obtain ⟨z, hzw, rfl⟩ : ∃ z, z ∈ L ∧ V.ref z.1 = v := List.mem_map.mp (List.mem_of_getElem? hk)
            have hkw : k < 5 := by
              have := (List.getElem?_eq_some_iff.mp hk).1
              rw [List.length_map] at this
              omega
            have step : ∀ (q : Addr) (ys : List (Addr × List Str)) (H5 : Hp), Same H4 H5 → SqT K H5 q (ys.map fun q => V.ref q.1) → (∀ z ∈ ys, z ∈ L) → ys.length ≤ i + 1 → ∃ acc, H5 D = some (.lst acc) ∧ acc.length < sizeLine ∧
                ∃ acc2 : List V, (upd H5 D (.lst (acc ++ [.ref q]))) D = some (.lst acc2) ∧ acc2.length = k + 1 ∧ RowsD K (upd H5 D (.lst (acc ++ [.ref q]))) L (i + 1) acc2 ∧ Same H3 (upd H5 D (.lst (acc ++ [.ref q]))) := by
              intro q ys H5 s5 hq hy1 hy2
              have eD5 := s5 _ _ eD
              refine ⟨acc, eD5, by omega, _, upd_same, by rw [List.length_append, lA]; rfl, ?_, fun b o e => by rw [upd_ne (ne_of_none e hD)]; exact s5 _ _ (s4 _ _ e)⟩
              exact ((rA.tst (tst_same s5)).app (RowsD.one hq hy1 hy2)).tst (tst_lst eD5)
            refine ⟨rfl, _, rfl, _, rfl, by show 1 ≤ sizeLine; decide, fun q nq => ?_⟩
            have s5 := same_new (o := .tup [.ref z.1]) (Same.refl H4) nq
            have eq5 : upd H4 q (.tup [.ref z.1]) q = some (.tup [.ref z.1]) := upd_same
            generalize upd H4 q (.tup [.ref z.1]) = H5 at s5 eq5 ⊢
            have hp5 : SqT K H5 p (zs.map fun q => V.ref q.1) := sqT_same (s4.trans s5) hp3
            refine ⟨p, q, _, [.ref z.1], rfl, rfl, hp5, SqT.of eq5, ?_, fun e0 => ?_, fun _ e1 => absurd e1 (by simp), fun _ _ r nr => ?_⟩
            · rw [List.length_map]
              exact Nat.le_trans (show zs.length + 1 ≤ 100 by omega) (by decide)
            · exact step q [z] H5 s5 (SqT.of eq5) (fun y hy => by rw [List.mem_singleton.mp hy]; exact hzw) (by show 1 ≤ _; omega)
            · refine step r (zs ++ [z]) _ (s5.trans (same_new (Same.refl H5) nr)) (SqT.of ?_) (fun y hy => ?_) (by rw [List.length_append]; show _ + 1 ≤ _; omega)
              · rw [upd_same, List.map_append]
                rfl
              · rcases List.mem_append.mp hy with hy | hy
                · exact hz y hy
                · rw [List.mem_singleton.mp hy]; exact hzw
          · obtain ⟨acc, eD, lA, rA, s4⟩ := hP
            rw [List.length_map] at lA
            have en4 := s4 _ _ en3
            have ec4 := s4 _ _ ec3
            refine ⟨pn, D, Gl, acc, rfl, rfl, en4, eD, Nat.le_trans (show Gl.length + acc.length ≤ 4000 by omega) (by decide), ?_⟩
            have tt := tst_lst (K := K) (o := .lst (Gl ++ acc)) en4
            refine ⟨_, y7, Gl ++ acc, rfl, fun b o e => ?_, ?_, upd_same, ?_, ?_, ?_, (ts3.trans (tst_same s4)).trans tt⟩
            · rw [upd_ne (ne_of_none e hpn)]; exact s4 _ _ (sm3 _ _ e)
            · rw [upd_ne nfn]; exact s4 _ _ ef3
            · rw [upd_ne nln]; exact ec4
            · rw [List.length_append]; omega
            · exact ((rG.tst (tst_same s4)).app rA).tst tt
        · obtain ⟨y6, y7, Gl, rfl, sm3, ef3, en3, ec3, lG, rG, ts3⟩ := hP
          exact ⟨y6, y7, Gl, rfl, sm3, ef3, en3, lG, rG, ts3⟩
      · rintro σ2 H2 ⟨y6, y7, Gl, rfl, sm2, ef2, en2, lG, rG, ts2⟩
        refine ⟨_, rfl, pn, _, rfl, .inl (.inl (.inl en2)), fun pl' npl' => ?_⟩
        have s4 := same_new (o := .lst Gl) (Same.refl H2) npl'
        have el4 : upd H2 pl' (.lst Gl) pl' = some (.lst Gl) := upd_same
        have ef4 := s4 _ _ ef2
        have en4 := s4 _ _ en2
        have rG4 := rG.tst (tst_same s4)
        have nfl : pf ≠ pl' := ne_of_none ef2 npl'
        generalize upd H2 pl' (.lst Gl) = H3 at s4 el4 ef4 en4 rG4 ⊢
        refine ⟨_, rfl, .inl ⟨rfl, _, .inl (.inl ef4)⟩, _, rfl, pf, pn, Fl, Gl, rfl, rfl, ef4, en4, Nat.le_trans (show Fl.length + Gl.length ≤ 4000 by omega) (by decide), ?_⟩
        have tt := tst_lst (K := K) (o := .lst (Fl ++ Gl)) ef4
        refine ⟨pf, pl', Fl ++ Gl, Gl, _, _, _, _, rfl, fun b o e => ?_, hpf, sm2.free npl', nfl, upd_same, ?_, ?_, rG4.tst tt, by omega, ?_⟩
        · rw [upd_ne (ne_of_none e hpf)]; exact s4 _ _ (sm2 _ _ e)
        · rw [upd_ne nfl.symm]; exact el4
        · exact ((rF.tst ts2).mono (Nat.le_succ _)).tst ((tst_same s4).trans tt) |>.app (rG4.tst tt)
        · rw [List.length_append]; omega
    · obtain ⟨pf, pl, Fl, Lr, y4, y5, y6, y7, rfl, sm, hpf, hpl, hne, ef, el, rF, rL, lL, lF⟩ := hP
      exact ⟨_, rfl, q pf H' Fl sm hpf ef (Nat.le_trans lF (by decide)) rF⟩
end
end Kl
set_option maxRecDepth 100000
set_option maxHeartbeats 4000000
namespace Gx
open PySem PySem.Spec PyProof.Rows L2
section
variable {X : Cx}
def rReprE (K : PySem.W.Frag) : List V → Hp → VK → Prop := fun xs H Q => ∃ (x : V) (d : PyData) (S : Str), xs = [x] ∧ Dp K H x d ∧ (d.showable = true ∧ d.hasDict = false ∧ d.depth ≤ 60 ∧ d.shown.length ≤ sizeLine) ∧ d.shown = S ∧ Q (.str S) H
theorem call_reprE (g : Gd X.A) (hu : X.A.units + 64 < cLine) : CallR X (.builtin "repr") (rReprE X.K) := by
  intro pins s σ H xs us Q I r h
  obtain ⟨x, d, S, e, hd, ⟨h1, h2, h3, h4⟩, rfl, q⟩ := h
  exact call_reprD g hu pins s σ H xs us Q I r ⟨x, d, e, hd, h1, h2, h3, h4, q⟩
end
end Gx
set_option maxRecDepth 100000
set_option maxHeartbeats 4000000
namespace Kl
open PySem PySem.Spec PyProof.Rows L2 Gx Mx
theorem lay_all : ∀ {ds : List PyData}, (∀ d ∈ ds, PyData.canLay0 d = true ∧ PyData.depth d ≤ 60) → PyData.canLayAll0 ds = true ∧ PyData.depthAll ds ≤ 60
  | [], _ => by simp [PyData.canLayAll0, PyData.depthAll]
  | d :: ds, h => by
    obtain ⟨i1, i2⟩ := lay_all fun x hx => h x (List.mem_cons_of_mem _ hx)
    obtain ⟨h1, h2⟩ := h d List.mem_cons_self
    rw [PyData.canLayAll0, PyData.depthAll, h1, i1]
    exact ⟨rfl, by omega⟩
theorem shaped_dgs {qs : List (List Str)} (h : ∀ q ∈ qs, ∀ z ∈ q, PyData.strOk z = true) : SeqAt.shaped (.tuple (qs.map encT)) = true := by
  obtain ⟨h1, h2⟩ := lay_all (ds := qs.map encT) fun d m => by
    obtain ⟨q, mq, rfl⟩ := List.mem_map.mp m
    refine ⟨by unfold encT; simp only [PyData.canLay0]; exact canLay_texts q (h q mq), ?_⟩
    have := depth_texts q
    unfold encT
    simp only [PyData.depth]
    omega
  unfold SeqAt.shaped
  rw [Bool.and_eq_true]
  refine ⟨by simp only [PyData.canLay0]; exact h1, decide_eq_true ?_⟩
  simp only [PyData.depth]
  omega
theorem eqv_dgs_nil (qs : List (List Str)) : PyData.eqv (.tuple (qs.map encT)) (.tuple []) = decide (qs = []) := by
  cases qs with
  | nil => rfl
  | cons y LL => rfl
theorem eqv_enc_nil (g : List Str) : PyData.eqv (encT g) (.tuple []) = decide (g = []) := by
  cases g with
  | nil => rfl
  | cons y LL => rfl
theorem atI_end {α : Type} {l : List α} {x : α} : atI (l ++ [x]) (-1) = some x := by
  unfold atI ixN
  rw [if_neg (by omega), List.length_append, List.length_singleton, if_pos (by omega)]
  show (l ++ [x])[((-1 : Int) + ((l.length + 1 : Nat) : Int)).toNat]? = some x
  rw [show ((-1 : Int) + ((l.length + 1 : Nat) : Int)).toNat = l.length by omega, List.getElem?_append_right (Nat.le_refl _), Nat.sub_self]
  rfl
/-- a row as the law makes it -/
structure RwOk (LL : List (Addr × List Str)) : Prop where
  l4 : LL.length ≤ 402
  dg : ∀ q ∈ LL, dgB q.2 = true ∧ q.2.length ≤ 20 ∧ ∀ z ∈ q.2, z.length ≤ 1000
  so : ∀ q ∈ LL, ∀ z ∈ q.2, PyData.strOk z = true
theorem RwOk.sh {LL : List (Addr × List Str)} (h : RwOk LL) : SeqAt.shaped (.tuple ((LL.map (·.2)).map encT)) = true := shaped_dgs fun q m => by
  obtain ⟨y, hy, rfl⟩ := List.mem_map.mp m
  exact h.so y hy
theorem run_perm {R R1 : Rds} (p : R1.Perm R) (nd : (R.map (·.1)).Nodup) : ∀ (gs : List (List Str)) (s : Str), runR R1 s gs = runR R s gs
  | [], _ => rfl
  | g :: gs, s => by
    have e : stp R1 s g = stp R s g := by
      rcases stp_cases R1 s g with m | ⟨e, no⟩
      · exact (stp_in nd (p.mem_iff.mp m)).symm
      · rw [e, stp_out fun t m => no t (p.mem_iff.mpr m)]
    show runR R1 (stp R1 s g) gs = runR R (stp R s g) gs
    rw [e]
    exact run_perm p nd gs _
theorem run_st {first : Str} {ends : List Str} {R : Rds} : ∀ (gs : List (List Str)) (s : Str), (s = "" ∨ s ∈ statesL first ends R) → runR R s gs = "" ∨ runR R s gs ∈ statesL first ends R
  | [], _, h => h
  | g :: gs, s, h => run_st gs (stp R s g) (by
    rcases stp_cases R s g with m | ⟨e, _⟩
    · exact .inr (mem_states.mpr (.inr (.inr (.inr ⟨_, m, rfl⟩))))
    · exact .inl e)
section
variable {P : Program} {w : World} {K : PySem.W.Frag} {mg : Str → Option Value} {base : Heap}
def spTakesV (P : Program) (w : World) (K : PySem.W.Frag) (C : Addr) : Sp := fun vs H Q _ => ∃ (x p : Addr) (first : Str) (ends : List Str) (R : Rds) (LL : List (Addr × List Str)), vs = [.ref x, .ref p] ∧ RdrAt P w K C H x first ends R ∧ SqT K H p (LL.map fun q => V.ref q.1) ∧ TsAt K H LL ∧ RwOk LL ∧
  ∀ H', Same H H' → Q (.bl (decide (LL.map (·.2) = []) || decide (runR R first (LL.map (·.2)) ∈ ends))) H'
theorem ok_takesV {C f : Addr} {fd : FuncData} (F : Fun K "takes" "Reader.takes" s_Reader_takes f fd) (T : Top K mg) (TC : Cl_Reader K mg C) : FnOk P w K mg base CX0 7 f fd ["self", "digits"] (spTakesV P w K C) := by
  have cb : CalM P w K mg base C "behind" 6 ["self", "digits"] (spBehind P w K C) := TC.m_behind.cal fun f fd F => ok_behind F T TC
  refine F.ok sc_Reader_takes (fun vs H Q E h => ?_) (fun cdv A outer s H vs Q E hr h => ?_)
  · obtain ⟨x, p, first, ends, R, LL, rfl, _⟩ := h
    rfl
  · obtain ⟨x, p, first, ends, R, LL, rfl, hR, hp, hT, ok, q⟩ := h
    refine ⟨_, pss_cut (ps_set (i := 2) sc_Reader_takes.nd rfl (.inl rfl) (pe_methC (pl := _) (pv 0) TC.cl cb hr (pa_cons (pv 1) pa_nil)))
      (pss_one (ps_ret (pe_or (pe_cmpR (op_eqD hr.units) (pv 1) (pe_tup pa_nil) (nomark _)) (pe_one (pe_cmpR (op_inSeqK (K := K) (by exact rfl)) (pv 2) (pe_fld (pv 0) rfl) (by rfl)))))), ?_⟩
    obtain ⟨dx, e, d, st, sp, ys, M, hx, he, _⟩ := id hR
    refine ⟨fun σ' G => σ' = [some (.ref x), some (.ref p), some (.str (runR R first (LL.map (·.2))))] ∧ Same H G, ?_, ?_⟩
    · exact ⟨_, rfl, x, dx, _, rfl, hx, rf_behind _ _ _ _ _, _, rfl, x, p, first, ends, R, LL, rfl, hR, hp, hT, ok.l4, ok.dg, fun H' s => ⟨rfl, s⟩⟩
    rintro σ' G1 ⟨rfl, s1⟩
    refine ⟨_, rfl, Nat.zero_le _, fun t nt => ?_⟩
    have s2 := same_new (o := .tup []) s1 nt
    refine ⟨_, _, .tup (sqT_same s2 hp) (dp_dgs fun y m => sqT_same s2 (hT y m)), .tup (SqT.of upd_same) .nil, ok.sh, by decide, _, rfl, ?_⟩
    rw [eqv_dgs_nil]
    refine ite2 (fun c => ?_) (fun c => ?_)
    · have z := q _ s2
      rw [c, Bool.true_or] at z
      exact z
    · have z := q _ s2
      rw [(Bool.not_eq_true _).mp c, Bool.false_or] at z
      refine ⟨_, rfl, _, rfl, x, C, dx, _, _, rfl, s2 _ _ hx, TC.cl, TC.n_ends, rf_ends _ _ _ _ _, ?_⟩
      refine ⟨e, _, rfl, .inr (sqT_same s2 he), rfl, flat_tx ends, ?_⟩
      rw [inV_tx]
      exact z
def spIW (P : Program) (w : World) (K : PySem.W.Frag) (C : Addr) : Sp := fun vs H Q _ => ∃ (p el rd x wd : Addr) (first : Str) (ends : List Str) (R R1 : Rds) (LL : List (Addr × List Str)), vs = [.ref p, .ref x, .ref wd] ∧ PlainAt P w K H p el rd first ends R ∧ RdOk first ends R ∧
  RdrAt P w K C H x first ends R1 ∧ R1.Perm R ∧ SqT K H wd (LL.map fun q => V.ref q.1) ∧ TsAt K H LL ∧ RwOk LL ∧ ∀ H', Same H H' → Q (.bl true) H'
theorem ok_iw {C f : Addr} {fd : FuncData} (F : Fun K "_law_is_walked" "_law_is_walked" s_law_is_walked f fd) (T : Top K mg) (TC : Cl_Reader K mg C) : FnG P w K mg base CX0 12 f fd ["_law_plain", "_law_reader", "_law_word"] (spIW P w K C) := by
  have cb : CalM P w K mg base C "behind" 6 ["self", "digits"] (spBehind P w K C) := TC.m_behind.cal fun f fd F => ok_behind F T TC
  have ct : CalM P w K mg base C "takes" 7 ["self", "digits"] (spTakesV P w K C) := TC.m_takes.cal fun f fd F => ok_takesV F T TC
  refine okG F sc_law_is_walked (fun vs H Q E h => ?_) (fun cdv A outer s H vs Q E hg hr h => ?_)
  · obtain ⟨p, el, rd, x, wd, first, ends, R, R1, LL, rfl, _⟩ := h
    rfl
  · obtain ⟨p, el, rd, x, wd, first, ends, R, R1, LL, rfl, hP, hok, hR, p1, hw, hT, ok, q⟩ := h
    have hu := hu' hr
    have r6 := hr.mono (show 6 ≤ 11 by decide)
    have r7 := hr.mono (show 7 ≤ 11 by decide)
    refine ⟨_, pss_cut (ps_set (i := 3) sc_law_is_walked.nd rfl (.inl rfl) (pe_dget hu (pv 0) pe_str (fun _ _ => rfl)))
      (pss_cut (ps_for PassesOwn.never rfl (pi_tup (pv 2)) (pg_name (i := 4) sc_law_is_walked.nd rfl (.inl rfl))
        (pss_one (ps_set (i := 3) sc_law_is_walked.nd rfl (.inl rfl) (pe_nget2 (P := P) (w := w) (K := K) (by exact ⟨rfl, rfl, rfl⟩) (by exact hr.units) (pe_dget hu (pv 0) pe_str (fun _ _ => rfl)) (pe_tup (pa_cons (pv 3) (pa_cons (pv 4) pa_nil))) pe_str (by constructor <;> rfl)))))
      (pss_cut (ps_set (i := 5) sc_law_is_walked.nd rfl (.inl rfl) (pe_lst (pa_cons (pv 3) (pa_cons (pe_or (pe_cmpR (op_eqD hr.units) (pv 2) (pe_tup pa_nil) (nomark _)) (pe_one (pe_cmpR (op_inSeqK (K := K) (by exact rfl)) (pv 3) (pe_dget hu (pv 0) pe_str (fun _ _ => rfl)) (by rfl)))) pa_nil))))
      (pss_cut (ps_if (PW.pt (pw_and (pt_val (pe_ix ix_list (pv 5) pe_int (fun _ _ => rfl))) (pw_and (pt_cmpR (op_neD hr.units) (pv 2) (pe_tup pa_nil) (nomark _)) (pw_and1 (pt_cmpR (op_eqD hr.units) (pe_ix ix_tup (pv 2) (pe_un un_neg pe_int) (fun _ _ => rfl)) (pe_tup pa_nil) (nomark _)))))) (pss_one (ps_ret pe_bl)) pss_nil)
      (pss_one (ps_ret (pe_cmpR op_eq (pe_callB (call_reprE hg hr.units) (by rfl) T.b_repr (by decide +kernel) (pa_cons (pe_lst (pa_cons (pe_methC (pl := _) (pv 1) TC.cl cb r6 (pa_cons (pv 2) pa_nil)) (pa_cons (pe_methC (pl := _) (pv 1) TC.cl ct r7 (pa_cons (pv 2) pa_nil)) pa_nil))) pa_nil))
        (pe_callB (call_reprE hg hr.units) (by rfl) T.b_repr (by decide +kernel) (pa_cons (pv 5) pa_nil)) (by rfl))))))), ?_⟩
    have big : 100000 ≤ sizeLine := by decide
    have l2 : 2 ≤ sizeLine := by omega
    obtain ⟨hp, he, L, k1, k2, k3⟩ := id hP
    obtain ⟨_, _, _, nF, good⟩ := hok.parts
    obtain ⟨_, nE, _, _⟩ := hok.names
    -- the first state
    refine ⟨fun σ' G => σ' = [some (.ref p), some (.ref x), some (.ref wd), some (.str first), none, none] ∧ H = G, ?_, ?_⟩
    · exact ⟨_, rfl, p, _, rfl, pg1 hp, rfl, rfl⟩
    rintro σ' _ ⟨rfl, rfl⟩
    -- the digits
    refine ⟨fun σ' G => ∃ t4 : Option V, σ' = [some (.ref p), some (.ref x), some (.ref wd), some (.str (runR R first (LL.map (·.2)))), t4, none] ∧ Same H G, ?_, ?_⟩
    · refine ⟨_, rfl, wd, rfl, ⟨_, hw⟩, ?_⟩
      refine for_it (walk_tup (K := K) (a := wd) (xs := LL.map fun q => V.ref q.1)) (fun j σ' G => ∃ t4 : Option V, σ' = [some (.ref p), some (.ref x), some (.ref wd), some (.str (runR R first ((LL.take j).map (·.2)))), t4, none] ∧ Same H G) ⟨none, rfl, Same.refl H⟩ (fun j σ' G _ h => by obtain ⟨_, _, s⟩ := h; exact sqT_same s hw) (fun j u σ' G Gy hj h hy => ?_) (fun σ' G h => ?_)
      · obtain ⟨t4, rfl, s3⟩ := h
        obtain ⟨rfl, hu⟩ := hy
        rw [List.getElem?_map] at hu
        obtain ⟨q0, hq0, rfl⟩ := Option.map_eq_some_iff.mp hu
        have hm := List.mem_of_getElem? hq0
        refine ⟨_, rfl, p, _, rfl, pg3 (s3 _ _ hp), rd, toN L, rfl, .inl (s3 _ _ k1), _, rfl, _, rfl, l2, fun t nt => ?_⟩
        have s4 := same_new (o := .tup [V.str (runR R first ((LL.take j).map (·.2))), V.ref q0.1]) (Same.refl Gy) nt
        have et : (upd Gy t (.tup [V.str (runR R first ((LL.take j).map (·.2))), V.ref q0.1])) t = some (.tup [V.str (runR R first ((LL.take j).map (·.2))), V.ref q0.1]) := upd_same
        generalize upd Gy t (.tup [V.str (runR R first ((LL.take j).map (·.2))), V.ref q0.1]) = G4 at *
        have s34 := s3.trans s4
        have v1 : (getN (toN L) (keyK (runR R first ((LL.take j).map (·.2)), q0.2))).getD (.str "") = .str (runR R first ((LL.take (j + 1)).map (·.2))) := by
          rw [getN_to, k3, List.take_add_one, hq0, List.map_append]
          show _ = V.str (runR R first ((LL.take j).map (·.2) ++ [q0.2]))
          rw [runR_snoc]
          exact stp_val R _ q0.2
        refine ⟨t, toN L, keyK (runR R first ((LL.take j).map (·.2)), q0.2), rfl, ⟨.inl (s34 _ _ k1), fun e m => ?_⟩, keyK_at.mpr ⟨q0.1, SqT.of et, sqT_same s34 (hT q0 hm)⟩, ?_⟩
        · obtain ⟨z, mz, rfl⟩ := List.mem_map.mp m
          exact keyA_same s34 (k2 z mz)
        rw [v1]
        exact ⟨_, rfl, s34⟩
      · obtain ⟨t4, rfl, s3⟩ := h
        rw [List.length_map, List.take_length]
        exact ⟨t4, rfl, s3⟩
    rintro σ' G2 ⟨t4, rfl, s2⟩
    generalize eS : runR R first (LL.map (·.2)) = S
    have sS : PyData.strOk S = true ∧ S.length ≤ 8 := by
      rcases run_st (first := first) (ends := ends) (R := R) (LL.map (·.2)) first (.inr st_first) with h | h
      · rw [← eS, h]
        exact ⟨by decide +kernel, by decide +kernel⟩
      · rw [← eS]
        exact hok.state_sok _ h
    generalize eB : (decide (LL.map (·.2) = []) || decide (S ∈ ends)) = B
    -- what is due
    refine ⟨fun σ' G => ∃ du : Addr, σ' = [some (.ref p), some (.ref x), some (.ref wd), some (.str S), t4, some (.ref du)] ∧ G du = some (.lst [V.str S, V.bl B]) ∧ Same H G, ?_, ?_⟩
    · refine ⟨_, rfl, _, rfl, Nat.zero_le _, fun t nt => ?_⟩
      have s3 := same_new (o := .tup []) s2 nt
      have et : (upd G2 t (.tup [])) t = some (.tup []) := upd_same
      generalize upd G2 t (.tup []) = G3 at *
      refine ⟨_, _, .tup (sqT_same s3 hw) (dp_dgs fun y m => sqT_same s3 (hT y m)), .tup (SqT.of et) .nil, ok.sh, by decide, _, rfl, ?_⟩
      rw [eqv_dgs_nil]
      refine ite2 (fun c => ?_) (fun c => ?_)
      · rw [c, Bool.true_or] at eB
        subst eB
        exact ⟨l2, fun du ndu => ⟨du, rfl, upd_same, same_new s3 ndu⟩⟩
      · rw [(Bool.not_eq_true _).mp c, Bool.false_or] at eB
        obtain ⟨hp3, he3, _⟩ := hP.same s3
        refine ⟨_, rfl, _, rfl, p, _, rfl, pg2 hp3, el, _, rfl, .inl he3, rfl, flat_tx ends, ?_⟩
        rw [inV_tx, eB]
        exact ⟨l2, fun du ndu => ⟨du, rfl, upd_same, same_new s3 ndu⟩⟩
    rintro σ' G3 ⟨du, rfl, edu, s3⟩
    -- no empty digit leads to an end
    refine ⟨fun σ' G => σ' = [some (.ref p), some (.ref x), some (.ref wd), some (.str S), t4, some (.ref du)] ∧ Same G3 G, ?_, ?_⟩
    · refine ⟨_, rfl, du, _, 1, _, rfl, rfl, .inl (.inl edu), rfl, B, rfl, ite2 (fun cB => ?_) (fun _ => ite2 (fun c => by cases c) (fun _ => ⟨rfl, Same.refl _⟩))⟩
      refine ⟨_, rfl, Nat.zero_le _, fun t nt => ?_⟩
      have s4 := same_new (o := .tup []) (Same.refl G3) nt
      have et : (upd G3 t (.tup [])) t = some (.tup []) := upd_same
      generalize upd G3 t (.tup []) = G4 at *
      have s04 := s3.trans s4
      refine ⟨_, _, .tup (sqT_same s04 hw) (dp_dgs fun y m => sqT_same s04 (hT y m)), .tup (SqT.of et) .nil, ok.sh, by decide, _, rfl, ?_⟩
      rw [eqv_dgs_nil]
      refine ite2 (fun c => ?_) (fun _ => ite2 (fun c => by cases c) (fun _ => ⟨rfl, s4⟩))
      have ne : LL.map (·.2) ≠ [] := fun z => by rw [decide_eq_true z] at c; cases c
      obtain ⟨L0, q0, rfl⟩ : ∃ L0 q0, LL = L0 ++ [q0] := ⟨LL.dropLast, LL.getLast (fun z => ne (by rw [z]; rfl)), (List.dropLast_concat_getLast _).symm⟩
      have mem : S ∈ ends := by
        rw [decide_eq_false ne, Bool.false_or] at eB
        rw [← eB] at cB
        exact of_decide_eq_true cB
      have nq : q0.2 ≠ [] := fun z => by
        rw [List.map_append] at eS
        have e2 : stp R (runR R first (L0.map (·.2))) q0.2 = S := by rw [← runR_snoc]; exact eS
        rcases stp_cases R (runR R first (L0.map (·.2))) q0.2 with m | ⟨e, _⟩
        · have g := good _ m
          unfold goodB at g
          rw [e2, z, decide_eq_true mem] at g
          simp at g
        · rw [e2] at e
          have := nE S mem
          rw [e] at this
          revert this
          decide +kernel
      have ml : q0 ∈ L0 ++ [q0] := List.mem_append.mpr (.inr (List.mem_singleton.mpr rfl))
      refine ⟨_, rfl, _, rfl, wd, _, -1, V.ref q0.1, rfl, rfl, sqT_same s04 hw, by rw [List.map_append]; exact atI_end, Nat.zero_le _, fun t2 nt2 => ?_⟩
      have s5 := same_new (o := .tup []) (Same.refl G4) nt2
      refine ⟨encT q0.2, .tuple [], .tup (sqT_same (s04.trans s5) (hT q0 ml)) (dp_texts q0.2), .tup (SqT.of upd_same) .nil, shaped_textsT fun z m => ok.so q0 ml z m, by decide, _, rfl, ?_⟩
      rw [eqv_enc_nil, decide_eq_false nq]
      exact ite2 (fun c => by cases c) (fun _ => ⟨rfl, s4.trans s5⟩)
    rintro σ' G4 ⟨rfl, s4⟩
    have s04 := s3.trans s4
    have hR4 := hR.same s04
    obtain ⟨dx, _, _, _, _, _, _, hx, _⟩ := id hR4
    -- both are told alike
    refine ⟨_, rfl, x, dx, _, rfl, hx, rf_behind _ _ _ _ _, _, rfl, x, wd, first, ends, R1, LL, rfl, hR4, sqT_same s04 hw, (fun y m => sqT_same s04 (hT y m)), ok.l4, ok.dg, fun G5 s5 => ?_⟩
    have s05 := s04.trans s5
    refine ⟨_, rfl, x, dx, _, rfl, s5 _ _ hx, rf_takes _ _ _ _ _, _, rfl, x, wd, first, ends, R1, LL, rfl, hR.same s05, sqT_same s05 hw, (fun y m => sqT_same s05 (hT y m)), ok, fun G6 s6 => ?_⟩
    refine ⟨l2, fun b nb => ?_⟩
    have s7 := same_new (o := .lst [V.str (runR R1 first (LL.map (·.2))), V.bl (decide (LL.map (·.2) = []) || decide (runR R1 first (LL.map (·.2)) ∈ ends))]) (Same.refl G6) nb
    have e7 : (upd G6 b (.lst [V.str (runR R1 first (LL.map (·.2))), V.bl (decide (LL.map (·.2) = []) || decide (runR R1 first (LL.map (·.2)) ∈ ends))])) b = some (.lst [V.str (runR R1 first (LL.map (·.2))), V.bl (decide (LL.map (·.2) = []) || decide (runR R1 first (LL.map (·.2)) ∈ ends))]) := upd_same
    generalize upd G6 b (.lst [V.str (runR R1 first (LL.map (·.2))), V.bl (decide (LL.map (·.2) = []) || decide (runR R1 first (LL.map (·.2)) ∈ ends))]) = G7 at *
    rw [run_perm p1 hok.nd, eS, eB] at e7
    have edu7 := (s4.trans (s5.trans (s6.trans s7))) _ _ edu
    have sm : Sm 100 2 (.list [.str S, .bool B]) := Sm.lst (B := 8) (k := 0) (n := 2) (sm_cons (Sm.str sS.1 sS.2) (sm_cons (Sm.bool B) sm_nil)) (Nat.le_refl 2) (by omega) (by omega)
    obtain ⟨TXT, eT⟩ : ∃ z, z = (PyData.list [.str S, .bool B]).shown := ⟨_, rfl⟩
    refine ⟨_, _, TXT, rfl, .lst (.inl (.inl e7)) (.cons (.str S) (.cons (.bl B) .nil)), sm.repr (by decide) (by decide), eT.symm, ?_⟩
    refine ⟨_, rfl, _, _, TXT, rfl, .lst (.inl (.inl edu7)) (.cons (.str S) (.cons (.bl B) .nil)), sm.repr (by decide) (by decide), eT.symm, rfl, ?_⟩
    rw [decide_eq_true rfl]
    exact q _ (s05.trans (s6.trans s7))
end
end Kl
set_option maxRecDepth 100000
set_option maxHeartbeats 4000000
namespace Kl
open PySem PySem.Spec PyProof.Rows L2 Gx Mx
theorem shaped_dgsL {qs : List (List Str)} (h : ∀ q ∈ qs, ∀ z ∈ q, PyData.strOk z = true) : SeqAt.shaped (.list (qs.map encT)) = true := by
  obtain ⟨h1, h2⟩ := lay_all (ds := qs.map encT) fun d m => by
    obtain ⟨q, mq, rfl⟩ := List.mem_map.mp m
    refine ⟨by unfold encT; simp only [PyData.canLay0]; exact canLay_texts q (h q mq), ?_⟩
    have := depth_texts q
    unfold encT
    simp only [PyData.depth]
    omega
  unfold SeqAt.shaped
  rw [Bool.and_eq_true]
  refine ⟨by simp only [PyData.canLay0]; exact h1, decide_eq_true ?_⟩
  simp only [PyData.depth]
  omega
theorem eqv_dgsL_nil (qs : List (List Str)) : PyData.eqv (.list (qs.map encT)) (.list []) = decide (qs = []) := by
  cases qs with
  | nil => rfl
  | cons y LL => rfl
abbrev NLG : List Str := ["_law_dice_here", "_law_plain", "_law_digits", "_law_word", "_law_state", "_law_many", "_law_turn", "_law_some", "_law_digit"]
section
variable {P : Program} {w : World} {K : PySem.W.Frag} {mg : Str → Option Value} {base : Heap}
def spLg (P : Program) (w : World) (K : PySem.W.Frag) : Sp := fun vs H Q _ => ∃ (d p el rd g : Addr) (first : Str) (ends : List Str) (R : Rds) (L : List (Addr × List Str)), vs = [.ref d, .ref p, .ref g] ∧ DiceAt H d ∧ PlainAt P w K H p el rd first ends R ∧
  H g = some (.lst (L.map fun q => V.ref q.1)) ∧ TsAt K H L ∧ L ≠ [] ∧ L.length ≤ 5 ∧ (∀ q ∈ L, ∀ z ∈ q.2, PyData.strOk z = true) ∧
  ∀ (t : Addr) (LL : List (Addr × List Str)) (H' : Hp), SameX d H H' → DiceAt H' d → SqT K H' t (LL.map fun q => V.ref q.1) → (∀ q ∈ LL, q ∈ L) → LL.length ≤ 402 → Q (.ref t) H'
theorem ok_lg {f : Addr} {fd : FuncData} (F : Fun K "_law_long" "_law_long" s_law_long f fd) (T : Top K mg) : FnOk P w K mg base CX0 3 f fd ["_law_dice_here", "_law_plain", "_law_digits"] (spLg P w K) := by
  have cp : Cal P w K mg base 2 "_law_pick" ["_law_dice_here", "_law_items"] (spPick K) := T.d_law_pick.cal fun f fd F => ok_pick F T
  refine F.ok sc_law_long (fun vs H Q E h => ?_) (fun cdv A outer s H vs Q E hr h => ?_)
  · obtain ⟨d, p, el, rd, g, first, ends, R, L, rfl, _⟩ := h
    rfl
  · obtain ⟨d, p, el, rd, g, first, ends, R, L, rfl, hd, hP, eg, hL, neL, l5, so, q⟩ := h
    have hu := hu' hr
    refine ⟨_, pss_cut (ps_asg (pe_tup (pa_cons (pe_lst pa_nil) (pa_cons (pe_dget hu (pv 1) pe_str (fun _ _ => rfl)) (pa_cons (pe_cal cp hr (by rfl) (pa_cons (pv 0) (pa_cons (pe_lst (pa_cons pe_int (pa_cons pe_int (pa_cons pe_int (pa_cons pe_int (pa_cons pe_int pa_nil)))))) pa_nil))) pa_nil))))
          (pg_tup (n := 3) rfl (pgs_cons (pg_name (i := 3) sc_law_long.nd rfl (.inl rfl)) (pgs_cons (pg_name (i := 4) sc_law_long.nd rfl (.inr rfl)) (pgs_cons (pg_name (i := 5) sc_law_long.nd rfl (.inl rfl)) pgs_nil)))))
      (pss_cut (ps_for PassesOwn.never rfl (pi_range1 (by rfl) T.b_range (pa_cons (pv 5) pa_nil)) (pg_name (i := 6) sc_law_long.nd rfl (.inl rfl))
        (pss_cut (ps_setLc (i := 7) (own := [("_law_digit", 8)]) (g := gName 8) (by rfl) sc_law_long.nd rfl rfl (sw_true rfl rfl rfl (by decide +kernel)) (pi_list (pv 2))
            (blkOk_by (N := NLG) (sc := defScope s_law_long) (by decide +kernel)) (fun _ _ _ _ _ => pg_name (i := 8) sc_law_long.nd rfl (.inl rfl))
            (fun _ _ _ _ _ => pts_one (pt_cmp (pc_nin (P := P) (w := w) (K := K) (by exact ⟨rfl, rfl, rfl⟩) (by exact hr.units) (pe_tup (pa_cons (pv 4) (pa_cons (pv 8) pa_nil))) (pe_dget (by exact hu) (pv 1) pe_str (fun _ _ => rfl))))) (fun _ _ _ _ _ => pv 8))
        (pss_cut (ps_set (i := 8) sc_law_long.nd rfl (.inl rfl) (pe_cal cp hr (by rfl) (pa_cons (pv 0) (pa_cons (pe_ifExp (pt_cmpR (op_neD hr.units) (pv 7) (pe_lst pa_nil) (nomark _)) (pv 7) (pv 2)) pa_nil))))
        (pss_cut (ps_expr (pe_bm PySem.F.plainAttrs_list PySem.F.slot_list_append PySem.F.type_list_append mt_append (pv 3) (pa_cons (pv 8) pa_nil)))
        (pss_one (ps_set (i := 4) sc_law_long.nd rfl (.inr rfl) (pe_nget2 (P := P) (w := w) (K := K) (by exact ⟨rfl, rfl, rfl⟩) (by exact hr.units) (pe_dget hu (pv 1) pe_str (fun _ _ => rfl)) (pe_tup (pa_cons (pv 4) (pa_cons (pv 8) pa_nil))) pe_str (by constructor <;> rfl))))))))
      (pss_one (ps_ret (pe_callTy call_tuple_of (by rfl) T.b_tuple (by decide +kernel) (pa_cons (pv 3) pa_nil))))), ?_⟩
    have big : 100000 ≤ sizeLine := by decide
    have l2 : 2 ≤ sizeLine := by omega
    have l3 : 3 ≤ sizeLine := by omega
    have ngd : g ≠ d := by
      obtain ⟨x, b, c, e0⟩ := hd
      intro c
      rw [c, e0] at eg
      have := HO.lst.inj (Option.some.inj eg)
      cases L with
      | nil => cases this
      | cons q L => cases this
    -- the word, the state, how many
    refine ⟨fun σ' G => ∃ (wl : Addr) (n : Nat), σ' = [some (.ref d), some (.ref p), some (.ref g), some (.ref wl), some (.str first), some (.int (n : Nat)), none, none, none] ∧ n ≤ 402 ∧ G wl = some (.lst []) ∧ H wl = none ∧ SameX d H G ∧ DiceAt G d, ?_, ?_⟩
    · refine ⟨Nat.zero_le _, fun wl nwl => ?_⟩
      have s1 := same_new (o := .lst []) (Same.refl H) nwl
      have e1 : (upd H wl (.lst [])) wl = some (.lst []) := upd_same
      generalize upd H wl (.lst []) = G1 at *
      refine ⟨_, rfl, p, _, rfl, pg1 (s1 _ _ hP.1), _, rfl, by show 5 ≤ sizeLine; omega, fun li nli => ?_⟩
      have s2 := same_new (o := .lst [V.int 5, V.int 17, V.int 60, V.int 401, V.int 402]) (Same.refl G1) nli
      have e2 : (upd G1 li (.lst [V.int 5, V.int 17, V.int 60, V.int 401, V.int 402])) li = some (.lst [V.int 5, V.int 17, V.int 60, V.int 401, V.int 402]) := upd_same
      have hd1 := dice_sm s1 hd
      have nld := dice_ne hd1 nli
      generalize upd G1 li (.lst [V.int 5, V.int 17, V.int 60, V.int 401, V.int 402]) = G2 at *
      have hd2 := dice_sm s2 hd1
      refine ⟨d, .ref li, _, rfl, hd2, .inl ⟨li, rfl, nld, .inl (.inl (.inl e2))⟩, by simp, by show 5 ≤ 100000; omega, fun v a b c mv => ?_⟩
      have hdA : DiceAt (upd G2 d (.lst [V.int a, V.int b, V.int c])) d := ⟨_, _, _, upd_same⟩
      have sxA : SameX d G2 (upd G2 d (.lst [V.int a, V.int b, V.int c])) := (SameX.refl d G2).atd
      generalize upd G2 d (.lst [V.int a, V.int b, V.int c]) = GA at *
      have nwd := dice_ne hd nwl
      have eA := sxA _ _ nwd (s2 _ _ e1)
      have sA : SameX d H GA := (SameX.of (s1.trans s2)).trans sxA
      obtain ⟨n, ev, hn⟩ : ∃ n : Nat, v = .int (n : Nat) ∧ n ≤ 402 := by
        simp only [List.mem_cons, List.not_mem_nil, or_false] at mv
        rcases mv with e | e | e | e | e
        · exact ⟨5, e, by decide⟩
        · exact ⟨17, e, by decide⟩
        · exact ⟨60, e, by decide⟩
        · exact ⟨401, e, by decide⟩
        · exact ⟨402, e, by decide⟩
      subst ev
      refine ⟨l3, fun tq ntq => ?_⟩
      have s3 := same_new (o := .tup [V.ref wl, V.str first, V.int (n : Nat)]) (Same.refl GA) ntq
      refine ⟨tq, _, rfl, SqT.of upd_same, rfl, _, _, rfl, _, _, rfl, _, _, rfl, rfl, wl, n, rfl, hn, s3 _ _ eA, nwl, sA.trans (SameX.of s3), dice_sm s3 hdA⟩
    rintro σ' G1 ⟨wl, n, rfl, hn, e1, nwl, sx1, hd1⟩
    have nwd : wl ≠ d := dice_ne hd nwl
    have nwg : wl ≠ g := fun z => by rw [z, eg] at nwl; cases nwl
    -- the turns
    refine ⟨fun σ' G => ∃ (LL : List (Addr × List Str)) (t4 t5 t6 t7 t8 : Option V), σ' = [some (.ref d), some (.ref p), some (.ref g), some (.ref wl), t4, t5, t6, t7, t8] ∧ G wl = some (.lst (LL.map fun q => V.ref q.1)) ∧ (∀ q ∈ LL, q ∈ L) ∧ LL.length ≤ 402 ∧ SameX d H G ∧ DiceAt G d, ?_, ?_⟩
    · refine ⟨_, rfl, _, rfl, by omega, by omega, ?_⟩
      refine for_range (lo := 0) (fun i σ' G => ∃ (LL : List (Addr × List Str)) (S : Str) (t6 t7 t8 : Option V), σ' = [some (.ref d), some (.ref p), some (.ref g), some (.ref wl), some (.str S), some (.int (n : Nat)), t6, t7, t8] ∧ G wl = some (.lst (LL.map fun q => V.ref q.1)) ∧ (∀ q ∈ LL, q ∈ L) ∧ LL.length = i ∧ SameX d H G ∧ DiceAt G d)
        ⟨[], first, _, _, _, rfl, e1, nofun, rfl, sx1, hd1⟩ (fun i σ' G2 hi hI => ?_) (fun σ' G2 hI => ?_)
      rotate_left
      · obtain ⟨LL, S, t6, t7, t8, rfl, ew, hm, ll, sx, hdG⟩ := hI
        exact ⟨LL, _, _, _, _, _, rfl, ew, hm, by rw [ll]; omega, sx, hdG⟩
      obtain ⟨LL, S, t6, t7, t8, rfl, ew, hm, ll, sx2, hd2⟩ := hI
      have hi402 : i < 402 := by omega
      have P2 := hP.sx hd sx2
      have eg2 := sx2 _ _ ngd eg
      have hL2 : TsAt K G2 L := fun q m => sqT_sx hd sx2 (hL q m)
      obtain ⟨hp2, _, M, k1, k2, k3⟩ := id P2
      -- the digits that lead on
      refine ⟨fun σ' G => ∃ (sl : Addr) (Lf : List (Addr × List Str)) (t6 t8 : Option V), σ' = [some (.ref d), some (.ref p), some (.ref g), some (.ref wl), some (.str S), some (.int (n : Nat)), t6, some (.ref sl), t8] ∧ G sl = some (.lst (Lf.map fun q => V.ref q.1)) ∧ sl ≠ d ∧ Lf.length ≤ 5 ∧ (∀ q ∈ Lf, q ∈ L) ∧ Same G2 G, ?_, ?_⟩
      · refine ⟨_, rfl, g, rfl, ⟨_, .inl (.inl eg2)⟩, fun D hD => ?_⟩
        have nDd : D ≠ d := dice_ne hd2 hD
        refine lc_it (g := gName 8) (vs := [8]) (walk_list (K := K) (a := g) (xs := L.map fun q => V.ref q.1)) (fun j G => ∃ Lf : List (Addr × List Str), G D = some (.lst (Lf.map fun q => V.ref q.1)) ∧ Lf.length ≤ j ∧ (∀ q ∈ Lf, q ∈ L) ∧ Same G2 G) ⟨[], upd_same, Nat.zero_le _, nofun, same_new (Same.refl G2) hD⟩ (fun j G _ h => by obtain ⟨_, _, _, _, sm0⟩ := h; exact .inl (.inl (sm0 _ _ eg2))) (fun j u Gx G hj h hy => ?_) (fun G h => ?_)
        · obtain ⟨Lf, eD, lfs, hfs, sm0⟩ := h
          obtain ⟨rfl, hv⟩ := hy
          rw [List.getElem?_map] at hv
          obtain ⟨q0, hq0, rfl⟩ := Option.map_eq_some_iff.mp hv
          have mq0 := List.mem_of_getElem? hq0
          have hj5 : j < 5 := by rw [List.length_map] at hj; omega
          refine ⟨rfl, _, rfl, _, rfl, l2, fun t nt => ?_⟩
          have s4 := same_new (o := .tup [V.str S, V.ref q0.1]) (Same.refl G) nt
          have et : (upd G t (.tup [V.str S, V.ref q0.1])) t = some (.tup [V.str S, V.ref q0.1]) := upd_same
          generalize upd G t (.tup [V.str S, V.ref q0.1]) = G4 at *
          have s24 := sm0.trans s4
          refine ⟨_, rfl, p, _, rfl, pg3 (s24 _ _ hp2), rd, t, toN M, keyK (S, q0.2), rfl, rfl, ⟨.inl (s24 _ _ k1), fun e m => ?_⟩, keyK_at.mpr ⟨q0.1, SqT.of et, sqT_same s24 (hL2 q0 mq0)⟩, ?_⟩
          · obtain ⟨z, mz, rfl⟩ := List.mem_map.mp m
            exact keyA_same s24 (k2 z mz)
          refine ⟨_, rfl, ite2 (fun _ => ?_) (fun _ => ?_)⟩
          · refine ⟨_, rfl, _, s4 _ _ eD, by rw [List.length_map]; omega, Lf ++ [q0], ?_, ?_, ?_, fun b u e => by rw [upd_ne (ne_of_none e hD)]; exact s24 b u e⟩
            · rw [upd_same, List.map_append]
              rfl
            · rw [List.length_append, List.length_singleton]
              omega
            · intro z hz
              rcases List.mem_append.mp hz with hz | hz
              · exact hfs z hz
              · rw [List.mem_singleton.mp hz]
                exact mq0
          · exact ⟨Lf, s4 _ _ eD, by omega, hfs, s24⟩
        · obtain ⟨Lf, eD, lfs, hfs, sm0⟩ := h
          rw [List.length_map] at lfs
          exact ⟨D, Lf, _, _, rfl, eD, nDd, by omega, hfs, sm0⟩
      rintro σ' G3 ⟨sl, Lf, t6, t8, rfl, esl, nsd, lLf, hLf, s3⟩
      have hd3 := dice_sm s3 hd2
      -- a digit
      refine ⟨fun σ' G => ∃ (q0 : Addr × List Str), σ' = [some (.ref d), some (.ref p), some (.ref g), some (.ref wl), some (.str S), some (.int (n : Nat)), t6, some (.ref sl), some (.ref q0.1)] ∧ q0 ∈ L ∧ SameX d G3 G ∧ DiceAt G d, ?_, ?_⟩
      · refine ⟨_, rfl, _, rfl, Nat.zero_le _, fun e ne => ?_⟩
        have s4 := same_new (o := .lst []) (Same.refl G3) ne
        have ee : (upd G3 e (.lst [])) e = some (.lst []) := upd_same
        generalize upd G3 e (.lst []) = G4 at *
        have hd4 := dice_sm s4 hd3
        have dL : Dp K G4 (.ref sl) (.list ((Lf.map (·.2)).map encT)) := .lst (.inl (.inl (s4 _ _ esl))) (dp_dgs fun y m => sqT_same (s3.trans s4) (hL2 y (hLf y m)))
        refine ⟨_, _, dL, .lst (.inl (.inl ee)) .nil, shaped_dgsL fun q m => ?_, by decide, _, rfl, ?_⟩
        · obtain ⟨y, hy, rfl⟩ := List.mem_map.mp m
          exact so y (hLf y hy)
        rw [eqv_dgsL_nil]
        have fin : ∀ (a : Addr) (LX : List (Addr × List Str)), G4 a = some (.lst (LX.map fun q => V.ref q.1)) → a ≠ d → (∀ q ∈ LX, q ∈ L) → LX ≠ [] → LX.length ≤ 5 →
            spPick K [.ref d, .ref a] G4 (fun v G => ∃ (q0 : Addr × List Str), [some (V.ref d), some (V.ref p), some (V.ref g), some (V.ref wl), some (V.str S), some (V.int (n : Nat)), t6, some (V.ref sl), some v] = [some (V.ref d), some (V.ref p), some (V.ref g), some (V.ref wl), some (V.str S), some (V.int (n : Nat)), t6, some (V.ref sl), some (V.ref q0.1)] ∧ q0 ∈ L ∧ SameX d G3 G ∧ DiceAt G d) C8.E0 :=
          fun a LX ea na hx nx lx => by
            refine ⟨d, .ref a, _, rfl, hd4, .inl ⟨a, rfl, na, .inl (.inl (.inl ea))⟩, fun z => nx (List.map_eq_nil_iff.mp z), by rw [List.length_map]; omega, fun v x b c mv => ?_⟩
            obtain ⟨q0, m0, rfl⟩ := List.mem_map.mp mv
            exact ⟨q0, rfl, hx q0 m0, (SameX.of s4).atd, ⟨_, _, _, upd_same⟩⟩
        refine ite2 (fun c => ?_) (fun c => ?_)
        · refine ⟨_, rfl, fin sl Lf (s4 _ _ esl) nsd hLf (fun z => ?_) lLf⟩
          rw [z] at c
          cases c
        · exact ⟨_, rfl, fin g L ((s3.trans s4) _ _ eg2) ngd (fun _ m => m) neL l5⟩
      rintro σ' G4 ⟨q0, rfl, mq0, sx4, hd4⟩
      have sx24 : SameX d G2 G4 := (SameX.of s3).trans sx4
      have ew4 := sx24 _ _ nwd ew
      -- the word grows
      refine ⟨fun σ' G => σ' = [some (.ref d), some (.ref p), some (.ref g), some (.ref wl), some (.str S), some (.int (n : Nat)), t6, some (.ref sl), some (.ref q0.1)] ∧ G wl = some (.lst ((LL ++ [q0]).map fun q => V.ref q.1)) ∧ SameX d H G ∧ DiceAt G d, ?_, ?_⟩
      · refine ⟨_, rfl, ⟨.inl ⟨rfl, _, .inl (.inl ew4)⟩, ?_⟩⟩
        refine ⟨_, rfl, wl, _, _, rfl, rfl, ew4, by rw [List.length_map, ll]; omega, rfl, ?_, fun b o nb e => ?_, ?_⟩
        · rw [upd_same, List.map_append]
          rfl
        · rw [upd_ne (ne_of_none e nwl)]
          exact (sx2.trans sx24) b o nb e
        · obtain ⟨x, b, c, e⟩ := hd4
          exact ⟨x, b, c, by rw [upd_ne nwd.symm]; exact e⟩
      rintro σ' G5 ⟨rfl, ew5, sx5, hd5⟩
      have P5 := hP.sx hd sx5
      obtain ⟨hp5, _, M5, j1, j2, j3⟩ := id P5
      refine ⟨_, rfl, p, _, rfl, pg3 hp5, rd, toN M5, rfl, .inl j1, _, rfl, _, rfl, l2, fun t nt => ?_⟩
      have s6 := same_new (o := .tup [V.str S, V.ref q0.1]) (Same.refl G5) nt
      have et : (upd G5 t (.tup [V.str S, V.ref q0.1])) t = some (.tup [V.str S, V.ref q0.1]) := upd_same
      generalize upd G5 t (.tup [V.str S, V.ref q0.1]) = G6 at *
      have v1 : (getN (toN M5) (keyK (S, q0.2))).getD (.str "") = .str (stp R S q0.2) := by
        rw [getN_to, j3]
        exact stp_val R S q0.2
      refine ⟨t, toN M5, keyK (S, q0.2), rfl, ⟨.inl (s6 _ _ j1), fun e m => ?_⟩, keyK_at.mpr ⟨q0.1, SqT.of et, sqT_same s6 (sqT_sx hd sx5 (hL q0 mq0))⟩, ?_⟩
      · obtain ⟨z, mz, rfl⟩ := List.mem_map.mp m
        exact keyA_same s6 (j2 z mz)
      rw [v1]
      refine ⟨LL ++ [q0], stp R S q0.2, _, _, _, rfl, s6 _ _ ew5, fun z hz => ?_, by rw [List.length_append, ll]; rfl, sx5.trans (SameX.of s6), dice_sm s6 hd5⟩
      rcases List.mem_append.mp hz with hz | hz
      · exact hm z hz
      · rw [List.mem_singleton.mp hz]
        exact mq0
    rintro σ' G2 ⟨LL, t4, t5, t6, t7, t8, rfl, ew, hm, l4, sx2, hd2⟩
    refine ⟨_, rfl, wl, _, rfl, .inl ⟨.inl (.inl ew), fun l nl => ?_⟩⟩
    have s3 := same_new (o := .tup (LL.map fun q => V.ref q.1)) (Same.refl G2) nl
    exact q l LL _ (sx2.trans (SameX.of s3)) (dice_sm s3 hd2) (SqT.of upd_same) hm l4
end
end Kl
set_option maxRecDepth 100000
set_option maxHeartbeats 4000000
namespace Gx
open PySem PySem.Spec PyProof.Rows L2
def tDispN (P : Program) (w : World) (K : PySem.W.Frag) (trs : List (TE × TE)) : TE := fun σ H Q => ∀ p, H p = none → tPairs trs σ (upd H p (DN P w p [])) fun ps H2 =>
  H2 p = some (DN P w p []) ∧ ∃ M : NL, ps = M.map (fun e => (V.ref e.2.1, e.2.2)) ∧ (∀ e ∈ M, KeyA K H2 e.2.1 e.1) ∧ M.length ≤ 15 ∧ Q (.ref p) (upd H2 p (DN P w p (foldN [] M)))
theorem carriesN {X : Cx} {pins : List (Addr × Obj)} {σ : L2.St} {H : Hp} {s : Shared} (I : Inv X pins σ H s) : ∀ {M : NL} {ws : List (Value × Value)}, VV (M.map fun e => (V.ref e.2.1, e.2.2)) ws → (∀ e ∈ M, KeyA X.K H e.2.1 e.1) →
    ∃ ps, CarriesH (nestedKind X.prog X.w) s.heap ws ps ∧ NR M ps
  | [], _, r, _ => by rw [List.map_nil] at r; cases r; exact ⟨[], True.intro, .nil⟩
  | e :: M, _, r, hk => by
    rw [List.map_cons] at r
    cases r with
    | @cons a b as bs h t =>
      obtain ⟨ps, c, q⟩ := carriesN I t fun x m => hk x (List.mem_cons_of_mem _ m)
      obtain ⟨b1, b2⟩ := b
      obtain ⟨h1, h2⟩ := h
      have h1' : b1 = Value.ref e.2.1 := h1
      exact ⟨(e.1, e.2.1, b2) :: ps, ⟨h1', rfl, nkey_of I (hk e List.mem_cons_self), c⟩, .cons ⟨rfl, rfl, h2⟩ q⟩
theorem pe_dispN {X : Cx} {P : Program} {w : World} {K : PySem.W.Frag} {pos : Pos} {keys : List (Option Expr)} {values : List Expr} {trs : List (TE × TE)} (hx : XI X P w K) (hu : X.A.units + 64 < cLine) (h : PPs X pos keys values trs) (hall : keys.all (·.isSome) = true)
    (hl : keys.length = values.length) (h0 : keys ≠ []) (h15 : keys.length ≤ 15) : PE X (.Dict keys values pos) (tDispN P w K trs) := by
  obtain ⟨rfl, rfl, rfl⟩ := hx
  refine ⟨fun pins s σ H Q I q => ?_⟩
  have hn := I.hok.fresh (Nat.le_refl s.heap.objs.size)
  have I1 := I.laid (a := s.heap.objs.size) (o := DN X.prog X.w s.heap.objs.size []) (h' := s.heap.push { cls := .type "dict", data := .dict #[] }) (t' := s.toks) (fun _ _ q => Heap.get?_push_of_some _ q) (Nat.le_refl _) (dn_empty s.heap I.big)
  have len := pairTrees_length keys values X.env pos hall hl
  have ne : pairTrees keys values X.env pos ≠ [] := fun e => by
    rw [e] at len
    exact h0 (List.length_eq_zero_iff.mp len.symm)
  rw [arm_eval_Dict, zip_pairTrees keys values X.env pos hall hl, dictDisplay_pairs (pairTrees keys values X.env pos) ne (by omega)]
  refine wpAny_bind <| wpAny_standAt <| wpAny_bind <| wpAny_subDictH (knd := nestedKind X.prog X.w) (show X.A.units + 8 < cLine by omega) (by omega) (thn (h.run pins _ σ _ _ I1 (q _ hn)) fun ws s2 got => ?_)
  obtain ⟨ps, H2, I2, rel, e, M, rfl, hk, l15, q2⟩ := got
  obtain ⟨prs, c, nr⟩ := carriesN I2 rel hk
  obtain ⟨z, hd, xs, r0, dd⟩ := dn_rd I2 ⟨.inl e, fun _ m => nomatch m⟩
  cases r0
  refine ⟨prs, c, dd, fun h' tk dd' hs => wpAny_pure ⟨.ref s.heap.objs.size, _, ?_, rfl, q2⟩⟩
  have lf : (foldN [] M).length ≤ sizeLine := by
    have := foldN_len M []
    rw [List.length_nil] at this
    rw [sizeLine_eq]
    omega
  exact n_write I2 e lf (NR.merge nr .nil) dd' hs
end Gx
set_option maxRecDepth 100000
set_option maxHeartbeats 4000000
namespace Kl
open PySem PySem.Spec PyProof.Rows L2 Gx Mx
abbrev SP := Str × Str
def nxt (R S : Rds) (p : SP) (g : List Str) : SP := (stp R p.1 g, stp S p.2 g)
structure FoundP (R S : Rds) (D : List (List Str)) (a b : Str) (F : List SP) (i : Nat) : Prop where
  nd : F.Nodup
  has : (a, b) ∈ F
  only : ∀ p ∈ F, PR R S D a b p
  done : ∀ (j : Nat) (p : SP), j < i → F[j]? = some p → ∀ g ∈ D, nxt R S p g ∈ F
section
variable {R S : Rds} {D : List (List Str)} {a b : Str} {F : List SP} {i k : Nat}
theorem FoundP.all (f : FoundP R S D a b F F.length) (p : SP) : p ∈ F ↔ PR R S D a b p := by
  refine ⟨f.only p, fun h => ?_⟩
  induction h with
  | start => exact f.has
  | step _ hg ih =>
    obtain ⟨j, hj⟩ := List.mem_iff_getElem?.mp ih
    exact f.done j _ (List.getElem?_eq_some_iff.mp hj).1 hj _ hg
/-- all that is met -/
def valsR (R : Rds) (a : Str) : List Str := a :: "" :: R.map (·.2)
theorem stp_vals (R : Rds) (s a : Str) (g : List Str) : stp R s g ∈ valsR R a := by
  unfold valsR
  rcases stp_cases R s g with m | ⟨e, _⟩
  · exact List.mem_cons_of_mem _ (List.mem_cons_of_mem _ (List.mem_map.mpr ⟨_, m, rfl⟩))
  · rw [e]
    exact List.mem_cons_of_mem _ List.mem_cons_self
theorem pr_vals {p : SP} (h : PR R S D a b p) : p.1 ∈ valsR R a ∧ p.2 ∈ valsR S b := by
  cases h with
  | start => exact ⟨List.mem_cons_self, List.mem_cons_self⟩
  | step _ _ => exact ⟨stp_vals .., stp_vals ..⟩
theorem FoundP.few (f : FoundP R S D a b F i) (h1 : R.length ≤ 40) (h2 : S.length ≤ 40) : F.length ≤ 2000 := by
  have sub : F ⊆ (valsR R a).flatMap fun x => (valsR S b).map fun y => (x, y) := fun p hp => by
    obtain ⟨m1, m2⟩ := pr_vals (f.only p hp)
    exact List.mem_flatMap.mpr ⟨p.1, m1, List.mem_map.mpr ⟨p.2, m2, rfl⟩⟩
  have le := List.Nodup.length_le_of_subset f.nd sub
  have e : ∀ (xs ys : List Str), (xs.flatMap fun x => ys.map fun y => (x, y)).length = xs.length * ys.length := fun xs ys => by
    induction xs with
    | nil => simp
    | cons x xs ih => rw [List.flatMap_cons, List.length_append, ih, List.length_map, List.length_cons, Nat.add_mul, Nat.one_mul, Nat.add_comm]
  rw [e] at le
  have l1 : (valsR R a).length ≤ 42 := by
    unfold valsR
    simp only [List.length_cons, List.length_map]
    omega
  have l2 : (valsR S b).length ≤ 42 := by
    unfold valsR
    simp only [List.length_cons, List.length_map]
    omega
  have := Nat.mul_le_mul l1 l2
  omega
structure FoundPK (R S : Rds) (D : List (List Str)) (a b : Str) (F : List SP) (i k : Nat) : Prop where
  f : FoundP R S D a b F i
  upto : ∀ (j : Nat) (g : List Str) (p : SP), j < k → D[j]? = some g → F[i]? = some p → nxt R S p g ∈ F
theorem FoundPK.next (f : FoundPK R S D a b F i D.length) : FoundP R S D a b F (i + 1) :=
  ⟨f.f.nd, f.f.has, f.f.only, fun j p hj hp g hg => by
    rcases Nat.lt_or_ge j i with h | h
    · exact f.f.done j p h hp g hg
    · have e : j = i := by omega
      subst e
      obtain ⟨k, hk⟩ := List.mem_iff_getElem?.mp hg
      exact f.upto k g p (List.getElem?_eq_some_iff.mp hk).1 hk hp⟩
theorem FoundPK.skip {g : List Str} {p : SP} (f : FoundPK R S D a b F i k) (hg : D[k]? = some g) (hp : F[i]? = some p) (h : nxt R S p g ∈ F) : FoundPK R S D a b F i (k + 1) :=
  ⟨f.f, fun j g' p' hj hg' hp' => by
    rcases Nat.lt_or_ge j k with l | l
    · exact f.upto j g' p' l hg' hp'
    · have e : j = k := by omega
      subst e
      rw [hg] at hg'
      rw [hp] at hp'
      cases hg'
      cases hp'
      exact h⟩
theorem FoundPK.put {g : List Str} {p : SP} (f : FoundPK R S D a b F i k) (hg : D[k]? = some g) (hp : F[i]? = some p) (hn : nxt R S p g ∉ F) : FoundPK R S D a b (F ++ [nxt R S p g]) i (k + 1) := by
  have hi : i < F.length := (List.getElem?_eq_some_iff.mp hp).1
  have old : ∀ {j : Nat} {q : SP}, j < F.length → (F ++ [nxt R S p g])[j]? = some q → F[j]? = some q := fun {j q} hj e => by rw [List.getElem?_append_left hj] at e; exact e
  refine ⟨⟨?_, List.mem_append_left _ f.f.has, fun z hz => ?_, fun j q hj hjq g' hg' => List.mem_append_left _ (f.f.done j q hj (old (by omega) hjq) g' hg')⟩, fun j g' q hj hg' hiq => ?_⟩
  · refine List.nodup_append.mpr ⟨f.f.nd, by simp, fun x hx y hy => ?_⟩
    rw [List.mem_singleton] at hy
    rintro rfl
    exact hn (hy ▸ hx)
  · rcases List.mem_append.mp hz with hz | hz
    · exact f.f.only z hz
    · rw [List.mem_singleton] at hz
      subst hz
      exact .step (f.f.only _ (List.mem_of_getElem? hp)) (List.mem_of_getElem? hg)
  · rcases Nat.lt_or_ge j k with l | l
    · exact List.mem_append_left _ (f.upto j g' q l hg' (old hi hiq))
    · have e : j = k := by omega
      subst e
      rw [hg] at hg'
      have e2 := old hi hiq
      rw [hp] at e2
      cases hg'
      cases e2
      exact List.mem_append_right _ (List.mem_singleton.mpr rfl)
end
end Kl
set_option maxRecDepth 100000
set_option maxHeartbeats 4000000
namespace Gx
open PySem PySem.Spec PyProof.Rows L2
end Gx
set_option maxRecDepth 100000
set_option maxHeartbeats 4000000
namespace Gx
open PySem PySem.Spec PyProof.Rows L2 SeqAt Mx
open AutoSeq1 (wpAny_loadPart')
end Gx
set_option maxRecDepth 100000
set_option maxHeartbeats 4000000
namespace Gx
open PySem PySem.Spec PyProof.Rows L2 SeqAt Mx
end Gx
set_option maxRecDepth 100000
set_option maxHeartbeats 4000000
namespace Gx
open PySem PySem.Spec PySem.Calls PyProof.Rows L2 SeqAt Mx
end Gx
set_option maxRecDepth 100000
set_option maxHeartbeats 4000000
namespace Gx
open PySem PySem.Spec PyProof.Rows L2
end Gx
set_option maxRecDepth 100000
set_option maxHeartbeats 4000000
namespace Kl
open PySem PySem.Spec PyProof.Rows L2 Gx Mx
theorem RdrAt.sx {P : Program} {w : World} {K : PySem.W.Frag} {C d : Addr} {H H' : Hp} {x : Addr} {first : Str} {ends : List Str} {R : Rds} (h : RdrAt P w K C H x first ends R) (hd : DiceAt H d) (s : SameX d H H') : RdrAt P w K C H' x first ends R := by
  obtain ⟨dx, e, d', st, sp, ys, M, h1, h2, ⟨L, k1, k2, k3⟩, h4, h5, h6, h7⟩ := h
  obtain ⟨a, b, c, e0⟩ := id hd
  exact ⟨dx, e, d', st, sp, ys, M, s _ _ (fun z => by rw [z, e0] at h1; cases h1) h1, sqT_sx hd s h2, ⟨L, s _ _ (fun z => by rw [z, e0] at k1; cases k1) k1, fun y m => (k2 y m).mono fun _ _ q => sqT_sx hd s q, k3⟩, sqT_sx hd s h4, h5, sqT_sx hd s h6, h7.mono fun _ _ q => sqT_sx hd s q⟩
end Kl
set_option maxRecDepth 100000
set_option maxHeartbeats 4000000
namespace Gx
open PySem PySem.Spec PyProof.Rows L2 PySem.Calls PySem.W
/-- all cells lie below S -/
structure ZOff (S z TI TO i1 i2 l1 l2 : Addr) : Prop where
  z : z < S
  TI : TI < S
  TO : TO < S
  i1 : i1 < S
  i2 : i2 < S
  l1 : l1 < S
  l2 : l2 < S
def ZSt (h : Heap) (z TI TO i1 i2 l1 l2 S : Addr) (xs ys : Array Value) (i : Nat) : Prop := IsPair h TI (.ref i1) (.ref i2) ∧ h.IsListIter i1 l1 i ∧ h.IsListIter i2 l2 i ∧ h.IsList l1 xs ∧ h.IsList l2 ys ∧
  ((IsZip h z TI TO .none ∧ ∃ a b, IsPair h TO a b) ∨ ∃ T f oT, IsZipHeld h z TI TO T f ∧ h.get? T = some oT ∧ T ≠ z ∧ T ≠ i1 ∧ T ≠ i2 ∧ T ≠ S)
section
variable {S z TI TO i1 i2 l1 l2 : Addr} {xs ys : Array Value} {i : Nat}
theorem ZSt.keep {h h' : Heap} (O : ZOff S z TI TO i1 i2 l1 l2) (hk : ∀ b o, b ≠ S → h.get? b = some o → h'.get? b = some o) (st : ZSt h z TI TO i1 i2 l1 l2 S xs ys i) : ZSt h' z TI TO i1 i2 l1 l2 S xs ys i := by
  obtain ⟨hTI, h1, h2, hl1, hl2, hz⟩ := st
  refine ⟨hk _ _ (Nat.ne_of_lt O.TI) hTI, h1.at fun o e => hk _ o (Nat.ne_of_lt O.i1) e, h2.at fun o e => hk _ o (Nat.ne_of_lt O.i2) e, hl1.at fun o e => hk _ o (Nat.ne_of_lt O.l1) e, hl2.at fun o e => hk _ o (Nat.ne_of_lt O.l2) e, ?_⟩
  rcases hz with ⟨hz, a, b, hTO⟩ | ⟨T, f, oT, hz, hT, r1, r2, r3, r4⟩
  · exact .inl ⟨hk _ _ (Nat.ne_of_lt O.z) hz, a, b, hk _ _ (Nat.ne_of_lt O.TO) hTO⟩
  · exact .inr ⟨T, f, oT, hk _ _ (Nat.ne_of_lt O.z) hz, hk _ _ r4 hT, r1, r2, r3, r4⟩
/-- the addresses as hold the pairs -/
structure ZlG (xs ys : Array Value) (lo : Addr) (h : Heap) (as : List Addr) : Prop where
  rise : as.Pairwise (· < ·)
  above : ∀ a ∈ as, lo < a
  pairs : ∀ (j : Nat) (a : Addr), as[j]? = some a → ∃ x y, xs[j]? = some x ∧ ys[j]? = some y ∧ h.get? a = some { cls := .type "tuple", data := .seq #[x, y] }
theorem ZlG.there {lo : Addr} {h : Heap} {as : List Addr} (g : ZlG xs ys lo h as) {a : Addr} (ha : a ∈ as) : a < h.objs.size := by
  obtain ⟨j, hj⟩ := List.mem_iff_getElem?.mp ha
  obtain ⟨_, _, _, _, e⟩ := g.pairs j a hj
  exact Heap.lt_size e
variable {prog : Program} {w : World} {A : Around} {E : Value → Shared → Prop} {s : Shared}
end
section
variable {X : Cx} {e e2 : Expr} {ta : TA} {p p2 pos pos2 : Pos}
/-- the pairs tracked at their addresses -/
def putV : Hp → List Addr → List (V × V) → Hp
  | H, a :: as, p :: kvs => putV (upd H a (.tup [p.1, p.2])) as kvs
  | H, _, _ => H
theorem putV_off {b : Addr} : ∀ (as : List Addr) (kvs : List (V × V)) (H : Hp), b ∉ as → putV H as kvs b = H b
  | [], _, _, _ => rfl
  | _ :: _, [], _, _ => rfl
  | a :: as, p :: kvs, H, h => by
    show putV (upd H a (.tup [p.1, p.2])) as kvs b = H b
    rw [putV_off as kvs _ (fun z => h (List.mem_cons_of_mem _ z)), upd_ne (fun z => h (by rw [z]; exact List.mem_cons_self))]
theorem putV_at : ∀ (as : List Addr) (kvs : List (V × V)) (H : Hp), as.length = kvs.length → as.Nodup → Paired (fun (t : Addr) (p : V × V) => putV H as kvs t = some (.tup [p.1, p.2])) as kvs
  | [], [], _, _, _ => .nil
  | [], _ :: _, _, h, _ => by cases h
  | _ :: _, [], _, h, _ => by cases h
  | a :: as, p :: kvs, H, h, hn => by
    have hn' := List.nodup_cons.mp hn
    refine .cons ?_ (putV_at as kvs (upd H a (.tup [p.1, p.2])) (Nat.succ.inj h) hn'.2)
    show putV (upd H a (.tup [p.1, p.2])) as kvs a = some (.tup [p.1, p.2])
    rw [putV_off as kvs _ hn'.1, upd_same]
theorem zl_laid {pins : List (Addr × Obj)} {σ : L2.St} {H : Hp} {s : Shared} {h' : Heap} {tk : Nat} {xs ys : List V} {us vs : List Value} {acc : Array Value} {c : Nat} {as : List Addr} {S : Addr} (I : Inv X pins σ H s) (hSg : s.heap.objs.size ≤ S) (hz : xs.length ≤ sizeLine) (rx : Vals xs us) (ry : Vals ys vs)
    (lxy : xs.length ≤ ys.length) (hk : ∀ b o, s.heap.get? b = some o → h'.get? b = some o) (hS : h'.get? S = some { cls := .type "list", dict := none, data := .seq acc c, slots := #[] }) (hl : as.length = xs.length) (hG : ZlG us.toArray vs.toArray S h' as) (hacc : acc.toList = as.map Value.ref) :
    ∃ H' : Hp, (∀ b o, H b = some o → H' b = some o) ∧ H S = none ∧ H' S = some (.lst (as.map V.ref)) ∧ Paired (fun (t : Addr) (q : V × V) => H' t = some (.tup [q.1, q.2])) as (xs.zip ys) ∧ Inv X pins σ H' { s with heap := h', toks := tk } := by
  have hSn : S ∉ as := fun z => Nat.lt_irrefl _ (hG.above _ z)
  have nd : as.Nodup := List.Pairwise.imp (fun {a b} (h : a < b) => Nat.ne_of_lt h) hG.rise
  have new : ∀ t ∈ as, H t = none := fun t ht => I.hok.fresh (Nat.le_of_lt (Nat.lt_of_le_of_lt hSg (hG.above t ht)))
  have newS : H S = none := I.hok.fresh hSg
  have lz : as.length = (xs.zip ys).length := by rw [List.length_zip, hl]; omega
  have atP := putV_at as (xs.zip ys) (upd H S (.lst (as.map V.ref))) lz nd
  have off : ∀ b, b ∉ as → b ≠ S → putV (upd H S (.lst (as.map V.ref))) as (xs.zip ys) b = H b := fun b h1 h2 => by rw [putV_off as _ _ h1, upd_ne h2]
  have low : ∀ b o, s.heap.get? b = some o → b ∉ as ∧ b ≠ S := fun b o e => ⟨fun z => absurd (Heap.lt_size e) (Nat.not_lt.mpr (Nat.le_of_lt (Nat.lt_of_le_of_lt hSg (hG.above b z)))), fun z => absurd (Heap.lt_size e) (Nat.not_lt.mpr (by rw [z]; exact hSg))⟩
  have kp : ∀ b u, H b = some u → (putV (upd H S (.lst (as.map V.ref))) as (xs.zip ys)) b = some u := fun b u e => by
    rw [off b (fun z => by rw [new b z] at e; cases e) (fun z => by rw [z, newS] at e; cases e)]
    exact e
  have eS : putV (upd H S (.lst (as.map V.ref))) as (xs.zip ys) S = some (.lst (as.map V.ref)) := by rw [putV_off as _ _ hSn, upd_same]
  refine ⟨putV (upd H S (.lst (as.map V.ref))) as (xs.zip ys), kp, newS, eS, atP, ?_⟩
  refine I.call' (ch := []) rfl ⟨fun b o q _ _ _ => hk b o q, fun b o q _ _ _ => ⟨o.slots, hk b o q⟩, fun b o q n _ => ?_, fun b o q _ => ⟨o, hk b o q⟩, fun b xs q => kp b _ q, fun b o u q => kp b _ q, fun b ps q => ⟨#[], by rw [kp b _ q]; simp⟩⟩ (fun b u q => ?_) I.bare fun b z => by simp at z
  · obtain ⟨z1, z2⟩ := low b o q
    rw [off b z1 z2]
    exact n
  · by_cases hb : b ∈ as
    · obtain ⟨j, pk, e1, e2, e3⟩ := LiI.paired_ix atP hb
      rw [e3] at q
      cases q
      obtain ⟨x, y, f1, f2, f3⟩ := hG.pairs j b e1
      obtain ⟨g1, g2⟩ := List.getElem?_zip_eq_some.mp e2
      obtain ⟨u1, k1, k2⟩ := rx.get g1
      obtain ⟨u2, k3, k4⟩ := ry.get g2
      have f1' : us[j]? = some x := by simpa using f1
      have f2' : vs[j]? = some y := by simpa using f2
      rw [k1] at f1'
      rw [k3] at f2'
      cases f1'
      cases f2'
      exact ⟨by show 2 ≤ sizeLine; decide, [x, y], .cons k2 (.cons k4 .nil), ⟨_, f3, rfl, _, rfl⟩⟩
    · by_cases hb2 : b = S
      · rw [hb2] at q ⊢
        rw [eS] at q
        cases q
        refine ⟨by rw [List.length_map]; omega, acc.toList, c, by rw [hacc]; exact LiI.vals_refs as, ?_⟩
        rw [Array.toArray_toList]
        exact hS
      · rw [off b hb hb2] at q
        exact (I.hok b u q).stay (fun d v _ y => hk d v y) (fun d y => kp d _ y) fun d xs y => kp d _ y
end
end Gx
set_option maxRecDepth 100000
set_option maxHeartbeats 4000000
namespace Gx
open PySem PySem.Spec PyProof.Rows L2 PySem.W
section
variable {X : Cx} {P : Program} {w : World} {K : PySem.W.Frag} {e : Expr} {te : TE} {p apos cpos pos : Pos}
theorem il_vals {L : NL} {es : Array DictEntry} (hs : es.size = L.length) (ent : ∀ (i : Nat) (x : NestedKey × Addr × V), L[i]? = some x → ∃ en, es[i]? = some en ∧ en.key = .ref x.2.1 ∧ RelV x.2.2 en.val) :
    Vals (L.map fun x => V.ref x.2.1) (es.toList.map (·.key)) ∧ Vals (L.map (·.2.2)) (es.toList.map (·.val)) := by
  have gen : ∀ (L : NL) (ds : List DictEntry), ds.length = L.length → (∀ (i : Nat) (x : NestedKey × Addr × V), L[i]? = some x → ∃ en, ds[i]? = some en ∧ en.key = .ref x.2.1 ∧ RelV x.2.2 en.val) → Vals (L.map fun x => V.ref x.2.1) (ds.map (·.key)) ∧ Vals (L.map (·.2.2)) (ds.map (·.val)) := by
    intro L
    induction L with
    | nil =>
      intro ds h _
      have : ds = [] := List.length_eq_zero_iff.mp (by simpa using h)
      subst this
      exact ⟨.nil, .nil⟩
    | cons x L ih =>
      intro ds h hen
      cases ds with
      | nil => simp at h
      | cons d ds =>
        obtain ⟨en, e1, e2, e3⟩ := hen 0 x rfl
        have ed : d = en := by simpa using e1
        subst ed
        obtain ⟨v1, v2⟩ := ih ds (by simpa using h) fun i y hy => by
          obtain ⟨en, q1, q2⟩ := hen (i + 1) y (by simpa using hy)
          exact ⟨en, by simpa using q1, q2⟩
        exact ⟨.cons e2 v1, .cons e3 v2⟩
  refine gen L es.toList (by simpa using hs) fun i x hx => ?_
  obtain ⟨en, h1, h2⟩ := ent i x hx
  exact ⟨en, by simpa using h1, h2⟩
def tListItemsN (P : Program) (w : World) (te : TE) : TE := fun σ H Q => te σ H fun x H1 => ∃ (d : Addr) (L : NL), x = .ref d ∧ H1 d = some (DN P w d L) ∧
  ∀ (H' : Hp) (l : Addr) (ts : List Addr), (∀ b o, H1 b = some o → H' b = some o) → H1 l = none → H' l = some (.lst (ts.map V.ref)) → Paired (fun (t : Addr) (q : V × V) => H' t = some (.tup [q.1, q.2])) ts ((L.map fun x => V.ref x.2.1).zip (L.map (·.2.2))) → Q (.ref l) H'
theorem pe_listItemsN (hx : XI X P w K) (hc : X.calm = true) (he : PE X e te) (hg : Gl X "list") (hm : X.mg "list" = none) (hv : bootBuiltins "list" = some (.type "list")) (hbase : attributeBase e "items" X.env (eval e X.env) = eval e X.env := by rfl) (hline : (apos.endLine == cpos.line) = true := by rfl)
    (hs : starEach [.Call (.Attribute e "items" apos) [] [] cpos] X.env = (false, eval (.Call (.Attribute e "items" apos) [] [] cpos) X.env) :: starEach [] X.env := by rfl) :
    PE X (.Call (.Name "list" p) [.Call (.Attribute e "items" apos) [] [] cpos] [] pos) (tListItemsN P w te) := by
  obtain ⟨rfl, rfl, rfl⟩ := hx
  refine ⟨fun pins s σ H Q I hq => ?_⟩
  refine wpAny_Call_Name_kw (ld_blt I hg hm hv ?_)
  refine PyProof.Rows.callWith_type1 ?_ hs rfl
  rw [hs]
  show wpAny _ _ (spliced ((false, eval (.Call (.Attribute e "items" apos) [] [] cpos) X.env) :: backTo pos (starEach [] X.env))) _ _ s
  refine Calls.spliced_cons ?_
  refine wpAny_Call_method (T := "dict") (id := "dict.items") hbase rfl hline F.plainAttrs_dict F.slot_dict_items F.type_dict_items (thn (he.run pins s σ H _ I hq) fun u s1 ⟨x, H1, I1, rx, d, L, ex, hd, q⟩ => ?_)
  subst ex
  obtain rfl : u = Value.ref d := rx
  obtain ⟨zl, hs0, es, ep, hraw, hsz, ent⟩ := n_raw I1 (.inl hd)
  obtain ⟨t1, t2⟩ := n_type I1 (.inl hd)
  obtain ⟨rx1, ry1⟩ := il_vals hsz ent
  refine ⟨t1, t2, ?_⟩
  have I2 : Inv X pins σ H1 { s1 with heap := s1.heap.push { cls := .type "dict_items", data := .fields #[.ref d] } } := I1.kept (t' := s1.toks) fun b ob q => Heap.get?_push_of_some _ q
  obtain ⟨o, hgd, hx, hdt⟩ := hraw
  show wpAny _ _ (callWith cpos (.builtin "dict.items") [.ref d] [] []) _ X.xe s1
  refine method_meetsIn F.slot_dict_items F.entry_dict_items rfl (PySem.evalArgs_none ⟨rfl, t1, F.args_dict_items_1 _, _, DT.meetsItems (es := es) (ep := ep) hs0, ⟨o, hgd, hx, hdt⟩, ?_⟩)
  refine Calls.spliced_nil ?_
  refine PySem.W.dil_call (es := es) (ep := ep) (I1.ok.hd hc) ⟨_, Heap.get?_push_size _ rfl, rfl, rfl⟩ (DT.Raw.push ⟨o, hgd, hx, hdt⟩ _) (by rw [hsz]; exact zl) fun h' tk acc c as hk hS hl hG hacc => ?_
  have hG2 : ZlG (es.toList.map (·.key)).toArray (es.toList.map (·.val)).toArray (s1.heap.push { cls := .type "dict_items", data := .fields #[.ref d] }).objs.size h' as := by
    refine ⟨hG.rise, hG.above, fun j a hj => ?_⟩
    obtain ⟨hj', e3⟩ := hG.pairs j a hj
    refine ⟨es[j].key, es[j].val, ?_, ?_, e3⟩
    · simp [hj']
    · simp [hj']
  obtain ⟨H', k1, k2, k3, k4, J⟩ := zl_laid (tk := tk) I2 (Nat.le_refl _) (by rw [List.length_map]; exact zl) rx1 ry1 (by rw [List.length_map, List.length_map]; exact Nat.le_refl _) hk hS (by rw [List.length_map, hl, hsz]) hG2 hacc
  exact ⟨.ref _, H', J, rfl, q H' _ as k1 k2 k3 k4⟩
end
end Gx
set_option maxRecDepth 100000
set_option maxHeartbeats 4000000
namespace L2
open PySem PySem.Spec PyProof.Rows
end L2
set_option maxRecDepth 100000
namespace L2
open PySem PySem.Spec PyProof.Rows
set_option maxHeartbeats 4000000
theorem tuple_mul1 (l : Addr) (items : Array Value) (n : Nat) (dd : Option Addr) (sl : Array (Option Value)) (u : Tok) :
    Meets (Builtin.«tuple.__mul__» ⟨[.ref l, .int 1 u], []⟩) (fun _ R s => s.heap.get? l = some { cls := .type "tuple", dict := dd, data := .seq items n, slots := sl } ∧ R (.ok (.ret (.ref l))) s) :=
  .of_wp fun prog w A R s h => by
    obtain ⟨hp, g, d, tk, os⟩ := s
    obtain ⟨hl, h⟩ := h
    have f1 := AutoSeq1.idx_int
    wp_walk using wpAny_loadPart' hl
    repeat (first
      | (refine wpAny_ite_false (decide_eq_false (by decide)) ?_; wp_walk using wpAny_loadPart' hl)
      | (refine wpAny_ite_true (decide_eq_true (by simp)) ?_; wp_walk using wpAny_loadPart' hl))
    exact ⟨_, rfl, h⟩
theorem tuple_mul0 (l : Addr) (items : Array Value) (n : Nat) (dd : Option Addr) (sl : Array (Option Value)) (u : Tok) (c1 : items.isEmpty = false) :
    Meets (Builtin.«tuple.__mul__» ⟨[.ref l, .int 0 u], []⟩) (fun _ R s => s.heap.get? l = some { cls := .type "tuple", dict := dd, data := .seq items n, slots := sl } ∧
      R (.ok (.ret (.ref s.heap.objs.size))) { s with heap := s.heap.push { cls := .type "tuple", data := .seq #[] } }) :=
  .of_wp fun prog w A R s h => by
    obtain ⟨hp, g, d, tk, os⟩ := s
    obtain ⟨hl, h⟩ := h
    have f1 := AutoSeq1.idx_int
    wp_walk using wpAny_loadPart' hl
    repeat (first
      | (refine wpAny_ite_false (decide_eq_false (by decide)) ?_; wp_walk using wpAny_loadPart' hl)
      | (refine wpAny_ite_false (decide_eq_false (by rw [c1]; decide)) ?_; wp_walk using wpAny_loadPart' hl)
      | (refine wpAny_ite_true (decide_eq_true (by decide)) ?_; wp_walk using wpAny_loadPart' hl)
      | (refine wpAny_ite_true (decide_eq_true (by simp)) ?_; wp_walk using wpAny_loadPart' hl))
    exact ⟨_, rfl, h⟩
/-- t * k, 0 ≤ k: some object that holds t so many times -/
def rRepS (K : PySem.W.Frag) : R2 := fun x y H Q => ∃ (l : Addr) (k : Nat) (xs : List V), x = .ref l ∧ y = .int (k : Nat) ∧ SqT K H l xs ∧ xs ≠ [] ∧ k ≤ 1000 ∧ xs.length ≤ 1000 ∧ ∀ p G, Same H G → SqT K G p (List.replicate k xs).flatten → Q (.ref p) G
section
variable {X : Cx}
theorem op_repS : OpR X (binaryOp .Mult) (rRepS X.K) := by
  intro pins s σ H x y v u Q I rx ry h
  obtain ⟨l, k, xs, rfl, rfl, hT, hne, h1, hz, q⟩ := h
  by_cases c : 2 ≤ k
  · refine op_repT pins s σ H _ _ v u Q I rx ry ⟨l, _, xs, rfl, rfl, hT, hne, by omega, by omega, hz, fun p np => q p _ (fun b u e => by rw [upd_ne (fun z => by rw [z, np] at e; cases e)]; exact e) ?_⟩
    rw [Int.toNat_natCast]
    exact .inl (.inl upd_same)
  cases rx
  obtain ⟨t, rfl⟩ := ry
  obtain ⟨its, r, ⟨⟨cls, dd, data, sl⟩, ho, hc, n, hd⟩, hs⟩ := I.tuple hT
  simp only at hc hd
  subst hc hd
  have hn : its.toArray.isEmpty = false := by
    cases its with
    | nil => exact absurd (List.eq_nil_of_length_eq_zero (by rw [r.length]; rfl)) hne
    | cons a b => rfl
  by_cases c1 : k = 1
  · subst c1
    refine wpAny_binaryOp_repeat_ref (T := "tuple") (U := "int") (by decide) ⟨_, ho, rfl⟩ (fun s' => typeIs_int s' 1 t) noFill_tuple_mul F.fills_int_mul F.slot_int_rmul repeat_tuple F.slot_int_index.lookup
      (call_meets F.slot_int_rmul (typeIs_int s 1 t) F.entry_int_rmul (F.args_int_rmul_2 _ _) (int_rmul_tuple 1 t l its.toArray n dd sl)
        ⟨ho, rfl, ⟨_, ho, rfl⟩, call_meets F.slot_tuple_mul ⟨_, ho, rfl⟩ F.entry_tuple_mul (F.args_tuple_mul_2 _ _) (tuple_mul1 l its.toArray n dd sl t) ⟨ho, ?_⟩⟩)
    refine ⟨.ref l, H, I, rfl, q l H (Same.refl H) ?_⟩
    rw [List.replicate_one, List.flatten_singleton]
    exact hT
  · have c0 : k = 0 := by omega
    subst c0
    refine wpAny_binaryOp_repeat_ref (T := "tuple") (U := "int") (by decide) ⟨_, ho, rfl⟩ (fun s' => typeIs_int s' 0 t) noFill_tuple_mul F.fills_int_mul F.slot_int_rmul repeat_tuple F.slot_int_index.lookup
      (call_meets F.slot_int_rmul (typeIs_int s 0 t) F.entry_int_rmul (F.args_int_rmul_2 _ _) (int_rmul_tuple 0 t l its.toArray n dd sl)
        ⟨ho, rfl, ⟨_, ho, rfl⟩, call_meets F.slot_tuple_mul ⟨_, ho, rfl⟩ F.entry_tuple_mul (F.args_tuple_mul_2 _ _) (tuple_mul0 l its.toArray n dd sl t hn) ⟨ho, ?_⟩⟩)
    have hf := I.hok.fresh (Nat.le_refl s.heap.objs.size)
    refine ⟨.ref s.heap.objs.size, _, I.laid (t' := s.toks) (o := .tup []) (fun b ob e => Heap.get?_push_of_some _ e) (Nat.le_refl _) ?_, rfl, q _ _ (fun b u e => by rw [upd_ne (fun z => by rw [z, hf] at e; cases e)]; exact e) (.inl (.inl upd_same))⟩
    exact ⟨Nat.zero_le _, [], .nil, IsTup.new _ _⟩
end
end L2
set_option maxRecDepth 100000
set_option maxHeartbeats 4000000
namespace Kl
open PySem PySem.Spec PyProof.Rows L2 Gx Mx
def R4 : Rds := [(("s", []), "z"), (("s", ["a"]), "o"), (("z", []), "z"), (("z", ["a"]), "o")]
def R6 : Rds := [(("s", []), "z"), (("s", ["a"]), "o"), (("z", []), "z"), (("z", ["a"]), "o"), (("o", []), "z"), (("o", ["a"]), "o")]
def ROWS : List (List (List Str)) := [[], [["a"]], [[], ["a"]], [["a"], []], [["a", "a"]], [[], [], []]]
theorem six_of {l more : List Str} (h : l.all (fun z => decide (z ∈ more)) = true) (n : more.length ≤ 6) : ∀ ys, IsSt l ys → ys.length ≤ 6 := fun ys hys =>
  Nat.le_trans (List.Nodup.length_le_of_subset hys.2.1 fun z m => of_decide_eq_true (List.all_eq_true.mp h z ((hys.2.2 z).mp m))) n
theorem r6_ok : RdOk "s" ["o"] R6 := by
  refine rdOk_mk (by decide +kernel) (by decide +kernel) (List.all_eq_true.mp (by decide +kernel)) (by decide) (by decide +kernel) (six_of (more := ["o", "s", "z"]) (by decide +kernel) (by decide)) (List.all_eq_true.mp (by decide +kernel)) (by decide +kernel) (by decide)
def TOLD19 : List V := [V.str "s", V.str "o", V.str "o", V.str "z", V.str "", V.str "z", V.bl true, V.bl true, V.bl true, V.bl false, V.bl false, V.bl false]
def TOLD19D : List PyData := [.str "s", .str "o", .str "o", .str "z", .str "", .str "z", .bool true, .bool true, .bool true, .bool false, .bool false, .bool false]
theorem told19_dp {K : PySem.W.Frag} {H : Hp} : DpAll K H TOLD19 TOLD19D := .cons (.str _) (.cons (.str _) (.cons (.str _) (.cons (.str _) (.cons (.str _) (.cons (.str _) (.cons (.bl _) (.cons (.bl _) (.cons (.bl _) (.cons (.bl _) (.cons (.bl _) (.cons (.bl _) .nil)))))))))))
theorem told19_sh : SeqAt.shaped (.list TOLD19D) = true := by decide +kernel
theorem told19_eq : PyData.eqv (.list TOLD19D) (.list TOLD19D) = true := by decide +kernel
theorem beh_eq : ROWS.map (fun r => V.str (runR R6 "s" r)) ++ ROWS.map (fun r => V.bl (decide (r = []) || decide (runR R6 "s" r ∈ (["o"] : List Str)))) = TOLD19 := by decide +kernel
def rowB (qs : List (List Str)) : Bool := decide (qs.length ≤ 402) && qs.all fun q => dgB q && (decide (q.length ≤ 20) && q.all fun z => decide (z.length ≤ 1000) && PyData.strOk z)
theorem rows_ok : ROWS.all rowB = true := by decide +kernel
def dgOkB (q : List Str) : Bool := dgB q && (decide (q.length ≤ 20) && q.all fun z => decide (z.length ≤ 1000) && PyData.strOk z)
theorem dgOk_of {q : List Str} (h : dgOkB q = true) : (dgB q = true ∧ q.length ≤ 20 ∧ ∀ z ∈ q, z.length ≤ 1000) ∧ ∀ z ∈ q, PyData.strOk z = true := by
  unfold dgOkB at h
  simp only [Bool.and_eq_true, decide_eq_true_eq, List.all_eq_true] at h
  exact ⟨⟨h.1, h.2.1, fun z m => (h.2.2 z m).1⟩, fun z m => (h.2.2 z m).2⟩
theorem rw_of {LL : List (Addr × List Str)} (h : rowB (LL.map (·.2)) = true) : RwOk LL := by
  unfold rowB at h
  rw [Bool.and_eq_true, decide_eq_true_eq, List.length_map] at h
  have h2 := List.all_eq_true.mp h.2
  exact ⟨h.1, fun q m => (dgOk_of (h2 q.2 (List.mem_map.mpr ⟨q, m, rfl⟩))).1, fun q m => (dgOk_of (h2 q.2 (List.mem_map.mpr ⟨q, m, rfl⟩))).2⟩
theorem rw_all {LL L : List (Addr × List Str)} (h : ∀ q ∈ L, dgOkB q.2 = true) (s : ∀ q ∈ LL, q ∈ L) (l : LL.length ≤ 402) : RwOk LL :=
  ⟨l, fun q m => (dgOk_of (h q (s q m))).1, fun q m => (dgOk_of (h q (s q m))).2⟩
theorem word_dg {q : List Str} (h : wordB q = true) : dgOkB q = true := by
  unfold wordB digB at h
  unfold dgOkB dgB
  simp only [Bool.and_eq_true, decide_eq_true_eq, List.all_eq_true] at h ⊢
  obtain ⟨⟨h1, h2⟩, h3, h4⟩ := h
  refine ⟨⟨by omega, h2⟩, by omega, fun z m => ⟨Nat.le_trans (h4 z m).1 (by decide), (h4 z m).2⟩⟩
abbrev A20 : List Str := List.replicate 20 "a"
theorem xdigs : ([[], ["q"], ["a", "a", "b"], A20] : List (List Str)).all dgOkB = true := by decide +kernel
theorem toN_nd {L : ML} (nd : (L.map (·.1)).Nodup) : ((([] : NL) ++ toN L).map (·.1)).Nodup := by
  rw [List.nil_append]
  unfold toN
  rw [List.map_map]
  exact List.pairwise_map.mpr (List.Pairwise.imp (fun n e => n (keyK_inj e)) (List.pairwise_map.mp nd))
theorem zipN {G : Hp} : ∀ {L : NL} {ts : List Addr}, Paired (fun (t : Addr) (q : V × V) => G t = some (.tup [q.1, q.2])) ts ((L.map fun x => V.ref x.2.1).zip (L.map (·.2.2))) → Paired (fun p (e : NestedKey × Addr × V) => G p = some (.tup [V.ref e.2.1, e.2.2])) ts L
  | [], _, h => by
    rw [List.map_nil, List.zip_nil_left] at h
    cases h
    exact .nil
  | x :: L, _, h => by
    rw [List.map_cons, List.map_cons, List.zip_cons_cons] at h
    cases h with
    | cons h t => exact .cons h (zipN t)
theorem paired_app {α β : Type} {F : α → β → Prop} : ∀ {xs : List α} {ys : List β}, Paired F xs ys → ∀ {us : List α} {vs : List β}, Paired F us vs → Paired F (xs ++ us) (ys ++ vs)
  | _, _, .nil, _, _, q => q
  | _, _, .cons h t, _, _, q => .cons h (paired_app t q)
theorem sqL_samex {K : PySem.W.Frag} {d a : Addr} {H H' : Hp} {xs : List V} (n : H d = none) (s : SameX d H H') (h : SqL K H a xs) : SqL K H' a xs := by
  rcases h with (h | ⟨o, h⟩) | h
  · exact .inl (.inl (s _ _ (fun z => by rw [z, n] at h; cases h) h))
  · exact .inl (.inr ⟨o, s _ _ (fun z => by rw [z, n] at h; cases h) h⟩)
  · exact .inr h
abbrev NLW : List Str := ["_law_script", "_law_spot", "_law_dice_here", "_law_digits", "_law_plain", "_law_reader", "_law_other", "_law_aside", "_law_word", "_law_turn", "_law_lines", "_law_rows", "_law_told", "_law_row"]
section
variable {P : Program} {w : World} {K : PySem.W.Frag} {mg : Str → Option Value} {base : Heap}
def spLaw (K : PySem.W.Frag) : Sp := fun vs H Q _ => ∃ (a : Addr) (ns : List Int), vs = [.ref a] ∧ SqL K H a (ns.map V.int) ∧ ns.length ≤ 63 ∧ ∀ H', Q (.bl true) H'
theorem ok_law {f : Addr} {fd : FuncData} (F : Fun K "law" "law" s_law f fd) (T : Top K mg) : FnG P w K mg base CX0 13 f fd ["_law_script"] (spLaw K) := by
  obtain ⟨C, TC⟩ := T.c_Reader
  have cd : Cal P w K mg base 12 "_law_dice" ["_law_script", "_law_spot"] (spDice K) := (T.d_law_dice.cal fun f fd F => ok_dice F T).mono (by decide)
  have csd : Cal P w K mg base 12 "_law_some_digits" ["_law_dice_here", "_law_most"] (spSD K) := (T.d_law_some_digits.cal fun f fd F => ok_sd F T).mono (by decide)
  have cpr : Cal P w K mg base 12 "_law_plain_reader" ["_law_dice_here", "_law_states", "_law_digits"] (spPR P w K) := (T.d_law_plain_reader.cal fun f fd F => ok_pr F T).mono (by decide)
  have cmr : Cal P w K mg base 12 "_law_made_reader" ["_law_plain"] (spMade P w K C) := (T.d_law_made_reader.cal fun f fd F => ok_made F T TC).mono (by decide)
  have cpk : Cal P w K mg base 12 "_law_pick" ["_law_dice_here", "_law_items"] (spPick K) := (T.d_law_pick.cal fun f fd F => ok_pick F T).mono (by decide)
  have cwd : Cal P w K mg base 12 "_law_words" ["_law_digits", "_law_most"] (spWords K) := (T.d_law_words.cal fun f fd F => ok_words F T).mono (by decide)
  have clg : Cal P w K mg base 12 "_law_long" ["_law_dice_here", "_law_plain", "_law_digits"] (spLg P w K) := (T.d_law_long.cal fun f fd F => ok_lg F T).mono (by decide)
  have crl : Cal P w K mg base 12 "_law_reader_lines" ["_law_plain"] (spRLs P w K) := (T.d_law_reader_lines.cal fun f fd F => ok_rls F T).mono (by decide)
  have ciw : CalG P w K mg base 12 "_law_is_walked" ["_law_plain", "_law_reader", "_law_word"] (spIW P w K C) := T.d_law_is_walked.calG fun f fd F => ok_iw F T TC
  have kLi : CalP P w K mg base C "lines" 2 (spRLines P w K C) := TC.p_lines.cal fun f fd F => ok_rlines F T TC
  have kB : CalM P w K mg base C "behind" 6 ["self", "digits"] (spBehind P w K C) := TC.m_behind.cal fun f fd F => ok_behind F T TC
  have kT : CalM P w K mg base C "takes" 7 ["self", "digits"] (spTakesV P w K C) := TC.m_takes.cal fun f fd F => ok_takesV F T TC
  have cI : CalI P w K mg base C 11 ["self", "first", "ends", "reads"] (spRInit P w K C) := by
    obtain ⟨f, fd, M, F, b⟩ := TC.made
    exact ⟨f, fd, M, (ok_rinit F T TC).mono (by decide), b⟩
  refine okG F sc_law (fun vs H Q E h => ?_) (fun cdv A outer s H vs Q E hg hr h => ?_)
  · obtain ⟨a, ns, rfl, _⟩ := h
    rfl
  · obtain ⟨a, ns, rfl, hS, hlen, q⟩ := h
    have r3 := hr.mono (show 3 ≤ 12 by decide)
    have r6 := hr.mono (show 6 ≤ 12 by decide)
    have r7 := hr.mono (show 7 ≤ 12 by decide)
    refine ⟨_, pss_cut (ps_for PassesOwn.never rfl (pi_range1 (by rfl) T.b_range (pa_cons (pe_callB (call_max2 rfl) (by rfl) T.b_max (by decide +kernel) (pa_cons pe_int (pa_cons
          (pe_callB (call_min2 rfl) (by rfl) T.b_min (by decide +kernel) (pa_cons pe_int (pa_cons (pe_callB call_len_seq (by rfl) T.b_len PySem.boot_len (pa_cons (pv 0) pa_nil)) pa_nil))) pa_nil))) pa_nil))
          (pg_name (i := 1) sc_law.nd rfl (.inl rfl))
        (pss_cut (ps_set (i := 2) sc_law.nd rfl (.inl rfl) (pe_cal cd hr (by rfl) (pa_cons (pv 0) (pa_cons (pv 1) pa_nil))))
        (pss_cut (ps_set (i := 3) sc_law.nd rfl (.inl rfl) (pe_cal csd hr (by rfl) (pa_cons (pv 2) (pa_cons pe_int pa_nil))))
        (pss_cut (ps_set (i := 4) sc_law.nd rfl (.inl rfl) (pe_cal cpr hr (by rfl) (pa_cons (pv 2) (pa_cons pe_int (pa_cons (pv 3) pa_nil)))))
        (pss_cut (ps_asg (pe_tup (pa_cons (pe_cal cmr hr (by rfl) (pa_cons (pv 4) pa_nil)) (pa_cons (pe_cal cpr hr (by rfl) (pa_cons (pv 2) (pa_cons pe_int (pa_cons (pv 3) pa_nil)))) pa_nil))) (pg_tup (n := 2) rfl (pgs_cons (pg_name (i := 5) sc_law.nd rfl (.inr rfl)) (pgs_cons (pg_name (i := 6) sc_law.nd rfl (.inl rfl)) pgs_nil))))
        (pss_cut (ps_set (i := 7) sc_law.nd rfl (.inl rfl) (pe_cal cmr hr (by rfl) (pa_cons (pv 6) pa_nil)))
        (pss_cut (ps_for PassesOwn.never rfl (pi_list (pe_cal cwd hr (by rfl) (pa_cons (pe_op op_cat (pv 3) (pe_lst (pa_cons (pe_cal cpk hr (by rfl) (pa_cons (pv 2) (pa_cons (pe_lst (pa_cons (pe_tup pa_nil) (pa_cons (pe_tup (pa_cons pe_str pa_nil)) (pa_cons (pe_tup (pa_cons pe_str (pa_cons pe_str (pa_cons pe_str pa_nil)))) (pa_cons (pe_op op_repS (pe_tup (pa_cons pe_str pa_nil)) pe_int) pa_nil))))) pa_nil))) pa_nil))) (pa_cons pe_int pa_nil)))) (pg_name (i := 8) sc_law.nd rfl (.inl rfl))
          (pss_one (ps_if (PW.pt (pw_or (pt_not (pt_val (pe_calG ciw hg hr (by rfl) (pa_cons (pv 4) (pa_cons (pv 5) (pa_cons (pv 8) pa_nil)))))) (pw_or1 (pt_not (pt_val (pe_calG ciw hg hr (by rfl) (pa_cons (pv 6) (pa_cons (pv 7) (pa_cons (pv 8) pa_nil))))))))) (pss_one (ps_ret pe_bl)) pss_nil)))
        (pss_cut (ps_for PassesOwn.never rfl (pi_range1 (by rfl) T.b_range (pa_cons pe_int pa_nil)) (pg_name (i := 9) sc_law.nd rfl (.inl rfl))
          (pss_one (ps_if (pt_not (pt_val (pe_calG ciw hg hr (by rfl) (pa_cons (pv 4) (pa_cons (pv 5) (pa_cons (pe_cal clg hr (by rfl) (pa_cons (pv 2) (pa_cons (pv 4) (pa_cons (pv 3) pa_nil)))) pa_nil)))))) (pss_one (ps_ret pe_bl)) pss_nil)))
        (pss_one (ps_if (PW.pt (pw_or (pt_not (pt_val (pe_calG ciw hg hr (by rfl) (pa_cons (pv 4) (pa_cons (pv 5) (pa_cons (pe_tup pa_nil) pa_nil)))))) (pw_or1 (pt_cmpR (op_neD hr.units) (pe_propC (pv 5) TC.cl kLi r3 rfl) (pe_callTy call_tuple_of (by rfl) T.b_tuple (by decide +kernel) (pa_cons (pe_cal crl hr (by rfl) (pa_cons (pv 4) pa_nil)) pa_nil)) (nomark _))))) (pss_one (ps_ret pe_bl)) pss_nil))))))))))
      (pss_cut (ps_set (i := 10) sc_law.nd rfl (.inl rfl) (pe_dispN (P := P) (w := w) (K := K) (by exact ⟨rfl, rfl, rfl⟩) (by exact hr.units)
          (pps_cons (pe_tup (pa_cons pe_str (pa_cons (pe_tup pa_nil) pa_nil))) pe_str (pps_cons (pe_tup (pa_cons pe_str (pa_cons (pe_tup (pa_cons pe_str pa_nil)) pa_nil))) pe_str
          (pps_cons (pe_tup (pa_cons pe_str (pa_cons (pe_tup pa_nil) pa_nil))) pe_str (pps_cons (pe_tup (pa_cons pe_str (pa_cons (pe_tup (pa_cons pe_str pa_nil)) pa_nil))) pe_str pps_nil)))) rfl rfl (by decide) (by decide)))
      (pss_cut (ps_set (i := 10) sc_law.nd rfl (.inl rfl) (pe_callTy (call_dictN (P := P) (w := w) (K := K) (by exact ⟨rfl, rfl, rfl⟩) rfl (by exact hr.units)) (by rfl) T.b_dict (by decide +kernel) (pa_cons (pe_op op_cat
          (pe_listItemsN (P := P) (w := w) (K := K) (by exact ⟨rfl, rfl, rfl⟩) rfl (pv 10) (by rfl) T.b_list (by decide +kernel))
          (pe_lst (pa_cons (pe_tup (pa_cons (pe_tup (pa_cons pe_str (pa_cons (pe_tup pa_nil) pa_nil))) (pa_cons pe_str pa_nil))) (pa_cons (pe_tup (pa_cons (pe_tup (pa_cons pe_str (pa_cons (pe_tup (pa_cons pe_str pa_nil)) pa_nil))) (pa_cons pe_str pa_nil))) pa_nil)))) pa_nil)))
      (pss_cut (ps_set (i := 5) sc_law.nd rfl (.inr rfl) (pe_makeC cI hr (by rfl) TC.gC (pa_cons pe_str (pa_cons (pe_tup (pa_cons pe_str pa_nil)) (pa_cons (pv 10) pa_nil)))))
      (pss_cut (ps_set (i := 11) sc_law.nd rfl (.inl rfl) (pe_lst (pa_cons (pe_tup pa_nil) (pa_cons (pe_tup (pa_cons (pe_tup (pa_cons pe_str pa_nil)) pa_nil)) (pa_cons (pe_tup (pa_cons (pe_tup pa_nil) (pa_cons (pe_tup (pa_cons pe_str pa_nil)) pa_nil))) (pa_cons (pe_tup (pa_cons (pe_tup (pa_cons pe_str pa_nil)) (pa_cons (pe_tup pa_nil) pa_nil)))
          (pa_cons (pe_tup (pa_cons (pe_tup (pa_cons pe_str (pa_cons pe_str pa_nil))) pa_nil)) (pa_cons (pe_tup (pa_cons (pe_tup pa_nil) (pa_cons (pe_tup pa_nil) (pa_cons (pe_tup pa_nil) pa_nil)))) pa_nil))))))))
      (pss_cut (ps_set (i := 12) sc_law.nd rfl (.inl rfl) (pe_op op_cat
          (pe_lc (own := [("_law_row", 13)]) (g := gName 13) (tt := tYes) rfl sc_law.nd (pi_list (pv 11)) (blkOk_by (N := NLW) (sc := defScope s_law) (by decide +kernel)) (fun _ _ _ _ _ => pg_name (i := 13) sc_law.nd rfl (.inl rfl)) (fun _ _ _ _ _ => pts_nil)
            (fun _ _ _ _ _ => pe_methC (pl := _) (pv 5) (by exact TC.cl) (by exact kB) (by exact r6) (pa_cons (pv 13) pa_nil)))
          (pe_lc (own := [("_law_row", 13)]) (g := gName 13) (tt := tYes) rfl sc_law.nd (pi_list (pv 11)) (blkOk_by (N := NLW) (sc := defScope s_law) (by decide +kernel)) (fun _ _ _ _ _ => pg_name (i := 13) sc_law.nd rfl (.inl rfl)) (fun _ _ _ _ _ => pts_nil)
            (fun _ _ _ _ _ => pe_methC (pl := _) (pv 5) (by exact TC.cl) (by exact kT) (by exact r7) (pa_cons (pv 13) pa_nil)))))
      (pss_one (ps_ret (pe_cmpR (op_eqD hr.units) (pv 12) (pe_lst (pa_cons pe_str (pa_cons pe_str (pa_cons pe_str (pa_cons pe_str (pa_cons pe_str (pa_cons pe_str (pa_cons pe_bl (pa_cons pe_bl (pa_cons pe_bl (pa_cons pe_bl (pa_cons pe_bl (pa_cons pe_bl pa_nil))))))))))))) (nomark _))))))))), ?_⟩
    have big : 100000 ≤ sizeLine := by decide
    have l1 : 1 ≤ sizeLine := by omega
    have l2 : 2 ≤ sizeLine := by omega
    have l3 : 3 ≤ sizeLine := by omega
    have l4 : 4 ≤ sizeLine := by omega
    have kN : ∀ {G : Hp} {L : ML}, (∀ x ∈ L, KeyA K G x.2.1 (keyK x.1)) → ∀ z ∈ toN L, KeyA K G z.2.1 z.1 := fun hk z hz => by
      obtain ⟨z', hz', rfl⟩ := List.mem_map.mp hz
      exact hk z' hz'
    -- the spots
    refine ⟨fun σ' G => ∃ (y1 y2 y3 y4 y5 y6 y7 y8 y9 : Option V), σ' = [some (.ref a), y1, y2, y3, y4, y5, y6, y7, y8, y9, none, none, none, none], ?_, ?_⟩
    · refine ⟨_, rfl, a, _, rfl, .inl hS, _, _, rfl, _, _, rfl, _, rfl, ?_, ?_, ?_⟩
      · split <;> split <;> omega
      · split <;> split <;> omega
      refine for_range (lo := 0) (fun i σ' G => (∃ (y1 y2 y3 y4 y5 y6 y7 y8 y9 : Option V), σ' = [some (.ref a), y1, y2, y3, y4, y5, y6, y7, y8, y9, none, none, none, none]) ∧ SqL K G a (ns.map V.int)) ⟨⟨_, _, _, _, _, _, _, _, _, rfl⟩, hS⟩ (fun i σ' G hi hP => ?_) (fun σ' G hP => hP.1)
      obtain ⟨⟨y1, y2, y3, y4, y5, y6, y7, y8, y9, rfl⟩, hSG⟩ := hP
      -- the dice
      refine ⟨fun σ' G' => ∃ (y1 : Option V) (d : Addr), σ' = [some (.ref a), y1, some (.ref d), y3, y4, y5, y6, y7, y8, y9, none, none, none, none] ∧ DiceAt G' d ∧ G d = none ∧ SameX d G G', ?_, ?_⟩
      · refine ⟨_, rfl, _, rfl, a, ns, i, ?_, hSG, hlen, ?_, fun d x0 b0 nd => ⟨_, d, rfl, ⟨x0, b0, 0, upd_same⟩, nd, (SameX.refl d G).atd⟩⟩
        · show [V.ref a, V.int (0 + (i : Int))] = _
          rw [Int.zero_add]
        · have : i < 5 := by
            revert hi
            split <;> split <;> omega
          omega
      rintro σ' G1 ⟨y1, d, rfl, hd1, nd, sx1⟩
      -- the digits
      refine ⟨fun σ' G' => ∃ (l : Addr) (L : List (Addr × List Str)), σ' = [some (.ref a), y1, some (.ref d), some (.ref l), y4, y5, y6, y7, y8, y9, none, none, none, none] ∧ G' l = some (.lst (L.map fun q => V.ref q.1)) ∧ l ≠ d ∧ TsAt K G' L ∧ (L.map (·.2)).Nodup ∧ (∀ q ∈ L, wordB q.2 = true) ∧ L.length ≤ 4 ∧ L ≠ [] ∧ SameX d G1 G' ∧ DiceAt G' d, ?_, ?_⟩
      · exact ⟨_, rfl, d, 3, rfl, by decide, by decide, hd1, fun l L G3 sx3 hd3 nl el hL ndL okL lL neL => ⟨l, L, rfl, el, dice_ne hd1 nl, hL, ndL, okL, lL, neL, sx3, hd3⟩⟩
      rintro σ' G2 ⟨l, L, rfl, el2, nld, hL2, ndL, okL, lL, neL, sx2, hd2⟩
      have keepL : ∀ {A B : Hp}, DiceAt A d → SameX d A B → TsAt K A L → TsAt K B L := fun h s t q m => sqT_sx h s (t q m)
      have dgs : ∀ q ∈ L, dgOkB q.2 = true := fun q m => word_dg (okL q m)
      -- a plain reader
      refine ⟨fun σ' G' => ∃ (p el rd : Addr) (first : Str) (ends : List Str) (R : Rds), σ' = [some (.ref a), y1, some (.ref d), some (.ref l), some (.ref p), y5, y6, y7, y8, y9, none, none, none, none] ∧ PlainAt P w K G' p el rd first ends R ∧ RdOk first ends R ∧ (∀ r ∈ R, ∀ y ∈ r.1.2, PyData.strOk y = true) ∧ SameX d G2 G' ∧ DiceAt G' d, ?_, ?_⟩
      · exact ⟨_, rfl, _, rfl, d, l, 5, L, rfl, by decide, by decide, hd2, el2, hL2, ndL, okL, by omega, fun p el rd first ends R G4 sx4 hd4 hP hok so _ _ => ⟨p, el, rd, first, ends, R, rfl, hP, hok, so, sx4, hd4⟩⟩
      rintro σ' G3 ⟨p, el, rd, first, ends, R, rfl, hP3, hok, so, sx3, hd3⟩
      have el3 := sx3 _ _ nld el2
      have hL3 := keepL hd2 sx3 hL2
      -- a reader, another plain one
      refine ⟨fun σ' G' => ∃ (x p' el' rd' : Addr) (R1 : Rds) (first' : Str) (ends' : List Str) (R' : Rds), σ' = [some (.ref a), y1, some (.ref d), some (.ref l), some (.ref p), some (.ref x), some (.ref p'), y7, y8, y9, none, none, none, none] ∧ R1.Perm R ∧ Asc R1 ∧ RdrAt P w K C G' x first ends R1 ∧ PlainAt P w K G' p' el' rd' first' ends' R' ∧ RdOk first' ends' R' ∧ SameX d G3 G' ∧ DiceAt G' d, ?_, ?_⟩
      · refine ⟨_, rfl, p, el, rd, first, ends, R, rfl, hP3, hok, fun R1 x G4 p1 asc1 nx s4 hR1 _ => ?_⟩
        have hd4 := dice_sm s4 hd3
        refine ⟨_, rfl, _, rfl, d, l, 3, L, rfl, by decide, by decide, hd4, s4 _ _ el3, (fun q m => sqT_same s4 (hL3 q m)), ndL, okL, by omega, fun p' el' rd' first' ends' R' G5 sx5 hd5 hP' hok' _ _ _ => ?_⟩
        refine ⟨l2, fun t nt => ?_⟩
        have s6 := same_new (o := .tup [V.ref x, V.ref p']) (Same.refl G5) nt
        exact ⟨t, _, rfl, SqT.of upd_same, rfl, _, _, rfl, _, _, rfl, rfl, x, p', el', rd', R1, first', ends', R', rfl, p1, asc1, (hR1.sx hd4 sx5).same s6, hP'.same s6, hok', ((SameX.of s4).trans sx5).trans (SameX.of s6), dice_sm s6 hd5⟩
      rintro σ' G4 ⟨x, p', el', rd', R1, first', ends', R', rfl, p1, asc1, hR4, hP4', hok', sx4, hd4⟩
      have hP4 := hP3.sx hd3 sx4
      -- the other reader
      refine ⟨fun σ' G' => ∃ (x' : Addr) (R2 : Rds), σ' = [some (.ref a), y1, some (.ref d), some (.ref l), some (.ref p), some (.ref x), some (.ref p'), some (.ref x'), y8, y9, none, none, none, none] ∧ R2.Perm R' ∧ RdrAt P w K C G' x' first' ends' R2 ∧ Same G4 G', ?_, ?_⟩
      · exact ⟨_, rfl, p', el', rd', first', ends', R', rfl, hP4', hok', fun R2 x' G5 p2 _ _ s5 hR2 _ => ⟨x', R2, rfl, p2, hR2, s5⟩⟩
      rintro σ' G5 ⟨x', R2, rfl, p2, hR5', s5⟩
      have hd5 := dice_sm s5 hd4
      have hP5 := hP4.same s5
      have hP5' := hP4'.same s5
      have hR5 := hR4.same s5
      have el5 := s5 _ _ (sx4 _ _ nld el3)
      have hL5 : TsAt K G5 L := fun q m => sqT_same s5 (keepL hd3 sx4 hL3 q m)
      have sx05 : SameX d G G5 := (((sx1.trans sx2).trans sx3).trans sx4).trans (SameX.of s5)
      -- the words
      refine ⟨fun σ' G' => (∃ y8 : Option V, σ' = [some (.ref a), y1, some (.ref d), some (.ref l), some (.ref p), some (.ref x), some (.ref p'), some (.ref x'), y8, y9, none, none, none, none]) ∧ SameX d G5 G' ∧ DiceAt G' d, ?_, ?_⟩
      · refine ⟨_, rfl, _, rfl, Nat.zero_le _, fun g1 n1 => ?_⟩
        have s6 := same_new (o := .tup []) (Same.refl G5) n1
        have e1 : (upd G5 g1 (.tup [])) g1 = some (.tup []) := upd_same
        generalize upd G5 g1 (.tup []) = G6 at *
        refine ⟨l1, fun g2 n2 => ?_⟩
        have s7 := same_new (o := .tup [V.str "q"]) (Same.refl G6) n2
        have e2 : (upd G6 g2 (.tup [V.str "q"])) g2 = some (.tup [V.str "q"]) := upd_same
        generalize upd G6 g2 (.tup [V.str "q"]) = G7 at *
        refine ⟨l3, fun g3 n3 => ?_⟩
        have s8 := same_new (o := .tup [V.str "a", V.str "a", V.str "b"]) (Same.refl G7) n3
        have e3 : (upd G7 g3 (.tup [V.str "a", V.str "a", V.str "b"])) g3 = some (.tup [V.str "a", V.str "a", V.str "b"]) := upd_same
        generalize upd G7 g3 (.tup [V.str "a", V.str "a", V.str "b"]) = G8 at *
        refine ⟨l1, fun g0 n0 => ?_⟩
        have s9 := same_new (o := .tup [V.str "a"]) (Same.refl G8) n0
        have e0 : (upd G8 g0 (.tup [V.str "a"])) g0 = some (.tup [V.str "a"]) := upd_same
        generalize upd G8 g0 (.tup [V.str "a"]) = G9 at *
        refine ⟨g0, 20, [V.str "a"], rfl, rfl, SqT.of e0, by simp, by decide, by show 1 ≤ 1000; omega, fun g4 G10 s10' h4' => ?_⟩
        have s10 : Same G9 G10 := s10'
        have h4 : SqT K G10 g4 (A20.map V.str) := h4'
        refine ⟨l4, fun li nli => ?_⟩
        have s11 := same_new (o := .lst [V.ref g1, V.ref g2, V.ref g3, V.ref g4]) (Same.refl G10) nli
        have eli : (upd G10 li (.lst [V.ref g1, V.ref g2, V.ref g3, V.ref g4])) li = some (.lst [V.ref g1, V.ref g2, V.ref g3, V.ref g4]) := upd_same
        have s510 := s6.trans (s7.trans (s8.trans (s9.trans s10)))
        have nlid : li ≠ d := dice_ne (dice_sm s510 hd5) nli
        generalize upd G10 li (.lst [V.ref g1, V.ref g2, V.ref g3, V.ref g4]) = G11 at *
        have s511 := s510.trans s11
        have hd11 := dice_sm s511 hd5
        have k1 : SqT K G11 g1 (([] : List Str).map V.str) := SqT.of ((s7.trans (s8.trans (s9.trans (s10.trans s11)))) _ _ e1)
        have k2 : SqT K G11 g2 ((["q"] : List Str).map V.str) := SqT.of ((s8.trans (s9.trans (s10.trans s11))) _ _ e2)
        have k3 : SqT K G11 g3 ((["a", "a", "b"] : List Str).map V.str) := SqT.of ((s9.trans (s10.trans s11)) _ _ e3)
        have k4 : SqT K G11 g4 (A20.map V.str) := sqT_same s11 h4
        refine ⟨d, .ref li, _, rfl, hd11, .inl ⟨li, rfl, nlid, .inl (.inl (.inl eli))⟩, by simp, by show 4 ≤ 100000; omega, fun v i0 b0 c0 mv => ?_⟩
        obtain ⟨q0, ev, hq0, dq0⟩ : ∃ q0 : Addr × List Str, v = .ref q0.1 ∧ SqT K G11 q0.1 (q0.2.map V.str) ∧ dgOkB q0.2 = true := by
          have ax := List.all_eq_true.mp xdigs
          simp only [List.mem_cons, List.not_mem_nil, or_false] at mv
          rcases mv with e | e | e | e
          · exact ⟨(g1, []), e, k1, ax _ (by simp)⟩
          · exact ⟨(g2, ["q"]), e, k2, ax _ (by simp)⟩
          · exact ⟨(g3, ["a", "a", "b"]), e, k3, ax _ (by simp)⟩
          · exact ⟨(g4, A20), e, k4, ax _ (by simp)⟩
        subst ev
        have hd12 : DiceAt (upd G11 d (.lst [V.int i0, V.int b0, V.int c0])) d := ⟨_, _, _, upd_same⟩
        have sx12 : SameX d G11 (upd G11 d (.lst [V.int i0, V.int b0, V.int c0])) := (SameX.refl d G11).atd
        generalize upd G11 d (.lst [V.int i0, V.int b0, V.int c0]) = G12 at *
        refine ⟨l1, fun b nb => ?_⟩
        have s13 := same_new (o := .lst [V.ref q0.1]) (Same.refl G12) nb
        have eb : (upd G12 b (.lst [V.ref q0.1])) b = some (.lst [V.ref q0.1]) := upd_same
        have hd13 := dice_sm s13 hd12
        generalize upd G12 b (.lst [V.ref q0.1]) = G13 at *
        have sx513 : SameX d G5 G13 := ((SameX.of s511).trans sx12).trans (SameX.of s13)
        refine ⟨l, b, _, _, rfl, rfl, sx513 _ _ nld el5, eb, by rw [List.length_map]; show L.length + 1 ≤ sizeLine; omega, fun cat ncat => ?_⟩
        have ecat : (L.map fun q => V.ref q.1) ++ [V.ref q0.1] = (L ++ [q0]).map fun q => V.ref q.1 := by rw [List.map_append]; rfl
        rw [ecat]
        have s14 := same_new (o := .lst ((L ++ [q0]).map fun q => V.ref q.1)) (Same.refl G13) ncat
        have e14 : (upd G13 cat (.lst ((L ++ [q0]).map fun q => V.ref q.1))) cat = some (.lst ((L ++ [q0]).map fun q => V.ref q.1)) := upd_same
        generalize upd G13 cat (.lst ((L ++ [q0]).map fun q => V.ref q.1)) = G14 at *
        have sx514 : SameX d G5 G14 := sx513.trans (SameX.of s14)
        have hd14 := dice_sm s14 hd13
        have hLx : TsAt K G14 (L ++ [q0]) := fun q m => by
          rcases List.mem_append.mp m with m | m
          · exact keepL hd5 sx514 hL5 q m
          · rw [List.mem_singleton.mp m]
            exact sqT_same (s13.trans s14) (sqT_sx hd11 sx12 hq0)
        have dgx : ∀ q ∈ L ++ [q0], dgOkB q.2 = true := fun q m => by
          rcases List.mem_append.mp m with m | m
          · exact dgs q m
          · rw [List.mem_singleton.mp m]
            exact dq0
        refine ⟨cat, L ++ [q0], rfl, .inl (.inl e14), by rw [List.length_append]; show L.length + 1 ≤ 5; omega, fun wl G15 ws s15 nwl ewl lws rws => ?_⟩
        have hd15 := dice_sm s15 hd14
        refine ⟨wl, rfl, ⟨_, .inl (.inl ewl)⟩, for_list (xs := ws) (fun j σ' G' => (∃ y8 : Option V, σ' = [some (.ref a), y1, some (.ref d), some (.ref l), some (.ref p), some (.ref x), some (.ref p'), some (.ref x'), y8, y9, none, none, none, none]) ∧ Same G15 G') ⟨⟨_, rfl⟩, Same.refl _⟩ (fun j σ' G' _ h => .inl (.inl (h.2 _ _ ewl))) (fun j v σ' G' hv h => ?_) (fun σ' G' h => ?_)⟩
        · obtain ⟨⟨y8, rfl⟩, s16⟩ := h
          obtain ⟨wd, LL, rfl, hw, hm, hl⟩ := rws v (List.mem_of_getElem? hv)
          have okw := rw_all dgx hm (by omega : LL.length ≤ 402)
          have sx516 : SameX d G5 G' := sx514.trans (SameX.of (s15.trans s16))
          have hT16 : TsAt K G' LL := fun q m => sqT_same (s15.trans s16) (hLx q (hm q m))
          refine ⟨_, rfl, _, rfl, _, rfl, p, el, rd, x, wd, first, ends, R, R1, LL, rfl, hP5.sx hd5 sx516, hok, hR5.sx hd5 sx516, p1, sqT_same s16 hw, hT16, okw, fun G17 s17 => ⟨_, rfl, ite2 (fun c => by cases c) (fun _ => ?_)⟩⟩
          have sx517 := sx516.trans (SameX.of s17)
          refine ⟨_, rfl, _, rfl, _, rfl, p', el', rd', x', wd, first', ends', R', R2, LL, rfl, hP5'.sx hd5 sx517, hok', hR5'.sx hd5 sx517, p2, sqT_same (s16.trans s17) hw, (fun q m => sqT_same s17 (hT16 q m)), okw, fun G18 s18 => ⟨_, rfl, ite2 (fun c => by cases c) (fun _ => ?_)⟩⟩
          exact ⟨⟨_, rfl⟩, s16.trans (s17.trans s18)⟩
        · obtain ⟨⟨y8, rfl⟩, s16⟩ := h
          exact ⟨⟨_, rfl⟩, sx514.trans (SameX.of (s15.trans s16)), dice_sm s16 hd15⟩
      rintro σ' G6 ⟨⟨y8, rfl⟩, sx6, hd6⟩
      -- long words
      refine ⟨fun σ' G' => (∃ y9 : Option V, σ' = [some (.ref a), y1, some (.ref d), some (.ref l), some (.ref p), some (.ref x), some (.ref p'), some (.ref x'), y8, y9, none, none, none, none]) ∧ SameX d G5 G' ∧ DiceAt G' d, ?_, ?_⟩
      · refine ⟨_, rfl, by decide, by decide, ?_⟩
        refine for_range (lo := 0) (fun j σ' G' => (∃ y9 : Option V, σ' = [some (.ref a), y1, some (.ref d), some (.ref l), some (.ref p), some (.ref x), some (.ref p'), some (.ref x'), y8, y9, none, none, none, none]) ∧ SameX d G5 G' ∧ DiceAt G' d) ⟨⟨_, rfl⟩, sx6, hd6⟩ (fun j σ' G7 hj h => ?_) (fun σ' G' h => h)
        obtain ⟨⟨y9, rfl⟩, sx7, hd7⟩ := h
        refine ⟨_, rfl, _, rfl, _, rfl, _, rfl, _, rfl, d, p, el, rd, l, first, ends, R, L, rfl, hd7, hP5.sx hd5 sx7, sx7 _ _ nld el5, keepL hd5 sx7 hL5, neL, by omega, (fun q m => (dgOk_of (dgs q m)).2), fun t LL G8 sx8 hd8 ht hm hl => ?_⟩
        have sx58 := sx7.trans sx8
        refine ⟨p, el, rd, x, t, first, ends, R, R1, LL, rfl, hP5.sx hd5 sx58, hok, hR5.sx hd5 sx58, p1, ht, (fun q m => keepL hd5 sx58 hL5 q (hm q m)), rw_all dgs hm hl, fun G9 s9 => ⟨_, rfl, ?_⟩⟩
        show (if (!true) = true then _ else _)
        rw [if_neg (by decide)]
        exact ⟨⟨_, rfl⟩, sx58.trans (SameX.of s9), dice_sm s9 hd8⟩
      rintro σ' G7 ⟨⟨y9, rfl⟩, sx7, hd7⟩
      -- no digits; the lines
      refine ⟨_, rfl, _, rfl, Nat.zero_le _, fun t nt => ?_⟩
      have s8 := same_new (o := .tup []) (Same.refl G7) nt
      have et : (upd G7 t (.tup [])) t = some (.tup []) := upd_same
      generalize upd G7 t (.tup []) = G8 at *
      have sx58 := sx7.trans (SameX.of s8)
      refine ⟨p, el, rd, x, t, first, ends, R, R1, [], rfl, hP5.sx hd5 sx58, hok, hR5.sx hd5 sx58, p1, SqT.of et, nofun, ⟨Nat.zero_le _, nofun, nofun⟩, fun G9 s9 => ⟨_, rfl, ite2 (fun c => by cases c) (fun _ => ?_)⟩⟩
      have sx59 := sx58.trans (SameX.of s9)
      have hR9 := hR5.sx hd5 sx59
      have hP9 := hP5.sx hd5 sx59
      have ok1 := hok.perm p1
      obtain ⟨dx, _, _, _, _, _, _, hx, _⟩ := id hR9
      have lr := ok1.lr
      have le := hok.le
      refine ⟨_, rfl, x, dx, _, rfl, hx, x, first, ends, R1, rfl, hR9, ok1.nd, by omega, by omega, hok.f8, hok.e8, ok1.r8, fun pl G10 npl s10 epl => ?_⟩
      refine ⟨_, rfl, p, el, rd, first, ends, R, rfl, hP9.same s10, hok, hok.names.2.2.2, so, fun R3 ll G11 p3 asc3 s11 nll ell => ?_⟩
      refine ⟨ll, _, rfl, .inl ⟨.inl (.inl ell), fun tp ntp => ?_⟩⟩
      have s12 := same_new (o := .tup ((linesR first ends R3).map V.str)) (Same.refl G11) ntp
      have etp : (upd G11 tp (.tup ((linesR first ends R3).map V.str))) tp = some (.tup ((linesR first ends R3).map V.str)) := upd_same
      generalize upd G11 tp (.tup ((linesR first ends R3).map V.str)) = G12 at *
      have e3 : R3 = R1 := asc_unique (p3.trans p1.symm) ok1.nd asc3 asc1
      subst e3
      have shl : SeqAt.shaped (.tuple (tD (linesR first ends R3))) = true := shaped_textsT fun z m => (ok1.sm_lines z m).1
      refine ⟨_, _, .tup (SqT.of ((s11.trans s12) _ _ epl)) (dp_texts _), .tup (SqT.of etp) (dp_texts _), shl, shl, _, rfl, ?_⟩
      rw [PyData.eqv, eqv_texts, decide_eq_true rfl]
      exact ite2 (fun c => by cases c) (fun _ => ⟨⟨_, _, _, _, _, _, _, _, _, rfl⟩, sqL_samex nd (sx05.trans (sx59.trans (SameX.of (s10.trans (s11.trans s12))))) hSG⟩)
    rintro σ' G0 ⟨y1, y2, y3, y4, y5, y6, y7, y8, y9, rfl⟩
    -- the first lines
    refine ⟨fun σ' G => ∃ D : Addr, σ' = [some (.ref a), y1, y2, y3, y4, y5, y6, y7, y8, y9, some (.ref D), none, none, none] ∧ RDict P w K G D R4, ?_, ?_⟩
    · refine fun D nD => ?_
      have sD := same_new (o := DN P w D []) (Same.refl G0) nD
      have eD : (upd G0 D (DN P w D [])) D = some (DN P w D []) := upd_same
      generalize upd G0 D (DN P w D []) = GD at *
      refine ⟨Nat.zero_le _, fun a1 na1 => ?_⟩
      have sa1 := same_new (o := .tup []) (Same.refl GD) na1
      have ea1 : (upd GD a1 (.tup [])) a1 = some (.tup []) := upd_same
      generalize upd GD a1 (.tup []) = Ga1 at *
      refine ⟨by show 2 ≤ sizeLine; omega, fun a2 na2 => ?_⟩
      have sa2 := same_new (o := .tup [V.str "s", V.ref a1]) (Same.refl Ga1) na2
      have ea2 : (upd Ga1 a2 (.tup [V.str "s", V.ref a1])) a2 = some (.tup [V.str "s", V.ref a1]) := upd_same
      generalize upd Ga1 a2 (.tup [V.str "s", V.ref a1]) = Ga2 at *
      refine ⟨by show 1 ≤ sizeLine; omega, fun a3 na3 => ?_⟩
      have sa3 := same_new (o := .tup [V.str "a"]) (Same.refl Ga2) na3
      have ea3 : (upd Ga2 a3 (.tup [V.str "a"])) a3 = some (.tup [V.str "a"]) := upd_same
      generalize upd Ga2 a3 (.tup [V.str "a"]) = Ga3 at *
      refine ⟨by show 2 ≤ sizeLine; omega, fun a4 na4 => ?_⟩
      have sa4 := same_new (o := .tup [V.str "s", V.ref a3]) (Same.refl Ga3) na4
      have ea4 : (upd Ga3 a4 (.tup [V.str "s", V.ref a3])) a4 = some (.tup [V.str "s", V.ref a3]) := upd_same
      generalize upd Ga3 a4 (.tup [V.str "s", V.ref a3]) = Ga4 at *
      refine ⟨Nat.zero_le _, fun a5 na5 => ?_⟩
      have sa5 := same_new (o := .tup []) (Same.refl Ga4) na5
      have ea5 : (upd Ga4 a5 (.tup [])) a5 = some (.tup []) := upd_same
      generalize upd Ga4 a5 (.tup []) = Ga5 at *
      refine ⟨by show 2 ≤ sizeLine; omega, fun a6 na6 => ?_⟩
      have sa6 := same_new (o := .tup [V.str "z", V.ref a5]) (Same.refl Ga5) na6
      have ea6 : (upd Ga5 a6 (.tup [V.str "z", V.ref a5])) a6 = some (.tup [V.str "z", V.ref a5]) := upd_same
      generalize upd Ga5 a6 (.tup [V.str "z", V.ref a5]) = Ga6 at *
      refine ⟨by show 1 ≤ sizeLine; omega, fun a7 na7 => ?_⟩
      have sa7 := same_new (o := .tup [V.str "a"]) (Same.refl Ga6) na7
      have ea7 : (upd Ga6 a7 (.tup [V.str "a"])) a7 = some (.tup [V.str "a"]) := upd_same
      generalize upd Ga6 a7 (.tup [V.str "a"]) = Ga7 at *
      refine ⟨by show 2 ≤ sizeLine; omega, fun a8 na8 => ?_⟩
      have sa8 := same_new (o := .tup [V.str "z", V.ref a7]) (Same.refl Ga7) na8
      have ea8 : (upd Ga7 a8 (.tup [V.str "z", V.ref a7])) a8 = some (.tup [V.str "z", V.ref a7]) := upd_same
      generalize upd Ga7 a8 (.tup [V.str "z", V.ref a7]) = Ga8 at *
      have h0 : KeyA K Ga8 a2 (keyK ("s", [])) := keyK_at.mpr ⟨a1, SqT.of ((sa3.trans (sa4.trans (sa5.trans (sa6.trans (sa7.trans sa8))))) _ _ ea2), SqT.of ((sa2.trans (sa3.trans (sa4.trans (sa5.trans (sa6.trans (sa7.trans sa8)))))) _ _ ea1)⟩
      have h1 : KeyA K Ga8 a4 (keyK ("s", ["a"])) := keyK_at.mpr ⟨a3, SqT.of ((sa5.trans (sa6.trans (sa7.trans sa8))) _ _ ea4), SqT.of ((sa4.trans (sa5.trans (sa6.trans (sa7.trans sa8)))) _ _ ea3)⟩
      have h2 : KeyA K Ga8 a6 (keyK ("z", [])) := keyK_at.mpr ⟨a5, SqT.of ((sa7.trans sa8) _ _ ea6), SqT.of ((sa6.trans (sa7.trans sa8)) _ _ ea5)⟩
      have h3 : KeyA K Ga8 a8 (keyK ("z", ["a"])) := keyK_at.mpr ⟨a7, SqT.of ((Same.refl Ga8) _ _ ea8), SqT.of (sa8 _ _ ea7)⟩
      have hk : ∀ x ∈ ([(("s", []), a2, V.str "z"), (("s", ["a"]), a4, V.str "o"), (("z", []), a6, V.str "z"), (("z", ["a"]), a8, V.str "o")] : ML), KeyA K Ga8 x.2.1 (keyK x.1) := fun x m => by
        simp only [List.mem_cons, List.not_mem_nil, or_false] at m
        rcases m with rfl | rfl | rfl | rfl
        · exact h0
        · exact h1
        · exact h2
        · exact h3
      have eD4 := (sa1.trans (sa2.trans (sa3.trans (sa4.trans (sa5.trans (sa6.trans (sa7.trans sa8))))))) _ _ eD
      have ndN : ((([] : NL) ++ toN ([(("s", []), a2, V.str "z"), (("s", ["a"]), a4, V.str "o"), (("z", []), a6, V.str "z"), (("z", ["a"]), a8, V.str "o")] : ML)).map (·.1)).Nodup := toN_nd (by show (R4.map (·.1)).Nodup; decide +kernel)
      refine ⟨eD4, toN ([(("s", []), a2, V.str "z"), (("s", ["a"]), a4, V.str "o"), (("z", []), a6, V.str "z"), (("z", ["a"]), a8, V.str "o")] : ML), rfl, kN hk, by show 4 ≤ 15; omega, ?_⟩
      rw [foldN_nodup _ _ ndN, List.nil_append]
      exact ⟨D, rfl, [(("s", []), a2, V.str "z"), (("s", ["a"]), a4, V.str "o"), (("z", []), a6, V.str "z"), (("z", ["a"]), a8, V.str "o")], upd_same, fun x m => (hk x m).mono fun _ _ z => sqT_upd (no_dn eD4) z, rfl⟩
    rintro σ' G1 ⟨D, rfl, L, hD1, hk1, eL1⟩
    -- all lines
    refine ⟨fun σ' G => ∃ D2 : Addr, σ' = [some (.ref a), y1, y2, y3, y4, y5, y6, y7, y8, y9, some (.ref D2), none, none, none] ∧ RDict P w K G D2 R6, ?_, ?_⟩
    · refine ⟨_, rfl, D, toN L, rfl, hD1, fun G2 il ts s2' nil eil hts => ?_⟩
      have s2 : Same G1 G2 := s2'
      have lts : ts.length = 4 := by
        have := Paired.length hts
        rw [List.length_zip, List.length_map, List.length_map, toN_len, prM_len eL1] at this
        exact this
      refine ⟨Nat.zero_le _, fun b1 nb1 => ?_⟩
      have sb1 := same_new (o := .tup []) (Same.refl G2) nb1
      have eb1 : (upd G2 b1 (.tup [])) b1 = some (.tup []) := upd_same
      generalize upd G2 b1 (.tup []) = Gb1 at *
      refine ⟨by show 2 ≤ sizeLine; omega, fun b2 nb2 => ?_⟩
      have sb2 := same_new (o := .tup [V.str "o", V.ref b1]) (Same.refl Gb1) nb2
      have eb2 : (upd Gb1 b2 (.tup [V.str "o", V.ref b1])) b2 = some (.tup [V.str "o", V.ref b1]) := upd_same
      generalize upd Gb1 b2 (.tup [V.str "o", V.ref b1]) = Gb2 at *
      refine ⟨by show 2 ≤ sizeLine; omega, fun b3 nb3 => ?_⟩
      have sb3 := same_new (o := .tup [V.ref b2, V.str "z"]) (Same.refl Gb2) nb3
      have eb3 : (upd Gb2 b3 (.tup [V.ref b2, V.str "z"])) b3 = some (.tup [V.ref b2, V.str "z"]) := upd_same
      generalize upd Gb2 b3 (.tup [V.ref b2, V.str "z"]) = Gb3 at *
      refine ⟨by show 1 ≤ sizeLine; omega, fun b4 nb4 => ?_⟩
      have sb4 := same_new (o := .tup [V.str "a"]) (Same.refl Gb3) nb4
      have eb4 : (upd Gb3 b4 (.tup [V.str "a"])) b4 = some (.tup [V.str "a"]) := upd_same
      generalize upd Gb3 b4 (.tup [V.str "a"]) = Gb4 at *
      refine ⟨by show 2 ≤ sizeLine; omega, fun b5 nb5 => ?_⟩
      have sb5 := same_new (o := .tup [V.str "o", V.ref b4]) (Same.refl Gb4) nb5
      have eb5 : (upd Gb4 b5 (.tup [V.str "o", V.ref b4])) b5 = some (.tup [V.str "o", V.ref b4]) := upd_same
      generalize upd Gb4 b5 (.tup [V.str "o", V.ref b4]) = Gb5 at *
      refine ⟨by show 2 ≤ sizeLine; omega, fun b6 nb6 => ?_⟩
      have sb6 := same_new (o := .tup [V.ref b5, V.str "o"]) (Same.refl Gb5) nb6
      have eb6 : (upd Gb5 b6 (.tup [V.ref b5, V.str "o"])) b6 = some (.tup [V.ref b5, V.str "o"]) := upd_same
      generalize upd Gb5 b6 (.tup [V.ref b5, V.str "o"]) = Gb6 at *
      refine ⟨by show 2 ≤ sizeLine; omega, fun b7 nb7 => ?_⟩
      have sb7 := same_new (o := .lst [V.ref b3, V.ref b6]) (Same.refl Gb6) nb7
      have eb7 : (upd Gb6 b7 (.lst [V.ref b3, V.ref b6])) b7 = some (.lst [V.ref b3, V.ref b6]) := upd_same
      generalize upd Gb6 b7 (.lst [V.ref b3, V.ref b6]) = Gb7 at *
      refine ⟨il, b7, ts.map V.ref, [V.ref b3, V.ref b6], rfl, rfl, (sb1.trans (sb2.trans (sb3.trans (sb4.trans (sb5.trans (sb6.trans sb7)))))) _ _ eil, eb7, by rw [List.length_map, lts]; show 6 ≤ sizeLine; omega, fun cat ncat => ?_⟩
      have sc := same_new (o := .lst (ts.map V.ref ++ [V.ref b3, V.ref b6])) (Same.refl Gb7) ncat
      have ec : (upd Gb7 cat (.lst (ts.map V.ref ++ [V.ref b3, V.ref b6]))) cat = some (.lst ((ts ++ [b3, b6]).map V.ref)) := by rw [upd_same, List.map_append]; rfl
      generalize upd Gb7 cat (.lst (ts.map V.ref ++ [V.ref b3, V.ref b6])) = GC at *
      have s2C := (sb1.trans (sb2.trans (sb3.trans (sb4.trans (sb5.trans (sb6.trans sb7)))))).trans sc
      have h0 : KeyA K GC b2 (keyK ("o", [])) := keyA_same sc (keyK_at.mpr ⟨b1, SqT.of ((sb3.trans (sb4.trans (sb5.trans (sb6.trans sb7)))) _ _ eb2), SqT.of ((sb2.trans (sb3.trans (sb4.trans (sb5.trans (sb6.trans sb7))))) _ _ eb1)⟩)
      have h1 : KeyA K GC b5 (keyK ("o", ["a"])) := keyA_same sc (keyK_at.mpr ⟨b4, SqT.of ((sb6.trans sb7) _ _ eb5), SqT.of ((sb5.trans (sb6.trans sb7)) _ _ eb4)⟩)
      have hk2 : ∀ x ∈ L ++ ([(("o", []), b2, V.str "z"), (("o", ["a"]), b5, V.str "o")] : ML), KeyA K GC x.2.1 (keyK x.1) := fun x m => by
        rcases List.mem_append.mp m with m | m
        · exact keyA_same (s2.trans s2C) (hk1 x m)
        · simp only [List.mem_cons, List.not_mem_nil, or_false] at m
          rcases m with rfl | rfl
          · exact h0
          · exact h1
      generalize eL2 : L ++ ([(("o", []), b2, V.str "z"), (("o", ["a"]), b5, V.str "o")] : ML) = L2 at hk2
      have eP : prM L2 = R6.map fun r => (r.1, V.str r.2) := by
        rw [← eL2]
        unfold prM at eL1 ⊢
        rw [List.map_append, eL1]
        rfl
      have hpr : Paired (fun p (e : NestedKey × Addr × V) => SqT K GC p [V.ref e.2.1, e.2.2]) (ts ++ [b3, b6]) (toN L2) := by
        have e2 : toN L2 = toN L ++ [(keyK ("o", []), b2, V.str "z"), (keyK ("o", ["a"]), b5, V.str "o")] := by
          rw [← eL2]
          unfold toN
          rw [List.map_append]
          rfl
        rw [e2]
        exact paired_app (paired_imp (zipN hts) fun _ _ z => sqT_same s2C (SqT.of z)) (.cons (SqT.of (((sb4.trans (sb5.trans (sb6.trans sb7))).trans sc) _ _ eb3)) (.cons (SqT.of ((sb7.trans sc) _ _ eb6)) .nil))
      refine ⟨cat, ts ++ [b3, b6], toN L2, rfl, .inl (.inl ec), hpr, kN hk2, fun D2 nD2 => ?_⟩
      have sE := same_new (o := DN P w D2 (toN L2)) (Same.refl GC) nD2
      rw [foldN_nodup _ _ (toN_nd (by
          have e3 := ml_keys eP
          rw [e3]
          show (R6.map (·.1)).Nodup
          decide +kernel)), List.nil_append]
      exact ⟨D2, rfl, L2, upd_same, fun x m => keyA_same sE (hk2 x m), eP⟩
    rintro σ' G2 ⟨D2, rfl, hD2⟩
    -- the reader
    refine ⟨fun σ' G => ∃ (x : Addr) (R1 : Rds), σ' = [some (.ref a), y1, y2, y3, y4, some (.ref x), y6, y7, y8, y9, some (.ref D2), none, none, none] ∧ R1.Perm R6 ∧ RdrAt P w K C G x "s" ["o"] R1, ?_, ?_⟩
    · refine ⟨by show 1 ≤ sizeLine; omega, fun c1 nc1 => ?_⟩
      have sc1 := same_new (o := .tup [V.str "o"]) (Same.refl G2) nc1
      have ec1 : (upd G2 c1 (.tup [V.str "o"])) c1 = some (.tup [V.str "o"]) := upd_same
      generalize upd G2 c1 (.tup [V.str "o"]) = Gc1 at *
      refine ⟨_, rfl, fun x1 dx1 nx1 ndx1 hnex1 => ?_⟩
      have tx1 : Same Gc1 (upd (upd Gc1 dx1 (.own x1)) x1 (.ins C dx1 [])) := same_new (same_new (Same.refl _) ndx1) (by rw [upd_ne (Ne.symm hnex1)]; exact nx1)
      have hxx1 : (upd (upd Gc1 dx1 (.own x1)) x1 (.ins C dx1 [])) x1 = some (.ins C dx1 []) := upd_same
      generalize upd (upd Gc1 dx1 (.own x1)) x1 (.ins C dx1 []) = Hx1 at *
      exact ⟨x1, dx1, c1, D2, "s", ["o"], R6, rfl, hxx1, by decide, sqT_same tx1 (show SqT K Gc1 c1 ((["o"] : List Str).map V.str) from SqT.of ec1), fun z m => Nat.le_trans (r6_ok.e8 z m) (by decide), (hD2.same sc1).same tx1, r6_ok.nd, by decide, by decide, r6_ok.shrt, r6_ok.ok, fun Rx1 Kx1 px1 ascx1 hRx1 sxx1 _ => ⟨rfl, x1, Rx1, rfl, px1, hRx1⟩⟩
    rintro σ' G3 ⟨x, R1, rfl, p1, hR⟩
    -- the rows
    refine ⟨fun σ' G => ∃ (rl : Addr) (W : List (Addr × List (Addr × List Str))), σ' = [some (.ref a), y1, y2, y3, y4, some (.ref x), y6, y7, y8, y9, some (.ref D2), some (.ref rl), none, none] ∧ G rl = some (.lst (W.map fun q => V.ref q.1)) ∧ (∀ q ∈ W, SqT K G q.1 (q.2.map fun z => V.ref z.1) ∧ TsAt K G q.2) ∧ W.map (fun q => q.2.map (·.2)) = ROWS ∧ Same G3 G, ?_, ?_⟩
    · skip
      refine ⟨Nat.zero_le _, fun r1 nr1 => ?_⟩
      have sr1 := same_new (o := .tup []) (Same.refl G3) nr1
      have er1 : (upd G3 r1 (.tup [])) r1 = some (.tup []) := upd_same
      generalize upd G3 r1 (.tup []) = Gr1 at *
      refine ⟨by show 1 ≤ sizeLine; omega, fun d1 nd1 => ?_⟩
      have sd1 := same_new (o := .tup [V.str "a"]) (Same.refl Gr1) nd1
      have ed1 : (upd Gr1 d1 (.tup [V.str "a"])) d1 = some (.tup [V.str "a"]) := upd_same
      generalize upd Gr1 d1 (.tup [V.str "a"]) = Gd1 at *
      refine ⟨by show 1 ≤ sizeLine; omega, fun r2 nr2 => ?_⟩
      have sr2 := same_new (o := .tup [V.ref d1]) (Same.refl Gd1) nr2
      have er2 : (upd Gd1 r2 (.tup [V.ref d1])) r2 = some (.tup [V.ref d1]) := upd_same
      generalize upd Gd1 r2 (.tup [V.ref d1]) = Gr2 at *
      refine ⟨Nat.zero_le _, fun d2 nd2 => ?_⟩
      have sd2 := same_new (o := .tup []) (Same.refl Gr2) nd2
      have ed2 : (upd Gr2 d2 (.tup [])) d2 = some (.tup []) := upd_same
      generalize upd Gr2 d2 (.tup []) = Gd2 at *
      refine ⟨by show 1 ≤ sizeLine; omega, fun d3 nd3 => ?_⟩
      have sd3 := same_new (o := .tup [V.str "a"]) (Same.refl Gd2) nd3
      have ed3 : (upd Gd2 d3 (.tup [V.str "a"])) d3 = some (.tup [V.str "a"]) := upd_same
      generalize upd Gd2 d3 (.tup [V.str "a"]) = Gd3 at *
      refine ⟨by show 2 ≤ sizeLine; omega, fun r3 nr3 => ?_⟩
      have sr3 := same_new (o := .tup [V.ref d2, V.ref d3]) (Same.refl Gd3) nr3
      have er3 : (upd Gd3 r3 (.tup [V.ref d2, V.ref d3])) r3 = some (.tup [V.ref d2, V.ref d3]) := upd_same
      generalize upd Gd3 r3 (.tup [V.ref d2, V.ref d3]) = Gr3 at *
      refine ⟨by show 1 ≤ sizeLine; omega, fun d4 nd4 => ?_⟩
      have sd4 := same_new (o := .tup [V.str "a"]) (Same.refl Gr3) nd4
      have ed4 : (upd Gr3 d4 (.tup [V.str "a"])) d4 = some (.tup [V.str "a"]) := upd_same
      generalize upd Gr3 d4 (.tup [V.str "a"]) = Gd4 at *
      refine ⟨Nat.zero_le _, fun d5 nd5 => ?_⟩
      have sd5 := same_new (o := .tup []) (Same.refl Gd4) nd5
      have ed5 : (upd Gd4 d5 (.tup [])) d5 = some (.tup []) := upd_same
      generalize upd Gd4 d5 (.tup []) = Gd5 at *
      refine ⟨by show 2 ≤ sizeLine; omega, fun r4 nr4 => ?_⟩
      have sr4 := same_new (o := .tup [V.ref d4, V.ref d5]) (Same.refl Gd5) nr4
      have er4 : (upd Gd5 r4 (.tup [V.ref d4, V.ref d5])) r4 = some (.tup [V.ref d4, V.ref d5]) := upd_same
      generalize upd Gd5 r4 (.tup [V.ref d4, V.ref d5]) = Gr4 at *
      refine ⟨by show 2 ≤ sizeLine; omega, fun d6 nd6 => ?_⟩
      have sd6 := same_new (o := .tup [V.str "a", V.str "a"]) (Same.refl Gr4) nd6
      have ed6 : (upd Gr4 d6 (.tup [V.str "a", V.str "a"])) d6 = some (.tup [V.str "a", V.str "a"]) := upd_same
      generalize upd Gr4 d6 (.tup [V.str "a", V.str "a"]) = Gd6 at *
      refine ⟨by show 1 ≤ sizeLine; omega, fun r5 nr5 => ?_⟩
      have sr5 := same_new (o := .tup [V.ref d6]) (Same.refl Gd6) nr5
      have er5 : (upd Gd6 r5 (.tup [V.ref d6])) r5 = some (.tup [V.ref d6]) := upd_same
      generalize upd Gd6 r5 (.tup [V.ref d6]) = Gr5 at *
      refine ⟨Nat.zero_le _, fun d7 nd7 => ?_⟩
      have sd7 := same_new (o := .tup []) (Same.refl Gr5) nd7
      have ed7 : (upd Gr5 d7 (.tup [])) d7 = some (.tup []) := upd_same
      generalize upd Gr5 d7 (.tup []) = Gd7 at *
      refine ⟨Nat.zero_le _, fun d8 nd8 => ?_⟩
      have sd8 := same_new (o := .tup []) (Same.refl Gd7) nd8
      have ed8 : (upd Gd7 d8 (.tup [])) d8 = some (.tup []) := upd_same
      generalize upd Gd7 d8 (.tup []) = Gd8 at *
      refine ⟨Nat.zero_le _, fun d9 nd9 => ?_⟩
      have sd9 := same_new (o := .tup []) (Same.refl Gd8) nd9
      have ed9 : (upd Gd8 d9 (.tup [])) d9 = some (.tup []) := upd_same
      generalize upd Gd8 d9 (.tup []) = Gd9 at *
      refine ⟨by show 3 ≤ sizeLine; omega, fun r6 nr6 => ?_⟩
      have sr6 := same_new (o := .tup [V.ref d7, V.ref d8, V.ref d9]) (Same.refl Gd9) nr6
      have er6 : (upd Gd9 r6 (.tup [V.ref d7, V.ref d8, V.ref d9])) r6 = some (.tup [V.ref d7, V.ref d8, V.ref d9]) := upd_same
      generalize upd Gd9 r6 (.tup [V.ref d7, V.ref d8, V.ref d9]) = Gr6 at *
      refine ⟨by show 6 ≤ sizeLine; omega, fun rl nrl => ?_⟩
      have srl := same_new (o := .lst [V.ref r1, V.ref r2, V.ref r3, V.ref r4, V.ref r5, V.ref r6]) (Same.refl Gr6) nrl
      have erl : (upd Gr6 rl (.lst [V.ref r1, V.ref r2, V.ref r3, V.ref r4, V.ref r5, V.ref r6])) rl = some (.lst [V.ref r1, V.ref r2, V.ref r3, V.ref r4, V.ref r5, V.ref r6]) := upd_same
      generalize upd Gr6 rl (.lst [V.ref r1, V.ref r2, V.ref r3, V.ref r4, V.ref r5, V.ref r6]) = Grl at *
      refine ⟨rl, [(r1, []), (r2, [(d1, ["a"])]), (r3, [(d2, []), (d3, ["a"])]), (r4, [(d4, ["a"]), (d5, [])]), (r5, [(d6, ["a", "a"])]), (r6, [(d7, []), (d8, []), (d9, [])])], rfl, erl, fun q m => ?_, rfl, (sr1.trans (sd1.trans (sr2.trans (sd2.trans (sd3.trans (sr3.trans (sd4.trans (sd5.trans (sr4.trans (sd6.trans (sr5.trans (sd7.trans (sd8.trans (sd9.trans (sr6.trans srl)))))))))))))))⟩
      simp only [List.mem_cons, List.not_mem_nil, or_false] at m
      rcases m with rfl | rfl | rfl | rfl | rfl | rfl
      · refine ⟨SqT.of ((sd1.trans (sr2.trans (sd2.trans (sd3.trans (sr3.trans (sd4.trans (sd5.trans (sr4.trans (sd6.trans (sr5.trans (sd7.trans (sd8.trans (sd9.trans (sr6.trans srl)))))))))))))) _ _ er1), fun z mz => ?_⟩
        cases mz
      · refine ⟨SqT.of ((sd2.trans (sd3.trans (sr3.trans (sd4.trans (sd5.trans (sr4.trans (sd6.trans (sr5.trans (sd7.trans (sd8.trans (sd9.trans (sr6.trans srl)))))))))))) _ _ er2), fun z mz => ?_⟩
        simp only [List.mem_cons, List.not_mem_nil, or_false] at mz
        rcases mz with rfl
        · exact SqT.of ((sr2.trans (sd2.trans (sd3.trans (sr3.trans (sd4.trans (sd5.trans (sr4.trans (sd6.trans (sr5.trans (sd7.trans (sd8.trans (sd9.trans (sr6.trans srl))))))))))))) _ _ ed1)
      · refine ⟨SqT.of ((sd4.trans (sd5.trans (sr4.trans (sd6.trans (sr5.trans (sd7.trans (sd8.trans (sd9.trans (sr6.trans srl))))))))) _ _ er3), fun z mz => ?_⟩
        simp only [List.mem_cons, List.not_mem_nil, or_false] at mz
        rcases mz with rfl | rfl
        · exact SqT.of ((sd3.trans (sr3.trans (sd4.trans (sd5.trans (sr4.trans (sd6.trans (sr5.trans (sd7.trans (sd8.trans (sd9.trans (sr6.trans srl))))))))))) _ _ ed2)
        · exact SqT.of ((sr3.trans (sd4.trans (sd5.trans (sr4.trans (sd6.trans (sr5.trans (sd7.trans (sd8.trans (sd9.trans (sr6.trans srl)))))))))) _ _ ed3)
      · refine ⟨SqT.of ((sd6.trans (sr5.trans (sd7.trans (sd8.trans (sd9.trans (sr6.trans srl)))))) _ _ er4), fun z mz => ?_⟩
        simp only [List.mem_cons, List.not_mem_nil, or_false] at mz
        rcases mz with rfl | rfl
        · exact SqT.of ((sd5.trans (sr4.trans (sd6.trans (sr5.trans (sd7.trans (sd8.trans (sd9.trans (sr6.trans srl)))))))) _ _ ed4)
        · exact SqT.of ((sr4.trans (sd6.trans (sr5.trans (sd7.trans (sd8.trans (sd9.trans (sr6.trans srl))))))) _ _ ed5)
      · refine ⟨SqT.of ((sd7.trans (sd8.trans (sd9.trans (sr6.trans srl)))) _ _ er5), fun z mz => ?_⟩
        simp only [List.mem_cons, List.not_mem_nil, or_false] at mz
        rcases mz with rfl
        · exact SqT.of ((sr5.trans (sd7.trans (sd8.trans (sd9.trans (sr6.trans srl))))) _ _ ed6)
      · refine ⟨SqT.of (srl _ _ er6), fun z mz => ?_⟩
        simp only [List.mem_cons, List.not_mem_nil, or_false] at mz
        rcases mz with rfl | rfl | rfl
        · exact SqT.of ((sd8.trans (sd9.trans (sr6.trans srl))) _ _ ed7)
        · exact SqT.of ((sd9.trans (sr6.trans srl)) _ _ ed8)
        · exact SqT.of ((sr6.trans srl) _ _ ed9)
    rintro σ' G4 ⟨rl, W, rfl, erl, hW, eW, s34⟩
    have hR4 := hR.same s34
    obtain ⟨dx, _, _, _, _, _, _, hx4, _⟩ := id hR4
    have okW : ∀ q ∈ W, RwOk q.2 := fun q m => rw_of (List.all_eq_true.mp rows_ok _ (by rw [← eW]; exact List.mem_map.mpr ⟨q, m, rfl⟩))
    have lW : W.length = 6 := by
      have := congrArg List.length eW
      rw [List.length_map] at this
      exact this
    have nd6 := r6_ok.nd
    -- what it tells
    refine ⟨fun σ' G => ∃ tl : Addr, σ' = [some (.ref a), y1, y2, y3, y4, some (.ref x), y6, y7, y8, y9, some (.ref D2), some (.ref rl), some (.ref tl), none] ∧ G tl = some (.lst TOLD19), ?_, ?_⟩
    · refine ⟨_, rfl, _, rfl, ⟨_, .inl (.inl erl)⟩, fun D hD => ?_⟩
      refine lc_list (xs := W.map fun q => V.ref q.1) (fun k G => G D = some (.lst ((W.take k).map fun q => V.str (runR R6 "s" (q.2.map (·.2))))) ∧ Same G4 G) ⟨upd_same, same_new (Same.refl G4) hD⟩ (fun k G _ h => .inl (.inl (h.2 _ _ erl))) (fun k v G hk h => ?_) (fun G h => ?_)
      · obtain ⟨eD, s⟩ := h
        rw [List.getElem?_map] at hk
        obtain ⟨q0, hq0, rfl⟩ := Option.map_eq_some_iff.mp hk
        have m0 := List.mem_of_getElem? hq0
        have hk6 := (List.getElem?_eq_some_iff.mp hq0).1
        refine ⟨rfl, _, rfl, x, dx, _, rfl, s _ _ hx4, rf_behind _ _ _ _ _, _, rfl, x, q0.1, "s", ["o"], R1, q0.2, rfl, hR4.same s, sqT_same s (hW q0 m0).1, (fun z m => sqT_same s ((hW q0 m0).2 z m)), (okW q0 m0).l4, (okW q0 m0).dg, fun G' s' => ⟨_, s' _ _ eD, ?_, ?_, fun b u e => ?_⟩⟩
        · rw [List.length_map, List.length_take]
          omega
        · rw [upd_same, List.take_add_one, hq0, List.map_append, run_perm p1 nd6]
          rfl
        · rw [upd_ne (ne_of_none e hD)]
          exact s' _ _ (s b u e)
      obtain ⟨eD, s⟩ := h
      rw [List.length_map, List.take_length] at eD
      refine ⟨_, rfl, _, rfl, ⟨_, .inl (.inl (s _ _ erl))⟩, fun D3 hD3 => ?_⟩
      refine lc_list (xs := W.map fun q => V.ref q.1) (fun k G' => G' D3 = some (.lst ((W.take k).map fun q => V.bl (decide (q.2.map (·.2) = []) || decide (runR R6 "s" (q.2.map (·.2)) ∈ (["o"] : List Str))))) ∧ Same G G') ⟨upd_same, same_new (Same.refl G) hD3⟩ (fun k G' _ h => .inl (.inl (h.2 _ _ (s _ _ erl)))) (fun k v G' hk h => ?_) (fun G' h => ?_)
      · obtain ⟨eD3, s3⟩ := h
        rw [List.getElem?_map] at hk
        obtain ⟨q0, hq0, rfl⟩ := Option.map_eq_some_iff.mp hk
        have m0 := List.mem_of_getElem? hq0
        have hk6 := (List.getElem?_eq_some_iff.mp hq0).1
        have s43 := s.trans s3
        refine ⟨rfl, _, rfl, x, dx, _, rfl, s43 _ _ hx4, rf_takes _ _ _ _ _, _, rfl, x, q0.1, "s", ["o"], R1, q0.2, rfl, hR4.same s43, sqT_same s43 (hW q0 m0).1, (fun z m => sqT_same s43 ((hW q0 m0).2 z m)), okW q0 m0, fun G'' s' => ⟨_, s' _ _ eD3, ?_, ?_, fun b u e => ?_⟩⟩
        · rw [List.length_map, List.length_take]
          omega
        · rw [upd_same, List.take_add_one, hq0, List.map_append, run_perm p1 nd6]
          rfl
        · rw [upd_ne (ne_of_none e hD3)]
          exact s' _ _ (s3 b u e)
      obtain ⟨eD3, s3⟩ := h
      rw [List.length_map, List.take_length] at eD3
      refine ⟨D, D3, _, _, rfl, rfl, s3 _ _ eD, eD3, by rw [List.length_map, List.length_map]; omega, fun tl ntl => ⟨tl, rfl, ?_⟩⟩
      rw [upd_same]
      have e1 : (W.map fun q => V.str (runR R6 "s" (q.2.map (·.2)))) = ROWS.map fun r => V.str (runR R6 "s" r) := by rw [← eW, List.map_map]; rfl
      have e2 : (W.map fun q => V.bl (decide (q.2.map (·.2) = []) || decide (runR R6 "s" (q.2.map (·.2)) ∈ (["o"] : List Str)))) = ROWS.map fun r => V.bl (decide (r = []) || decide (runR R6 "s" r ∈ (["o"] : List Str))) := by rw [← eW, List.map_map]; rfl
      rw [e1, e2, beh_eq]
    rintro σ' G5 ⟨tl, rfl, etl⟩
    refine ⟨_, rfl, by show 12 ≤ sizeLine; omega, fun u nu => ?_⟩
    refine ⟨.list TOLD19D, .list TOLD19D, .lst (.inl (.inl (same_new (Same.refl _) nu _ _ etl))) told19_dp, .lst (.inl (.inl upd_same)) told19_dp, told19_sh, told19_sh, ?_⟩
    rw [told19_eq]
    exact q _
end
end Kl
set_option maxRecDepth 100000
set_option maxHeartbeats 4000000
namespace Kl
open PySem PySem.Spec PyProof.Rows L2 Gx
theorem all_mk {l : PySem.W.OpenLaw} {w : World} {K : PySem.W.Frag} {h : Heap} {mg : Str → Option Value} {fa : Addr} (X : K.In h) (G : h.Ns mainGlobals mg) (hfa : mg "law" = some (.ref fa))
    {Cy0 : Addr} {nmy0 qny0 : Str} {Ny0 : Addr} {bsy0 bmy0 : List Value} {hdy0 : Bool} {sny0 : List Str} {suby0 : List Value} {aby0 : Bool} {coly0 : Option Bool} {ddy0 : Option Addr} {k0y0 k1y0 k2y0 k3y0 k5y0 : Option Value}
    {f0 : Addr} {od0 an0 : Option Addr} {sl0 : Array (Option Value)} {oc0 kV0 dc0 pm0 cd0 ct0 : Value}
    {f1 : Addr} {od1 an1 : Option Addr} {sl1 : Array (Option Value)} {oc1 kV1 dc1 pm1 cd1 ct1 : Value}
    {f2 : Addr} {od2 an2 : Option Addr} {sl2 : Array (Option Value)} {oc2 kV2 dc2 pm2 cd2 ct2 : Value}
    {f3 : Addr} {od3 an3 : Option Addr} {sl3 : Array (Option Value)} {oc3 kV3 dc3 pm3 cd3 ct3 : Value}
    {f4 : Addr} {od4 an4 : Option Addr} {sl4 : Array (Option Value)} {oc4 kV4 dc4 pm4 cd4 ct4 : Value}
    {f5 : Addr} {od5 an5 : Option Addr} {sl5 : Array (Option Value)} {oc5 kV5 dc5 pm5 cd5 ct5 : Value}
    {f6 : Addr} {od6 an6 : Option Addr} {sl6 : Array (Option Value)} {oc6 kV6 dc6 pm6 cd6 ct6 : Value}
    {f7 : Addr} {od7 an7 : Option Addr} {sl7 : Array (Option Value)} {oc7 kV7 dc7 pm7 cd7 ct7 : Value}
    {f8 : Addr} {od8 an8 : Option Addr} {sl8 : Array (Option Value)} {oc8 kV8 dc8 pm8 cd8 ct8 : Value}
    {f9 : Addr} {od9 an9 : Option Addr} {sl9 : Array (Option Value)} {oc9 kV9 dc9 pm9 cd9 ct9 : Value}
    {f10 : Addr} {od10 an10 : Option Addr} {sl10 : Array (Option Value)} {oc10 kV10 dc10 pm10 cd10 ct10 : Value}
    {f11 : Addr} {od11 an11 : Option Addr} {sl11 : Array (Option Value)} {oc11 kV11 dc11 pm11 cd11 ct11 : Value}
    {f12 : Addr} {od12 an12 : Option Addr} {sl12 : Array (Option Value)} {oc12 kV12 dc12 pm12 cd12 ct12 : Value}
    {f13 : Addr} {od13 an13 : Option Addr} {sl13 : Array (Option Value)} {oc13 kV13 dc13 pm13 cd13 ct13 : Value}
    {f14 : Addr} {od14 an14 : Option Addr} {sl14 : Array (Option Value)} {oc14 kV14 dc14 pm14 cd14 ct14 : Value}
    {f15 : Addr} {od15 an15 : Option Addr} {sl15 : Array (Option Value)} {oc15 kV15 dc15 pm15 cd15 ct15 : Value}
    {f16 : Addr} {od16 an16 : Option Addr} {sl16 : Array (Option Value)} {oc16 kV16 dc16 pm16 cd16 ct16 : Value}
    {f17 : Addr} {od17 an17 : Option Addr} {sl17 : Array (Option Value)} {oc17 kV17 dc17 pm17 cd17 ct17 : Value}
    {f18 : Addr} {od18 an18 : Option Addr} {sl18 : Array (Option Value)} {oc18 kV18 dc18 pm18 cd18 ct18 : Value}
    {f19 : Addr} {od19 an19 : Option Addr} {sl19 : Array (Option Value)} {oc19 kV19 dc19 pm19 cd19 ct19 : Value}
    {f20 : Addr} {od20 an20 : Option Addr} {sl20 : Array (Option Value)} {oc20 kV20 dc20 pm20 cd20 ct20 : Value}
    {f21 : Addr} {od21 an21 : Option Addr} {sl21 : Array (Option Value)} {oc21 kV21 dc21 pm21 cd21 ct21 : Value}
    {f22 : Addr} {od22 an22 : Option Addr} {sl22 : Array (Option Value)} {oc22 kV22 dc22 pm22 cd22 ct22 : Value}
    {f23 : Addr} {od23 an23 : Option Addr} {sl23 : Array (Option Value)} {oc23 kV23 dc23 pm23 cd23 ct23 : Value}
    {f24 : Addr} {od24 an24 : Option Addr} {sl24 : Array (Option Value)} {oc24 kV24 dc24 pm24 cd24 ct24 : Value}
    {f25 : Addr} {od25 an25 : Option Addr} {sl25 : Array (Option Value)} {oc25 kV25 dc25 pm25 cd25 ct25 : Value}
    {f26 : Addr} {od26 an26 : Option Addr} {sl26 : Array (Option Value)} {oc26 kV26 dc26 pm26 cd26 ct26 : Value}
    {f27 : Addr} {od27 an27 : Option Addr} {sl27 : Array (Option Value)} {oc27 kV27 dc27 pm27 cd27 ct27 : Value}
    {f28 : Addr} {od28 an28 : Option Addr} {sl28 : Array (Option Value)} {oc28 kV28 dc28 pm28 cd28 ct28 : Value}
    {f29 : Addr} {od29 an29 : Option Addr} {sl29 : Array (Option Value)} {oc29 kV29 dc29 pm29 cd29 ct29 : Value}
    {f30 : Addr} {od30 an30 : Option Addr} {sl30 : Array (Option Value)} {oc30 kV30 dc30 pm30 cd30 ct30 : Value}
    {f31 : Addr} {od31 an31 : Option Addr} {sl31 : Array (Option Value)} {oc31 kV31 dc31 pm31 cd31 ct31 : Value}
    {f32 : Addr} {od32 an32 : Option Addr} {sl32 : Array (Option Value)} {oc32 kV32 dc32 pm32 cd32 ct32 : Value}
    {f33 : Addr} {od33 an33 : Option Addr} {sl33 : Array (Option Value)} {oc33 kV33 dc33 pm33 cd33 ct33 : Value}
    {CoReader : Addr}
    {fM0Reader : Addr} {odM0Reader anM0Reader : Option Addr} {slM0Reader : Array (Option Value)} {ocM0Reader kVM0Reader dcM0Reader pmM0Reader cdM0Reader ctM0Reader : Value}
    {fM2Reader : Addr} {odM2Reader anM2Reader : Option Addr} {slM2Reader : Array (Option Value)} {ocM2Reader kVM2Reader dcM2Reader pmM2Reader cdM2Reader ctM2Reader : Value}
    {qM2Reader : Addr} {rsM2Reader : List Value}
    {fM3Reader : Addr} {odM3Reader anM3Reader : Option Addr} {slM3Reader : Array (Option Value)} {ocM3Reader kVM3Reader dcM3Reader pmM3Reader cdM3Reader ctM3Reader : Value}
    {qM3Reader : Addr} {rsM3Reader : List Value}
    {fM4Reader : Addr} {odM4Reader anM4Reader : Option Addr} {slM4Reader : Array (Option Value)} {ocM4Reader kVM4Reader dcM4Reader pmM4Reader cdM4Reader ctM4Reader : Value}
    {qM4Reader : Addr} {rsM4Reader : List Value}
    {fM5Reader : Addr} {odM5Reader anM5Reader : Option Addr} {slM5Reader : Array (Option Value)} {ocM5Reader kVM5Reader dcM5Reader pmM5Reader cdM5Reader ctM5Reader : Value}
    {qM5Reader : Addr} {rsM5Reader : List Value}
    {fM6Reader : Addr} {odM6Reader anM6Reader : Option Addr} {slM6Reader : Array (Option Value)} {ocM6Reader kVM6Reader dcM6Reader pmM6Reader cdM6Reader ctM6Reader : Value}
    {qM6Reader : Addr} {rsM6Reader : List Value}
    {fM7Reader : Addr} {odM7Reader anM7Reader : Option Addr} {slM7Reader : Array (Option Value)} {ocM7Reader kVM7Reader dcM7Reader pmM7Reader cdM7Reader ctM7Reader : Value}
    {qM7Reader : Addr} {rsM7Reader : List Value}
    {fM9Reader : Addr} {odM9Reader anM9Reader : Option Addr} {slM9Reader : Array (Option Value)} {ocM9Reader kVM9Reader dcM9Reader pmM9Reader cdM9Reader ctM9Reader : Value}
    {fM10Reader : Addr} {odM10Reader anM10Reader : Option Addr} {slM10Reader : Array (Option Value)} {ocM10Reader kVM10Reader dcM10Reader pmM10Reader cdM10Reader ctM10Reader : Value}
    {fM11Reader : Addr} {odM11Reader anM11Reader : Option Addr} {slM11Reader : Array (Option Value)} {ocM11Reader kVM11Reader dcM11Reader pmM11Reader cdM11Reader ctM11Reader : Value}
    {fM12Reader : Addr} {odM12Reader anM12Reader : Option Addr} {slM12Reader : Array (Option Value)} {ocM12Reader kVM12Reader dcM12Reader pmM12Reader cdM12Reader ctM12Reader : Value}
    {fM13Reader : Addr} {odM13Reader anM13Reader : Option Addr} {slM13Reader : Array (Option Value)} {ocM13Reader kVM13Reader dcM13Reader pmM13Reader cdM13Reader ctM13Reader : Value}
    {fM14Reader : Addr} {odM14Reader anM14Reader : Option Addr} {slM14Reader : Array (Option Value)} {ocM14Reader kVM14Reader dcM14Reader pmM14Reader cdM14Reader ctM14Reader : Value}
    {t0 : Tok}
    {t1 : Tok}
    {t2 : Tok}
    {t3 : Tok}
    {t4 : Tok}
    {t5 : Tok}
    {t6 : Tok}
    (gy0 : PySem.W.nsIn K mainGlobals "InvalidReader" = some (some (.ref Cy0))) (hy0 : K.lookup Cy0 = some (excClassObj nmy0 qny0 Cy0 Ny0 bsy0 bmy0 hdy0 sny0 suby0 aby0 coly0 ddy0 k0y0 k1y0 k2y0 k3y0 k5y0 "ValueError.__new__")) (ty0 : PySem.W.excTail [.type "ValueError", .type "Exception", .type "BaseException", .type "object"] bmy0 = true) (iy0 : PySem.W.findIn K (.ref Cy0) "__init__" = some (some (.builtin "ValueError.__init__"))) (ky0 : PySem.W.keepIn K (.ref Cy0) = true) (by0 : PySem.W.subIn K (.ref Cy0) (.type "BaseException") = some true) (wy0 : PySem.W.typeIn K (.ref Cy0) = some (.type "type")) (xy0 : PySem.W.isClsIn K Cy0 = true) (ry0 : PySem.W.subIn K (.ref Cy0) (.ref Cy0) = some true) (zy0 : xclsB K Cy0 = true)
    (a0 : PySem.W.nsIn K mainGlobals "_wall" = some (some (.ref f0))) (l0 : K.lookup f0 = some ⟨oc0, od0, .func (PySem.W.fnOf "_wall" "_wall" (defArgs s_wall) (defBody s_wall) (defScope s_wall) .none kV0 dc0 pm0 an0 cd0 ct0), sl0⟩) (c0 : PySem.W.codeIn K cd0 "_wall" = true) (k0 : PySem.W.keepIn K (.ref f0) = true)
    (a1 : PySem.W.nsIn K mainGlobals "is_integer" = some (some (.ref f1))) (l1 : K.lookup f1 = some ⟨oc1, od1, .func (PySem.W.fnOf "is_integer" "is_integer" (defArgs s_is_integer) (defBody s_is_integer) (defScope s_is_integer) .none kV1 dc1 pm1 an1 cd1 ct1), sl1⟩) (c1 : PySem.W.codeIn K cd1 "is_integer" = true) (k1 : PySem.W.keepIn K (.ref f1) = true)
    (a2 : PySem.W.nsIn K mainGlobals "is_count" = some (some (.ref f2))) (l2 : K.lookup f2 = some ⟨oc2, od2, .func (PySem.W.fnOf "is_count" "is_count" (defArgs s_is_count) (defBody s_is_count) (defScope s_is_count) .none kV2 dc2 pm2 an2 cd2 ct2), sl2⟩) (c2 : PySem.W.codeIn K cd2 "is_count" = true) (k2 : PySem.W.keepIn K (.ref f2) = true)
    (a3 : PySem.W.nsIn K mainGlobals "is_name" = some (some (.ref f3))) (l3 : K.lookup f3 = some ⟨oc3, od3, .func (PySem.W.fnOf "is_name" "is_name" (defArgs s_is_name) (defBody s_is_name) (defScope s_is_name) .none kV3 dc3 pm3 an3 cd3 ct3), sl3⟩) (c3 : PySem.W.codeIn K cd3 "is_name" = true) (k3 : PySem.W.keepIn K (.ref f3) = true)
    (a4 : PySem.W.nsIn K mainGlobals "is_sorted" = some (some (.ref f4))) (l4 : K.lookup f4 = some ⟨oc4, od4, .func (PySem.W.fnOf "is_sorted" "is_sorted" (defArgs s_is_sorted) (defBody s_is_sorted) (defScope s_is_sorted) .none kV4 dc4 pm4 an4 cd4 ct4), sl4⟩) (c4 : PySem.W.codeIn K cd4 "is_sorted" = true) (k4 : PySem.W.keepIn K (.ref f4) = true)
    (a5 : PySem.W.nsIn K mainGlobals "text_of" = some (some (.ref f5))) (l5 : K.lookup f5 = some ⟨oc5, od5, .func (PySem.W.fnOf "text_of" "text_of" (defArgs s_text_of) (defBody s_text_of) (defScope s_text_of) .none kV5 dc5 pm5 an5 cd5 ct5), sl5⟩) (c5 : PySem.W.codeIn K cd5 "text_of" = true) (k5 : PySem.W.keepIn K (.ref f5) = true)
    (a6 : PySem.W.nsIn K mainGlobals "are_digits" = some (some (.ref f6))) (l6 : K.lookup f6 = some ⟨oc6, od6, .func (PySem.W.fnOf "are_digits" "are_digits" (defArgs s_are_digits) (defBody s_are_digits) (defScope s_are_digits) .none kV6 dc6 pm6 an6 cd6 ct6), sl6⟩) (c6 : PySem.W.codeIn K cd6 "are_digits" = true) (k6 : PySem.W.keepIn K (.ref f6) = true)
    (a7 : PySem.W.nsIn K mainGlobals "are_loose_digits" = some (some (.ref f7))) (l7 : K.lookup f7 = some ⟨oc7, od7, .func (PySem.W.fnOf "are_loose_digits" "are_loose_digits" (defArgs s_are_loose_digits) (defBody s_are_loose_digits) (defScope s_are_loose_digits) .none kV7 dc7 pm7 an7 cd7 ct7), sl7⟩) (c7 : PySem.W.codeIn K cd7 "are_loose_digits" = true) (k7 : PySem.W.keepIn K (.ref f7) = true)
    (a8 : PySem.W.nsIn K mainGlobals "is_digit" = some (some (.ref f8))) (l8 : K.lookup f8 = some ⟨oc8, od8, .func (PySem.W.fnOf "is_digit" "is_digit" (defArgs s_is_digit) (defBody s_is_digit) (defScope s_is_digit) .none kV8 dc8 pm8 an8 cd8 ct8), sl8⟩) (c8 : PySem.W.codeIn K cd8 "is_digit" = true) (k8 : PySem.W.keepIn K (.ref f8) = true)
    (a9 : PySem.W.nsIn K mainGlobals "_is_ascending" = some (some (.ref f9))) (l9 : K.lookup f9 = some ⟨oc9, od9, .func (PySem.W.fnOf "_is_ascending" "_is_ascending" (defArgs s_is_ascending) (defBody s_is_ascending) (defScope s_is_ascending) .none kV9 dc9 pm9 an9 cd9 ct9), sl9⟩) (c9 : PySem.W.codeIn K cd9 "_is_ascending" = true) (k9 : PySem.W.keepIn K (.ref f9) = true)
    (a10 : PySem.W.nsIn K mainGlobals "_is_place" = some (some (.ref f10))) (l10 : K.lookup f10 = some ⟨oc10, od10, .func (PySem.W.fnOf "_is_place" "_is_place" (defArgs s_is_place) (defBody s_is_place) (defScope s_is_place) .none kV10 dc10 pm10 an10 cd10 ct10), sl10⟩) (c10 : PySem.W.codeIn K cd10 "_is_place" = true) (k10 : PySem.W.keepIn K (.ref f10) = true)
    (a11 : PySem.W.nsIn K mainGlobals "_are_reads" = some (some (.ref f11))) (l11 : K.lookup f11 = some ⟨oc11, od11, .func (PySem.W.fnOf "_are_reads" "_are_reads" (defArgs s_are_reads) (defBody s_are_reads) (defScope s_are_reads) .none kV11 dc11 pm11 an11 cd11 ct11), sl11⟩) (c11 : PySem.W.codeIn K cd11 "_are_reads" = true) (k11 : PySem.W.keepIn K (.ref f11) = true)
    (a12 : PySem.W.nsIn K mainGlobals "_all_states" = some (some (.ref f12))) (l12 : K.lookup f12 = some ⟨oc12, od12, .func (PySem.W.fnOf "_all_states" "_all_states" (defArgs s_all_states) (defBody s_all_states) (defScope s_all_states) .none kV12 dc12 pm12 an12 cd12 ct12), sl12⟩) (c12 : PySem.W.codeIn K cd12 "_all_states" = true) (k12 : PySem.W.keepIn K (.ref f12) = true)
    (a13 : PySem.W.nsIn K mainGlobals "_is_reader" = some (some (.ref f13))) (l13 : K.lookup f13 = some ⟨oc13, od13, .func (PySem.W.fnOf "_is_reader" "_is_reader" (defArgs s_is_reader) (defBody s_is_reader) (defScope s_is_reader) .none kV13 dc13 pm13 an13 cd13 ct13), sl13⟩) (c13 : PySem.W.codeIn K cd13 "_is_reader" = true) (k13 : PySem.W.keepIn K (.ref f13) = true)
    (a14 : PySem.W.nsIn K mainGlobals "_reached" = some (some (.ref f14))) (l14 : K.lookup f14 = some ⟨oc14, od14, .func (PySem.W.fnOf "_reached" "_reached" (defArgs s_reached) (defBody s_reached) (defScope s_reached) .none kV14 dc14 pm14 an14 cd14 ct14), sl14⟩) (c14 : PySem.W.codeIn K cd14 "_reached" = true) (k14 : PySem.W.keepIn K (.ref f14) = true)
    (a15 : PySem.W.nsIn K mainGlobals "_spare" = some (some (.ref f15))) (l15 : K.lookup f15 = some ⟨oc15, od15, .func (PySem.W.fnOf "_spare" "_spare" (defArgs s_spare) (defBody s_spare) (defScope s_spare) .none kV15 dc15 pm15 an15 cd15 ct15), sl15⟩) (c15 : PySem.W.codeIn K cd15 "_spare" = true) (k15 : PySem.W.keepIn K (.ref f15) = true)
    (a16 : PySem.W.nsIn K mainGlobals "_representatives" = some (some (.ref f16))) (l16 : K.lookup f16 = some ⟨oc16, od16, .func (PySem.W.fnOf "_representatives" "_representatives" (defArgs s_representatives) (defBody s_representatives) (defScope s_representatives) .none kV16 dc16 pm16 an16 cd16 ct16), sl16⟩) (c16 : PySem.W.codeIn K cd16 "_representatives" = true) (k16 : PySem.W.keepIn K (.ref f16) = true)
    (a17 : PySem.W.nsIn K mainGlobals "_lines_from" = some (some (.ref f17))) (l17 : K.lookup f17 = some ⟨oc17, od17, .func (PySem.W.fnOf "_lines_from" "_lines_from" (defArgs s_lines_from) (defBody s_lines_from) (defScope s_lines_from) .none kV17 dc17 pm17 an17 cd17 ct17), sl17⟩) (c17 : PySem.W.codeIn K cd17 "_lines_from" = true) (k17 : PySem.W.keepIn K (.ref f17) = true)
    (a18 : PySem.W.nsIn K mainGlobals "_merged_states" = some (some (.ref f18))) (l18 : K.lookup f18 = some ⟨oc18, od18, .func (PySem.W.fnOf "_merged_states" "_merged_states" (defArgs s_merged_states) (defBody s_merged_states) (defScope s_merged_states) .none kV18 dc18 pm18 an18 cd18 ct18), sl18⟩) (c18 : PySem.W.codeIn K cd18 "_merged_states" = true) (k18 : PySem.W.keepIn K (.ref f18) = true)
    (a19 : PySem.W.nsIn K mainGlobals "_law_dice" = some (some (.ref f19))) (l19 : K.lookup f19 = some ⟨oc19, od19, .func (PySem.W.fnOf "_law_dice" "_law_dice" (defArgs s_law_dice) (defBody s_law_dice) (defScope s_law_dice) .none kV19 dc19 pm19 an19 cd19 ct19), sl19⟩) (c19 : PySem.W.codeIn K cd19 "_law_dice" = true) (k19 : PySem.W.keepIn K (.ref f19) = true)
    (a20 : PySem.W.nsIn K mainGlobals "_law_roll" = some (some (.ref f20))) (l20 : K.lookup f20 = some ⟨oc20, od20, .func (PySem.W.fnOf "_law_roll" "_law_roll" (defArgs s_law_roll) (defBody s_law_roll) (defScope s_law_roll) .none kV20 dc20 pm20 an20 cd20 ct20), sl20⟩) (c20 : PySem.W.codeIn K cd20 "_law_roll" = true) (k20 : PySem.W.keepIn K (.ref f20) = true)
    (a21 : PySem.W.nsIn K mainGlobals "_law_pick" = some (some (.ref f21))) (l21 : K.lookup f21 = some ⟨oc21, od21, .func (PySem.W.fnOf "_law_pick" "_law_pick" (defArgs s_law_pick) (defBody s_law_pick) (defScope s_law_pick) .none kV21 dc21 pm21 an21 cd21 ct21), sl21⟩) (c21 : PySem.W.codeIn K cd21 "_law_pick" = true) (k21 : PySem.W.keepIn K (.ref f21) = true)
    (a22 : PySem.W.nsIn K mainGlobals "_law_mixed" = some (some (.ref f22))) (l22 : K.lookup f22 = some ⟨oc22, od22, .func (PySem.W.fnOf "_law_mixed" "_law_mixed" (defArgs s_law_mixed) (defBody s_law_mixed) (defScope s_law_mixed) .none kV22 dc22 pm22 an22 cd22 ct22), sl22⟩) (c22 : PySem.W.codeIn K cd22 "_law_mixed" = true) (k22 : PySem.W.keepIn K (.ref f22) = true)
    (a23 : PySem.W.nsIn K mainGlobals "_law_digit_text" = some (some (.ref f23))) (l23 : K.lookup f23 = some ⟨oc23, od23, .func (PySem.W.fnOf "_law_digit_text" "_law_digit_text" (defArgs s_law_digit_text) (defBody s_law_digit_text) (defScope s_law_digit_text) .none kV23 dc23 pm23 an23 cd23 ct23), sl23⟩) (c23 : PySem.W.codeIn K cd23 "_law_digit_text" = true) (k23 : PySem.W.keepIn K (.ref f23) = true)
    (a24 : PySem.W.nsIn K mainGlobals "_law_made_reader" = some (some (.ref f24))) (l24 : K.lookup f24 = some ⟨oc24, od24, .func (PySem.W.fnOf "_law_made_reader" "_law_made_reader" (defArgs s_law_made_reader) (defBody s_law_made_reader) (defScope s_law_made_reader) .none kV24 dc24 pm24 an24 cd24 ct24), sl24⟩) (c24 : PySem.W.codeIn K cd24 "_law_made_reader" = true) (k24 : PySem.W.keepIn K (.ref f24) = true)
    (a25 : PySem.W.nsIn K mainGlobals "_law_state_names" = some (some (.ref f25))) (l25 : K.lookup f25 = some ⟨oc25, od25, .func (PySem.W.fnOf "_law_state_names" "_law_state_names" (defArgs s_law_state_names) (defBody s_law_state_names) (defScope s_law_state_names) .none kV25 dc25 pm25 an25 cd25 ct25), sl25⟩) (c25 : PySem.W.codeIn K cd25 "_law_state_names" = true) (k25 : PySem.W.keepIn K (.ref f25) = true)
    (a26 : PySem.W.nsIn K mainGlobals "_law_all_digits" = some (some (.ref f26))) (l26 : K.lookup f26 = some ⟨oc26, od26, .func (PySem.W.fnOf "_law_all_digits" "_law_all_digits" (defArgs s_law_all_digits) (defBody s_law_all_digits) (defScope s_law_all_digits) .none kV26 dc26 pm26 an26 cd26 ct26), sl26⟩) (c26 : PySem.W.codeIn K cd26 "_law_all_digits" = true) (k26 : PySem.W.keepIn K (.ref f26) = true)
    (a27 : PySem.W.nsIn K mainGlobals "_law_some_digits" = some (some (.ref f27))) (l27 : K.lookup f27 = some ⟨oc27, od27, .func (PySem.W.fnOf "_law_some_digits" "_law_some_digits" (defArgs s_law_some_digits) (defBody s_law_some_digits) (defScope s_law_some_digits) .none kV27 dc27 pm27 an27 cd27 ct27), sl27⟩) (c27 : PySem.W.codeIn K cd27 "_law_some_digits" = true) (k27 : PySem.W.keepIn K (.ref f27) = true)
    (a28 : PySem.W.nsIn K mainGlobals "_law_plain_reader" = some (some (.ref f28))) (l28 : K.lookup f28 = some ⟨oc28, od28, .func (PySem.W.fnOf "_law_plain_reader" "_law_plain_reader" (defArgs s_law_plain_reader) (defBody s_law_plain_reader) (defScope s_law_plain_reader) .none kV28 dc28 pm28 an28 cd28 ct28), sl28⟩) (c28 : PySem.W.codeIn K cd28 "_law_plain_reader" = true) (k28 : PySem.W.keepIn K (.ref f28) = true)
    (a29 : PySem.W.nsIn K mainGlobals "_law_reader_lines" = some (some (.ref f29))) (l29 : K.lookup f29 = some ⟨oc29, od29, .func (PySem.W.fnOf "_law_reader_lines" "_law_reader_lines" (defArgs s_law_reader_lines) (defBody s_law_reader_lines) (defScope s_law_reader_lines) .none kV29 dc29 pm29 an29 cd29 ct29), sl29⟩) (c29 : PySem.W.codeIn K cd29 "_law_reader_lines" = true) (k29 : PySem.W.keepIn K (.ref f29) = true)
    (a30 : PySem.W.nsIn K mainGlobals "_law_words" = some (some (.ref f30))) (l30 : K.lookup f30 = some ⟨oc30, od30, .func (PySem.W.fnOf "_law_words" "_law_words" (defArgs s_law_words) (defBody s_law_words) (defScope s_law_words) .none kV30 dc30 pm30 an30 cd30 ct30), sl30⟩) (c30 : PySem.W.codeIn K cd30 "_law_words" = true) (k30 : PySem.W.keepIn K (.ref f30) = true)
    (a31 : PySem.W.nsIn K mainGlobals "_law_is_walked" = some (some (.ref f31))) (l31 : K.lookup f31 = some ⟨oc31, od31, .func (PySem.W.fnOf "_law_is_walked" "_law_is_walked" (defArgs s_law_is_walked) (defBody s_law_is_walked) (defScope s_law_is_walked) .none kV31 dc31 pm31 an31 cd31 ct31), sl31⟩) (c31 : PySem.W.codeIn K cd31 "_law_is_walked" = true) (k31 : PySem.W.keepIn K (.ref f31) = true)
    (a32 : PySem.W.nsIn K mainGlobals "_law_long" = some (some (.ref f32))) (l32 : K.lookup f32 = some ⟨oc32, od32, .func (PySem.W.fnOf "_law_long" "_law_long" (defArgs s_law_long) (defBody s_law_long) (defScope s_law_long) .none kV32 dc32 pm32 an32 cd32 ct32), sl32⟩) (c32 : PySem.W.codeIn K cd32 "_law_long" = true) (k32 : PySem.W.keepIn K (.ref f32) = true)
    (a33 : PySem.W.nsIn K mainGlobals "law" = some (some (.ref f33))) (l33 : K.lookup f33 = some ⟨oc33, od33, .func (PySem.W.fnOf "law" "law" (defArgs s_law) (defBody s_law) (defScope s_law) .none kV33 dc33 pm33 an33 cd33 ct33), sl33⟩) (c33 : PySem.W.codeIn K cd33 "law" = true) (k33 : PySem.W.keepIn K (.ref f33) = true)
    (goReader : PySem.W.nsIn K mainGlobals "Reader" = some (some (.ref CoReader)))
    (pgoReader : PySem.W.plainGet K CoReader Str.empty = true)
    (hdoReader : PySem.W.hasDictIn K CoReader = true)
    (pooReader : PySem.W.plainOver K CoReader = true)
    (saoReader : PySem.W.findIn K (.ref CoReader) "__setattr__" = some (some (.builtin "object.__setattr__")))
    (mkoReader : PySem.W.makesIn K CoReader = true)
    (kcoReader : PySem.W.keepIn K (.ref CoReader) = true)
    (neoReader : PySem.W.findIn K (.ref CoReader) "__ne__" = some (some (.builtin "object.__ne__")))
    (oboReader : PySem.W.mroIn K CoReader (.type "object") = some true)
    (kioReader : PySem.W.kitOne K (.ref CoReader) (.ref CoReader) = some true)
    (ktoReader : PySem.W.kitOne K (.type "tuple") (.ref CoReader) = some false)
    (kdoReader : PySem.W.kitOne K (.type "dict") (.ref CoReader) = some false)
    (kroReader : PySem.W.kitOne K (.ref CoReader) (.type "tuple") = some false)
    (ksoReader : PySem.W.kitOne K (.ref CoReader) (.type "str") = some false)
    (kNoneTypeoReader : PySem.W.kitOne K (.type "NoneType") (.ref CoReader) = some false)
    (kintoReader : PySem.W.kitOne K (.type "int") (.ref CoReader) = some false)
    (kbooloReader : PySem.W.kitOne K (.type "bool") (.ref CoReader) = some false)
    (kstroReader : PySem.W.kitOne K (.type "str") (.ref CoReader) = some false)
    (klistoReader : PySem.W.kitOne K (.type "list") (.ref CoReader) = some false)
    (caoReader : PySem.W.findIn K (.ref CoReader) "__class__" = some (some (.builtin "object.__class__")))
    (cgoReader : PySem.W.specialIn K (.builtin "object.__class__") "__get__" = some (some (.builtin "getset_descriptor.__get__")))
    (ctoReader : PySem.W.takesIn K (.builtin "object.__class__") = some true)
    (n_firstoReader : PySem.W.findIn K (.ref CoReader) "_first" = some none)
    (n_endsoReader : PySem.W.findIn K (.ref CoReader) "_ends" = some none)
    (n_readsoReader : PySem.W.findIn K (.ref CoReader) "_reads" = some none)
    (n_statesoReader : PySem.W.findIn K (.ref CoReader) "_states" = some none)
    (n_spareoReader : PySem.W.findIn K (.ref CoReader) "_spare" = some none)
    (atM0Reader : PySem.W.findIn K (.ref CoReader) "__init__" = some (some (.ref fM0Reader)))
    (ifM0Reader : PySem.W.isFn K (.ref fM0Reader) = true)
    (lM0Reader : K.lookup fM0Reader = some ⟨ocM0Reader, odM0Reader, .func (PySem.W.fnOf "__init__" "Reader.__init__" (defArgs s_Reader_init) (defBody s_Reader_init) (defScope s_Reader_init) .none kVM0Reader dcM0Reader pmM0Reader anM0Reader cdM0Reader ctM0Reader), slM0Reader⟩)
    (cM0Reader : PySem.W.codeIn K cdM0Reader "Reader.__init__" = true)
    (kM0Reader : PySem.W.keepIn K (.ref fM0Reader) = true)
    (atM2Reader : PySem.W.findIn K (.ref CoReader) "first" = some (some (.ref qM2Reader)))
    (geM2Reader : PySem.W.specialIn K (.ref qM2Reader) "__get__" = some (some (.builtin "property.__get__")))
    (taM2Reader : PySem.W.takesIn K (.ref qM2Reader) = some true)
    (reM2Reader : PySem.W.recIn K qM2Reader "property" = some (.ref fM2Reader :: rsM2Reader))
    (lM2Reader : K.lookup fM2Reader = some ⟨ocM2Reader, odM2Reader, .func (PySem.W.fnOf "first" "Reader.first" (defArgs s_Reader_first) (defBody s_Reader_first) (defScope s_Reader_first) .none kVM2Reader dcM2Reader pmM2Reader anM2Reader cdM2Reader ctM2Reader), slM2Reader⟩)
    (cM2Reader : PySem.W.codeIn K cdM2Reader "Reader.first" = true)
    (kM2Reader : PySem.W.keepIn K (.ref fM2Reader) = true)
    (atM3Reader : PySem.W.findIn K (.ref CoReader) "ends" = some (some (.ref qM3Reader)))
    (geM3Reader : PySem.W.specialIn K (.ref qM3Reader) "__get__" = some (some (.builtin "property.__get__")))
    (taM3Reader : PySem.W.takesIn K (.ref qM3Reader) = some true)
    (reM3Reader : PySem.W.recIn K qM3Reader "property" = some (.ref fM3Reader :: rsM3Reader))
    (lM3Reader : K.lookup fM3Reader = some ⟨ocM3Reader, odM3Reader, .func (PySem.W.fnOf "ends" "Reader.ends" (defArgs s_Reader_ends) (defBody s_Reader_ends) (defScope s_Reader_ends) .none kVM3Reader dcM3Reader pmM3Reader anM3Reader cdM3Reader ctM3Reader), slM3Reader⟩)
    (cM3Reader : PySem.W.codeIn K cdM3Reader "Reader.ends" = true)
    (kM3Reader : PySem.W.keepIn K (.ref fM3Reader) = true)
    (atM4Reader : PySem.W.findIn K (.ref CoReader) "reads" = some (some (.ref qM4Reader)))
    (geM4Reader : PySem.W.specialIn K (.ref qM4Reader) "__get__" = some (some (.builtin "property.__get__")))
    (taM4Reader : PySem.W.takesIn K (.ref qM4Reader) = some true)
    (reM4Reader : PySem.W.recIn K qM4Reader "property" = some (.ref fM4Reader :: rsM4Reader))
    (lM4Reader : K.lookup fM4Reader = some ⟨ocM4Reader, odM4Reader, .func (PySem.W.fnOf "reads" "Reader.reads" (defArgs s_Reader_reads) (defBody s_Reader_reads) (defScope s_Reader_reads) .none kVM4Reader dcM4Reader pmM4Reader anM4Reader cdM4Reader ctM4Reader), slM4Reader⟩)
    (cM4Reader : PySem.W.codeIn K cdM4Reader "Reader.reads" = true)
    (kM4Reader : PySem.W.keepIn K (.ref fM4Reader) = true)
    (atM5Reader : PySem.W.findIn K (.ref CoReader) "states" = some (some (.ref qM5Reader)))
    (geM5Reader : PySem.W.specialIn K (.ref qM5Reader) "__get__" = some (some (.builtin "property.__get__")))
    (taM5Reader : PySem.W.takesIn K (.ref qM5Reader) = some true)
    (reM5Reader : PySem.W.recIn K qM5Reader "property" = some (.ref fM5Reader :: rsM5Reader))
    (lM5Reader : K.lookup fM5Reader = some ⟨ocM5Reader, odM5Reader, .func (PySem.W.fnOf "states" "Reader.states" (defArgs s_Reader_states) (defBody s_Reader_states) (defScope s_Reader_states) .none kVM5Reader dcM5Reader pmM5Reader anM5Reader cdM5Reader ctM5Reader), slM5Reader⟩)
    (cM5Reader : PySem.W.codeIn K cdM5Reader "Reader.states" = true)
    (kM5Reader : PySem.W.keepIn K (.ref fM5Reader) = true)
    (atM6Reader : PySem.W.findIn K (.ref CoReader) "digits" = some (some (.ref qM6Reader)))
    (geM6Reader : PySem.W.specialIn K (.ref qM6Reader) "__get__" = some (some (.builtin "property.__get__")))
    (taM6Reader : PySem.W.takesIn K (.ref qM6Reader) = some true)
    (reM6Reader : PySem.W.recIn K qM6Reader "property" = some (.ref fM6Reader :: rsM6Reader))
    (lM6Reader : K.lookup fM6Reader = some ⟨ocM6Reader, odM6Reader, .func (PySem.W.fnOf "digits" "Reader.digits" (defArgs s_Reader_digits) (defBody s_Reader_digits) (defScope s_Reader_digits) .none kVM6Reader dcM6Reader pmM6Reader anM6Reader cdM6Reader ctM6Reader), slM6Reader⟩)
    (cM6Reader : PySem.W.codeIn K cdM6Reader "Reader.digits" = true)
    (kM6Reader : PySem.W.keepIn K (.ref fM6Reader) = true)
    (atM7Reader : PySem.W.findIn K (.ref CoReader) "lines" = some (some (.ref qM7Reader)))
    (geM7Reader : PySem.W.specialIn K (.ref qM7Reader) "__get__" = some (some (.builtin "property.__get__")))
    (taM7Reader : PySem.W.takesIn K (.ref qM7Reader) = some true)
    (reM7Reader : PySem.W.recIn K qM7Reader "property" = some (.ref fM7Reader :: rsM7Reader))
    (lM7Reader : K.lookup fM7Reader = some ⟨ocM7Reader, odM7Reader, .func (PySem.W.fnOf "lines" "Reader.lines" (defArgs s_Reader_lines) (defBody s_Reader_lines) (defScope s_Reader_lines) .none kVM7Reader dcM7Reader pmM7Reader anM7Reader cdM7Reader ctM7Reader), slM7Reader⟩)
    (cM7Reader : PySem.W.codeIn K cdM7Reader "Reader.lines" = true)
    (kM7Reader : PySem.W.keepIn K (.ref fM7Reader) = true)
    (atM9Reader : PySem.W.findIn K (.ref CoReader) "behind" = some (some (.ref fM9Reader)))
    (ifM9Reader : PySem.W.isFn K (.ref fM9Reader) = true)
    (lM9Reader : K.lookup fM9Reader = some ⟨ocM9Reader, odM9Reader, .func (PySem.W.fnOf "behind" "Reader.behind" (defArgs s_Reader_behind) (defBody s_Reader_behind) (defScope s_Reader_behind) .none kVM9Reader dcM9Reader pmM9Reader anM9Reader cdM9Reader ctM9Reader), slM9Reader⟩)
    (cM9Reader : PySem.W.codeIn K cdM9Reader "Reader.behind" = true)
    (kM9Reader : PySem.W.keepIn K (.ref fM9Reader) = true)
    (atM10Reader : PySem.W.findIn K (.ref CoReader) "takes" = some (some (.ref fM10Reader)))
    (ifM10Reader : PySem.W.isFn K (.ref fM10Reader) = true)
    (lM10Reader : K.lookup fM10Reader = some ⟨ocM10Reader, odM10Reader, .func (PySem.W.fnOf "takes" "Reader.takes" (defArgs s_Reader_takes) (defBody s_Reader_takes) (defScope s_Reader_takes) .none kVM10Reader dcM10Reader pmM10Reader anM10Reader cdM10Reader ctM10Reader), slM10Reader⟩)
    (cM10Reader : PySem.W.codeIn K cdM10Reader "Reader.takes" = true)
    (kM10Reader : PySem.W.keepIn K (.ref fM10Reader) = true)
    (atM11Reader : PySem.W.findIn K (.ref CoReader) "least" = some (some (.ref fM11Reader)))
    (ifM11Reader : PySem.W.isFn K (.ref fM11Reader) = true)
    (lM11Reader : K.lookup fM11Reader = some ⟨ocM11Reader, odM11Reader, .func (PySem.W.fnOf "least" "Reader.least" (defArgs s_Reader_least) (defBody s_Reader_least) (defScope s_Reader_least) .none kVM11Reader dcM11Reader pmM11Reader anM11Reader cdM11Reader ctM11Reader), slM11Reader⟩)
    (cM11Reader : PySem.W.codeIn K cdM11Reader "Reader.least" = true)
    (kM11Reader : PySem.W.keepIn K (.ref fM11Reader) = true)
    (atM12Reader : PySem.W.findIn K (.ref CoReader) "__len__" = some (some (.ref fM12Reader)))
    (ifM12Reader : PySem.W.isFn K (.ref fM12Reader) = true)
    (lM12Reader : K.lookup fM12Reader = some ⟨ocM12Reader, odM12Reader, .func (PySem.W.fnOf "__len__" "Reader.__len__" (defArgs s_Reader_len) (defBody s_Reader_len) (defScope s_Reader_len) .none kVM12Reader dcM12Reader pmM12Reader anM12Reader cdM12Reader ctM12Reader), slM12Reader⟩)
    (cM12Reader : PySem.W.codeIn K cdM12Reader "Reader.__len__" = true)
    (kM12Reader : PySem.W.keepIn K (.ref fM12Reader) = true)
    (atM13Reader : PySem.W.findIn K (.ref CoReader) "__eq__" = some (some (.ref fM13Reader)))
    (ifM13Reader : PySem.W.isFn K (.ref fM13Reader) = true)
    (lM13Reader : K.lookup fM13Reader = some ⟨ocM13Reader, odM13Reader, .func (PySem.W.fnOf "__eq__" "Reader.__eq__" (defArgs s_Reader_eq) (defBody s_Reader_eq) (defScope s_Reader_eq) .none kVM13Reader dcM13Reader pmM13Reader anM13Reader cdM13Reader ctM13Reader), slM13Reader⟩)
    (cM13Reader : PySem.W.codeIn K cdM13Reader "Reader.__eq__" = true)
    (kM13Reader : PySem.W.keepIn K (.ref fM13Reader) = true)
    (atM14Reader : PySem.W.findIn K (.ref CoReader) "__str__" = some (some (.ref fM14Reader)))
    (ifM14Reader : PySem.W.isFn K (.ref fM14Reader) = true)
    (lM14Reader : K.lookup fM14Reader = some ⟨ocM14Reader, odM14Reader, .func (PySem.W.fnOf "__str__" "Reader.__str__" (defArgs s_Reader_str) (defBody s_Reader_str) (defScope s_Reader_str) .none kVM14Reader dcM14Reader pmM14Reader anM14Reader cdM14Reader ctM14Reader), slM14Reader⟩)
    (cM14Reader : PySem.W.codeIn K cdM14Reader "Reader.__str__" = true)
    (kM14Reader : PySem.W.keepIn K (.ref fM14Reader) = true)
    (m0 : PySem.W.nsIn K mainGlobals "MAX_LETTERS" = some (some (.int 8 t0)))
    (m1 : PySem.W.nsIn K mainGlobals "_TOO_LONG" = some (some (.int 1000000000000000000000000000000000000000000000000000000000000 t1)))
    (m2 : PySem.W.nsIn K mainGlobals "MAX_DIGIT" = some (some (.int 3 t2)))
    (m3 : PySem.W.nsIn K mainGlobals "LOOSE_DIGIT" = some (some (.int 20 t3)))
    (m4 : PySem.W.nsIn K mainGlobals "_LOOSE_RANKS" = some (some (.int 402 t4)))
    (m5 : PySem.W.nsIn K mainGlobals "MAX_STATES" = some (some (.int 6 t5)))
    (m6 : PySem.W.nsIn K mainGlobals "MAX_READS" = some (some (.int 40 t6)))
    (z0 : PySem.W.nsIn K mainGlobals "IndexError" = some none)
    (z1 : PySem.W.nsIn K mainGlobals "ValueError" = some none)
    (z2 : PySem.W.nsIn K mainGlobals "abs" = some none)
    (z3 : PySem.W.nsIn K mainGlobals "all" = some none)
    (z4 : PySem.W.nsIn K mainGlobals "bool" = some none)
    (z5 : PySem.W.nsIn K mainGlobals "classmethod" = some none)
    (z6 : PySem.W.nsIn K mainGlobals "dict" = some none)
    (z7 : PySem.W.nsIn K mainGlobals "enumerate" = some none)
    (z8 : PySem.W.nsIn K mainGlobals "int" = some none)
    (z9 : PySem.W.nsIn K mainGlobals "isinstance" = some none)
    (z10 : PySem.W.nsIn K mainGlobals "len" = some none)
    (z11 : PySem.W.nsIn K mainGlobals "list" = some none)
    (z12 : PySem.W.nsIn K mainGlobals "max" = some none)
    (z13 : PySem.W.nsIn K mainGlobals "min" = some none)
    (z14 : PySem.W.nsIn K mainGlobals "property" = some none)
    (z15 : PySem.W.nsIn K mainGlobals "range" = some none)
    (z16 : PySem.W.nsIn K mainGlobals "repr" = some none)
    (z17 : PySem.W.nsIn K mainGlobals "set" = some none)
    (z18 : PySem.W.nsIn K mainGlobals "sorted" = some none)
    (z19 : PySem.W.nsIn K mainGlobals "str" = some none)
    (z20 : PySem.W.nsIn K mainGlobals "tuple" = some none) :
    ∃ fd : FuncData, (∀ (s : Shared) (v : Value), BindsTo s fd ⟨[v], []⟩ [("_law_script", v)]) ∧ ∀ base : Heap, K.In base → base.Ns mainGlobals mg → FnG l.prog w K mg base CX0 13 fa fd ["_law_script"] (spLaw K) := by
  have e := hfa.symm.trans (PySem.W.mg_of X G a33)
  cases e
  have T : Top K mg := {
    p_InvalidReader := ⟨Cy0, ⟨PySem.W.mg_of X G gy0, ⟨_, _, _, _, _, _, _, _, _, _, _, _, _, _, _, _, hy0, ty0⟩, iy0, ky0⟩, xclsB_ok zy0, exm_own by0 xy0 wy0 ry0⟩
    d_wall := ⟨_, _, fun_mk l0 c0 k0, (fun_mk (st := s_wall) l0 c0 k0).binds (ps := ["k"]) fun _ _ _ _ _ _ us hl => match us, hl with | [_], _ => rfl, PySem.W.mg_of X G a0⟩
    d_is_integer := ⟨_, _, fun_mk l1 c1 k1, (fun_mk (st := s_is_integer) l1 c1 k1).binds (ps := ["value"]) fun _ _ _ _ _ _ us hl => match us, hl with | [_], _ => rfl, PySem.W.mg_of X G a1⟩
    d_is_count := ⟨_, _, fun_mk l2 c2 k2, (fun_mk (st := s_is_count) l2 c2 k2).binds (ps := ["value"]) fun _ _ _ _ _ _ us hl => match us, hl with | [_], _ => rfl, PySem.W.mg_of X G a2⟩
    d_is_name := ⟨_, _, fun_mk l3 c3 k3, (fun_mk (st := s_is_name) l3 c3 k3).binds (ps := ["value"]) fun _ _ _ _ _ _ us hl => match us, hl with | [_], _ => rfl, PySem.W.mg_of X G a3⟩
    d_is_sorted := ⟨_, _, fun_mk l4 c4 k4, kbn_of fun us ws h1 h2 => match us, ws, h1, h2 with | [_], [_], _, _ => by first | rfl | with_unfolding_all rfl, PySem.W.mg_of X G a4⟩
    d_text_of := ⟨_, _, fun_mk l5 c5 k5, (fun_mk (st := s_text_of) l5 c5 k5).binds (ps := ["names"]) fun _ _ _ _ _ _ us hl => match us, hl with | [_], _ => rfl, PySem.W.mg_of X G a5⟩
    d_are_digits := ⟨_, _, fun_mk l6 c6 k6, (fun_mk (st := s_are_digits) l6 c6 k6).binds (ps := ["value"]) fun _ _ _ _ _ _ us hl => match us, hl with | [_], _ => rfl, PySem.W.mg_of X G a6⟩
    d_are_loose_digits := ⟨_, _, fun_mk l7 c7 k7, (fun_mk (st := s_are_loose_digits) l7 c7 k7).binds (ps := ["value"]) fun _ _ _ _ _ _ us hl => match us, hl with | [_], _ => rfl, PySem.W.mg_of X G a7⟩
    d_is_digit := ⟨_, _, fun_mk l8 c8 k8, (fun_mk (st := s_is_digit) l8 c8 k8).binds (ps := ["value"]) fun _ _ _ _ _ _ us hl => match us, hl with | [_], _ => rfl, PySem.W.mg_of X G a8⟩
    d_is_ascending := ⟨_, _, fun_mk l9 c9 k9, (fun_mk (st := s_is_ascending) l9 c9 k9).binds (ps := ["value"]) fun _ _ _ _ _ _ us hl => match us, hl with | [_], _ => rfl, PySem.W.mg_of X G a9⟩
    d_is_place := ⟨_, _, fun_mk l10 c10 k10, (fun_mk (st := s_is_place) l10 c10 k10).binds (ps := ["value"]) fun _ _ _ _ _ _ us hl => match us, hl with | [_], _ => rfl, PySem.W.mg_of X G a10⟩
    d_are_reads := ⟨_, _, fun_mk l11 c11 k11, (fun_mk (st := s_are_reads) l11 c11 k11).binds (ps := ["value"]) fun _ _ _ _ _ _ us hl => match us, hl with | [_], _ => rfl, PySem.W.mg_of X G a11⟩
    d_all_states := ⟨_, _, fun_mk l12 c12 k12, (fun_mk (st := s_all_states) l12 c12 k12).binds (ps := ["first", "ends", "reads"]) fun _ _ _ _ _ _ us hl => match us, hl with | [_, _, _], _ => rfl, PySem.W.mg_of X G a12⟩
    d_is_reader := ⟨_, _, fun_mk l13 c13 k13, (fun_mk (st := s_is_reader) l13 c13 k13).binds (ps := ["first", "ends", "reads"]) fun _ _ _ _ _ _ us hl => match us, hl with | [_, _, _], _ => rfl, PySem.W.mg_of X G a13⟩
    d_reached := ⟨_, _, fun_mk l14 c14 k14, (fun_mk (st := s_reached) l14 c14 k14).binds (ps := ["starts", "pairs"]) fun _ _ _ _ _ _ us hl => match us, hl with | [_, _], _ => rfl, PySem.W.mg_of X G a14⟩
    d_spare := ⟨_, _, fun_mk l15 c15 k15, (fun_mk (st := s_spare) l15 c15 k15).binds (ps := ["first", "ends", "reads"]) fun _ _ _ _ _ _ us hl => match us, hl with | [_, _, _], _ => rfl, PySem.W.mg_of X G a15⟩
    d_representatives := ⟨_, _, fun_mk l16 c16 k16, (fun_mk (st := s_representatives) l16 c16 k16).binds (ps := ["marks"]) fun _ _ _ _ _ _ us hl => match us, hl with | [_], _ => rfl, PySem.W.mg_of X G a16⟩
    d_lines_from := ⟨_, _, fun_mk l17 c17 k17, (fun_mk (st := s_lines_from) l17 c17 k17).binds (ps := ["state", "reads", "names"]) fun _ _ _ _ _ _ us hl => match us, hl with | [_, _, _], _ => rfl, PySem.W.mg_of X G a17⟩
    d_merged_states := ⟨_, _, fun_mk l18 c18 k18, (fun_mk (st := s_merged_states) l18 c18 k18).binds (ps := ["first", "ends", "reads"]) fun _ _ _ _ _ _ us hl => match us, hl with | [_, _, _], _ => rfl, PySem.W.mg_of X G a18⟩
    d_law_dice := ⟨_, _, fun_mk l19 c19 k19, (fun_mk (st := s_law_dice) l19 c19 k19).binds (ps := ["_law_script", "_law_spot"]) fun _ _ _ _ _ _ us hl => match us, hl with | [_, _], _ => rfl, PySem.W.mg_of X G a19⟩
    d_law_roll := ⟨_, _, fun_mk l20 c20 k20, (fun_mk (st := s_law_roll) l20 c20 k20).binds (ps := ["_law_dice_here", "_law_total"]) fun _ _ _ _ _ _ us hl => match us, hl with | [_, _], _ => rfl, PySem.W.mg_of X G a20⟩
    d_law_pick := ⟨_, _, fun_mk l21 c21 k21, (fun_mk (st := s_law_pick) l21 c21 k21).binds (ps := ["_law_dice_here", "_law_items"]) fun _ _ _ _ _ _ us hl => match us, hl with | [_, _], _ => rfl, PySem.W.mg_of X G a21⟩
    d_law_mixed := ⟨_, _, fun_mk l22 c22 k22, (fun_mk (st := s_law_mixed) l22 c22 k22).binds (ps := ["_law_dice_here", "_law_items"]) fun _ _ _ _ _ _ us hl => match us, hl with | [_, _], _ => rfl, PySem.W.mg_of X G a22⟩
    d_law_digit_text := ⟨_, _, fun_mk l23 c23 k23, (fun_mk (st := s_law_digit_text) l23 c23 k23).binds (ps := ["_law_digit"]) fun _ _ _ _ _ _ us hl => match us, hl with | [_], _ => rfl, PySem.W.mg_of X G a23⟩
    d_law_made_reader := ⟨_, _, fun_mk l24 c24 k24, (fun_mk (st := s_law_made_reader) l24 c24 k24).binds (ps := ["_law_plain"]) fun _ _ _ _ _ _ us hl => match us, hl with | [_], _ => rfl, PySem.W.mg_of X G a24⟩
    d_law_state_names := ⟨_, _, fun_mk l25 c25 k25, (fun_mk (st := s_law_state_names) l25 c25 k25).binds (ps := ["_law_dice_here", "_law_many"]) fun _ _ _ _ _ _ us hl => match us, hl with | [_, _], _ => rfl, PySem.W.mg_of X G a25⟩
    d_law_all_digits := ⟨_, _, fun_mk l26 c26 k26, (fun_mk (st := s_law_all_digits) l26 c26 k26).binds (ps := ["_law_names"]) fun _ _ _ _ _ _ us hl => match us, hl with | [_], _ => rfl, PySem.W.mg_of X G a26⟩
    d_law_some_digits := ⟨_, _, fun_mk l27 c27 k27, (fun_mk (st := s_law_some_digits) l27 c27 k27).binds (ps := ["_law_dice_here", "_law_most"]) fun _ _ _ _ _ _ us hl => match us, hl with | [_, _], _ => rfl, PySem.W.mg_of X G a27⟩
    d_law_plain_reader := ⟨_, _, fun_mk l28 c28 k28, (fun_mk (st := s_law_plain_reader) l28 c28 k28).binds (ps := ["_law_dice_here", "_law_states", "_law_digits"]) fun _ _ _ _ _ _ us hl => match us, hl with | [_, _, _], _ => rfl, PySem.W.mg_of X G a28⟩
    d_law_reader_lines := ⟨_, _, fun_mk l29 c29 k29, (fun_mk (st := s_law_reader_lines) l29 c29 k29).binds (ps := ["_law_plain"]) fun _ _ _ _ _ _ us hl => match us, hl with | [_], _ => rfl, PySem.W.mg_of X G a29⟩
    d_law_words := ⟨_, _, fun_mk l30 c30 k30, (fun_mk (st := s_law_words) l30 c30 k30).binds (ps := ["_law_digits", "_law_most"]) fun _ _ _ _ _ _ us hl => match us, hl with | [_, _], _ => rfl, PySem.W.mg_of X G a30⟩
    d_law_is_walked := ⟨_, _, fun_mk l31 c31 k31, (fun_mk (st := s_law_is_walked) l31 c31 k31).binds (ps := ["_law_plain", "_law_reader", "_law_word"]) fun _ _ _ _ _ _ us hl => match us, hl with | [_, _, _], _ => rfl, PySem.W.mg_of X G a31⟩
    d_law_long := ⟨_, _, fun_mk l32 c32 k32, (fun_mk (st := s_law_long) l32 c32 k32).binds (ps := ["_law_dice_here", "_law_plain", "_law_digits"]) fun _ _ _ _ _ _ us hl => match us, hl with | [_, _, _], _ => rfl, PySem.W.mg_of X G a32⟩
    c_Reader := ⟨CoReader, { gC := PySem.W.mg_of X G goReader, cl := ⟨pgoReader, hdoReader, pooReader, saoReader⟩, ne := neoReader, ob := oboReader, kit := kioReader, kitT := ktoReader, kitD := kdoReader, ca := caoReader, cg := cgoReader, ct := ctoReader, kitR := kroReader, kitS := ksoReader, kit_NoneType := kNoneTypeoReader, kit_int := kintoReader, kit_bool := kbooloReader, kit_str := kstroReader, kit_list := klistoReader, n_first := n_firstoReader, n_ends := n_endsoReader, n_reads := n_readsoReader, n_states := n_statesoReader, n_spare := n_spareoReader, made := ⟨_, _, ⟨mkoReader, atM0Reader, ifM0Reader, kcoReader⟩, fun_mk (st := s_Reader_init) lM0Reader cM0Reader kM0Reader, (fun_mk (st := s_Reader_init) lM0Reader cM0Reader kM0Reader).binds (ps := ["self", "first", "ends", "reads"]) fun _ _ _ _ _ _ us hl => match us, hl with | [_, _, _, _], _ => rfl⟩, p_first := ⟨_, _, _, ⟨atM2Reader, geM2Reader, taM2Reader, ⟨_, reM2Reader⟩⟩, fun_mk (st := s_Reader_first) lM2Reader cM2Reader kM2Reader, (fun_mk (st := s_Reader_first) lM2Reader cM2Reader kM2Reader).binds (ps := ["self"]) fun _ _ _ _ _ _ us hl => match us, hl with | [_], _ => rfl⟩, p_ends := ⟨_, _, _, ⟨atM3Reader, geM3Reader, taM3Reader, ⟨_, reM3Reader⟩⟩, fun_mk (st := s_Reader_ends) lM3Reader cM3Reader kM3Reader, (fun_mk (st := s_Reader_ends) lM3Reader cM3Reader kM3Reader).binds (ps := ["self"]) fun _ _ _ _ _ _ us hl => match us, hl with | [_], _ => rfl⟩, p_reads := ⟨_, _, _, ⟨atM4Reader, geM4Reader, taM4Reader, ⟨_, reM4Reader⟩⟩, fun_mk (st := s_Reader_reads) lM4Reader cM4Reader kM4Reader, (fun_mk (st := s_Reader_reads) lM4Reader cM4Reader kM4Reader).binds (ps := ["self"]) fun _ _ _ _ _ _ us hl => match us, hl with | [_], _ => rfl⟩, p_states := ⟨_, _, _, ⟨atM5Reader, geM5Reader, taM5Reader, ⟨_, reM5Reader⟩⟩, fun_mk (st := s_Reader_states) lM5Reader cM5Reader kM5Reader, (fun_mk (st := s_Reader_states) lM5Reader cM5Reader kM5Reader).binds (ps := ["self"]) fun _ _ _ _ _ _ us hl => match us, hl with | [_], _ => rfl⟩, p_digits := ⟨_, _, _, ⟨atM6Reader, geM6Reader, taM6Reader, ⟨_, reM6Reader⟩⟩, fun_mk (st := s_Reader_digits) lM6Reader cM6Reader kM6Reader, (fun_mk (st := s_Reader_digits) lM6Reader cM6Reader kM6Reader).binds (ps := ["self"]) fun _ _ _ _ _ _ us hl => match us, hl with | [_], _ => rfl⟩, p_lines := ⟨_, _, _, ⟨atM7Reader, geM7Reader, taM7Reader, ⟨_, reM7Reader⟩⟩, fun_mk (st := s_Reader_lines) lM7Reader cM7Reader kM7Reader, (fun_mk (st := s_Reader_lines) lM7Reader cM7Reader kM7Reader).binds (ps := ["self"]) fun _ _ _ _ _ _ us hl => match us, hl with | [_], _ => rfl⟩, m_behind := ⟨_, _, fun_mk (st := s_Reader_behind) lM9Reader cM9Reader kM9Reader, ⟨atM9Reader, ifM9Reader, kM9Reader⟩, ((fun_mk (st := s_Reader_behind) lM9Reader cM9Reader kM9Reader).binds (ps := ["self", "digits"]) fun _ _ _ _ _ _ us hl => match us, hl with | [_, _], _ => rfl), fn_in lM9Reader⟩, m_takes := ⟨_, _, fun_mk (st := s_Reader_takes) lM10Reader cM10Reader kM10Reader, ⟨atM10Reader, ifM10Reader, kM10Reader⟩, ((fun_mk (st := s_Reader_takes) lM10Reader cM10Reader kM10Reader).binds (ps := ["self", "digits"]) fun _ _ _ _ _ _ us hl => match us, hl with | [_, _], _ => rfl), fn_in lM10Reader⟩, m_least := ⟨_, _, fun_mk (st := s_Reader_least) lM11Reader cM11Reader kM11Reader, ⟨atM11Reader, ifM11Reader, kM11Reader⟩, ((fun_mk (st := s_Reader_least) lM11Reader cM11Reader kM11Reader).binds (ps := ["self"]) fun _ _ _ _ _ _ us hl => match us, hl with | [_], _ => rfl), fn_in lM11Reader⟩, m_len := ⟨_, _, fun_mk (st := s_Reader_len) lM12Reader cM12Reader kM12Reader, ⟨atM12Reader, ifM12Reader, kM12Reader⟩, ((fun_mk (st := s_Reader_len) lM12Reader cM12Reader kM12Reader).binds (ps := ["self"]) fun _ _ _ _ _ _ us hl => match us, hl with | [_], _ => rfl), fn_in lM12Reader⟩, m_eq := ⟨_, _, fun_mk (st := s_Reader_eq) lM13Reader cM13Reader kM13Reader, ⟨atM13Reader, ifM13Reader, kM13Reader⟩, ((fun_mk (st := s_Reader_eq) lM13Reader cM13Reader kM13Reader).binds (ps := ["self", "other"]) fun _ _ _ _ _ _ us hl => match us, hl with | [_, _], _ => rfl), fn_in lM13Reader⟩, m_str := ⟨_, _, fun_mk (st := s_Reader_str) lM14Reader cM14Reader kM14Reader, ⟨atM14Reader, ifM14Reader, kM14Reader⟩, ((fun_mk (st := s_Reader_str) lM14Reader cM14Reader kM14Reader).binds (ps := ["self"]) fun _ _ _ _ _ _ us hl => match us, hl with | [_], _ => rfl), fn_in lM14Reader⟩ }⟩
    g_MAX_LETTERS := ⟨_, PySem.W.mg_of X G m0⟩
    g__TOO_LONG := ⟨_, PySem.W.mg_of X G m1⟩
    g_MAX_DIGIT := ⟨_, PySem.W.mg_of X G m2⟩
    g_LOOSE_DIGIT := ⟨_, PySem.W.mg_of X G m3⟩
    g__LOOSE_RANKS := ⟨_, PySem.W.mg_of X G m4⟩
    g_MAX_STATES := ⟨_, PySem.W.mg_of X G m5⟩
    g_MAX_READS := ⟨_, PySem.W.mg_of X G m6⟩
    b_IndexError := PySem.W.mg_none_of X G z0
    b_ValueError := PySem.W.mg_none_of X G z1
    b_abs := PySem.W.mg_none_of X G z2
    b_all := PySem.W.mg_none_of X G z3
    b_bool := PySem.W.mg_none_of X G z4
    b_classmethod := PySem.W.mg_none_of X G z5
    b_dict := PySem.W.mg_none_of X G z6
    b_enumerate := PySem.W.mg_none_of X G z7
    b_int := PySem.W.mg_none_of X G z8
    b_isinstance := PySem.W.mg_none_of X G z9
    b_len := PySem.W.mg_none_of X G z10
    b_list := PySem.W.mg_none_of X G z11
    b_max := PySem.W.mg_none_of X G z12
    b_min := PySem.W.mg_none_of X G z13
    b_property := PySem.W.mg_none_of X G z14
    b_range := PySem.W.mg_none_of X G z15
    b_repr := PySem.W.mg_none_of X G z16
    b_set := PySem.W.mg_none_of X G z17
    b_sorted := PySem.W.mg_none_of X G z18
    b_str := PySem.W.mg_none_of X G z19
    b_tuple := PySem.W.mg_none_of X G z20 }
  exact ⟨PySem.W.fnOf "law" "law" (defArgs s_law) (defBody s_law) (defScope s_law) .none kV33 dc33 pm33 an33 cd33 ct33, fun s v => .of_eq rfl, fun base _ _ => ok_law (fun_mk (st := s_law) l33 c33 k33) T⟩
end Kl
open PySem PySem.W PyProof.Rows
set_option maxHeartbeats 0 in
theorem PySem.Challenge.cw_linkbooks_k19_whole_rows_taken_holds : PySem.Challenge.rw_linkbooks_k19_whole_rows_taken.Holds := by
  w_on; o_law; k_head; (case hw => w_witness2)
  k_fill
  refine Gx.walkG (l := PySem.Challenge.rw_linkbooks_k19_whole_rows_taken) (n := 63) (k := 13) (x := "_law_script") (CX := fun _ => L2.CX0) (sp := fun w => Kl.spLaw _) rfl (by decide) rfl ⟨rfl, by decide, by decide⟩ (fun w h Y => PySem.W.kIn_of Y) ?F (fun _ _ a ns hl _ hS => ⟨a, ns, rfl, hS, hl, fun _ => rfl⟩) (fun _ _ _ _ _ h => h)
  case F =>
    intro w mg fa h KX G hmg
    refine' Kl.all_mk KX G hmg ?gy0 ?hy0 ?ty0 ?iy0 ?ky0 ?by0 ?wy0 ?xy0 ?ry0 ?zy0 ?a0 ?l0 ?c0 ?k0 ?a1 ?l1 ?c1 ?k1 ?a2 ?l2 ?c2 ?k2 ?a3 ?l3 ?c3 ?k3 ?a4 ?l4 ?c4 ?k4 ?a5 ?l5 ?c5 ?k5 ?a6 ?l6 ?c6 ?k6 ?a7 ?l7 ?c7 ?k7 ?a8 ?l8 ?c8 ?k8 ?a9 ?l9 ?c9 ?k9 ?a10 ?l10 ?c10 ?k10 ?a11 ?l11 ?c11 ?k11 ?a12 ?l12 ?c12 ?k12 ?a13 ?l13 ?c13 ?k13 ?a14 ?l14 ?c14 ?k14 ?a15 ?l15 ?c15 ?k15 ?a16 ?l16 ?c16 ?k16 ?a17 ?l17 ?c17 ?k17 ?a18 ?l18 ?c18 ?k18 ?a19 ?l19 ?c19 ?k19 ?a20 ?l20 ?c20 ?k20 ?a21 ?l21 ?c21 ?k21 ?a22 ?l22 ?c22 ?k22 ?a23 ?l23 ?c23 ?k23 ?a24 ?l24 ?c24 ?k24 ?a25 ?l25 ?c25 ?k25 ?a26 ?l26 ?c26 ?k26 ?a27 ?l27 ?c27 ?k27 ?a28 ?l28 ?c28 ?k28 ?a29 ?l29 ?c29 ?k29 ?a30 ?l30 ?c30 ?k30 ?a31 ?l31 ?c31 ?k31 ?a32 ?l32 ?c32 ?k32 ?a33 ?l33 ?c33 ?k33 ?goReader ?pgoReader ?hdoReader ?pooReader ?saoReader ?mkoReader ?kcoReader ?neoReader ?oboReader ?kioReader ?ktoReader ?kdoReader ?kroReader ?ksoReader ?kNoneTypeoReader ?kintoReader ?kbooloReader ?kstroReader ?klistoReader ?caoReader ?cgoReader ?ctoReader ?n_firstoReader ?n_endsoReader ?n_readsoReader ?n_statesoReader ?n_spareoReader ?atM0Reader ?ifM0Reader ?lM0Reader ?cM0Reader ?kM0Reader ?atM2Reader ?geM2Reader ?taM2Reader ?reM2Reader ?lM2Reader ?cM2Reader ?kM2Reader ?atM3Reader ?geM3Reader ?taM3Reader ?reM3Reader ?lM3Reader ?cM3Reader ?kM3Reader ?atM4Reader ?geM4Reader ?taM4Reader ?reM4Reader ?lM4Reader ?cM4Reader ?kM4Reader ?atM5Reader ?geM5Reader ?taM5Reader ?reM5Reader ?lM5Reader ?cM5Reader ?kM5Reader ?atM6Reader ?geM6Reader ?taM6Reader ?reM6Reader ?lM6Reader ?cM6Reader ?kM6Reader ?atM7Reader ?geM7Reader ?taM7Reader ?reM7Reader ?lM7Reader ?cM7Reader ?kM7Reader ?atM9Reader ?ifM9Reader ?lM9Reader ?cM9Reader ?kM9Reader ?atM10Reader ?ifM10Reader ?lM10Reader ?cM10Reader ?kM10Reader ?atM11Reader ?ifM11Reader ?lM11Reader ?cM11Reader ?kM11Reader ?atM12Reader ?ifM12Reader ?lM12Reader ?cM12Reader ?kM12Reader ?atM13Reader ?ifM13Reader ?lM13Reader ?cM13Reader ?kM13Reader ?atM14Reader ?ifM14Reader ?lM14Reader ?cM14Reader ?kM14Reader ?m0 ?m1 ?m2 ?m3 ?m4 ?m5 ?m6 ?z0 ?z1 ?z2 ?z3 ?z4 ?z5 ?z6 ?z7 ?z8 ?z9 ?z10 ?z11 ?z12 ?z13 ?z14 ?z15 ?z16 ?z17 ?z18 ?z19 ?z20
    (case gy0 => k_is); (case hy0 => k_is); (case ty0 => decide +kernel); (case iy0 => k_is); (case ky0 => k_is); (case by0 => k_is); (case wy0 => k_is); (case xy0 => k_is); (case ry0 => first | rfl | k_is); (case zy0 => kernel_rfl); (case a0 => k_is); (case l0 => k_is); (case c0 => k_is); (case k0 => k_is); (case a1 => k_is); (case l1 => k_is); (case c1 => k_is); (case k1 => k_is); (case a2 => k_is); (case l2 => k_is); (case c2 => k_is); (case k2 => k_is); (case a3 => k_is); (case l3 => k_is); (case c3 => k_is); (case k3 => k_is); (case a4 => k_is); (case l4 => k_is); (case c4 => k_is); (case k4 => k_is); (case a5 => k_is); (case l5 => k_is); (case c5 => k_is); (case k5 => k_is); (case a6 => k_is); (case l6 => k_is); (case c6 => k_is); (case k6 => k_is); (case a7 => k_is); (case l7 => k_is); (case c7 => k_is); (case k7 => k_is); (case a8 => k_is); (case l8 => k_is); (case c8 => k_is); (case k8 => k_is); (case a9 => k_is); (case l9 => k_is); (case c9 => k_is); (case k9 => k_is); (case a10 => k_is); (case l10 => k_is); (case c10 => k_is); (case k10 => k_is); (case a11 => k_is); (case l11 => k_is); (case c11 => k_is); (case k11 => k_is); (case a12 => k_is); (case l12 => k_is); (case c12 => k_is); (case k12 => k_is); (case a13 => k_is); (case l13 => k_is); (case c13 => k_is); (case k13 => k_is); (case a14 => k_is); (case l14 => k_is); (case c14 => k_is); (case k14 => k_is); (case a15 => k_is); (case l15 => k_is); (case c15 => k_is); (case k15 => k_is); (case a16 => k_is); (case l16 => k_is); (case c16 => k_is); (case k16 => k_is); (case a17 => k_is); (case l17 => k_is); (case c17 => k_is); (case k17 => k_is); (case a18 => k_is); (case l18 => k_is); (case c18 => k_is); (case k18 => k_is); (case a19 => k_is); (case l19 => k_is); (case c19 => k_is); (case k19 => k_is); (case a20 => k_is); (case l20 => k_is); (case c20 => k_is); (case k20 => k_is); (case a21 => k_is); (case l21 => k_is); (case c21 => k_is); (case k21 => k_is); (case a22 => k_is); (case l22 => k_is); (case c22 => k_is); (case k22 => k_is); (case a23 => k_is); (case l23 => k_is); (case c23 => k_is); (case k23 => k_is); (case a24 => k_is); (case l24 => k_is); (case c24 => k_is); (case k24 => k_is); (case a25 => k_is); (case l25 => k_is); (case c25 => k_is); (case k25 => k_is); (case a26 => k_is); (case l26 => k_is); (case c26 => k_is); (case k26 => k_is); (case a27 => k_is); (case l27 => k_is); (case c27 => k_is); (case k27 => k_is); (case a28 => k_is); (case l28 => k_is); (case c28 => k_is); (case k28 => k_is); (case a29 => k_is); (case l29 => k_is); (case c29 => k_is); (case k29 => k_is); (case a30 => k_is); (case l30 => k_is); (case c30 => k_is); (case k30 => k_is); (case a31 => k_is); (case l31 => k_is); (case c31 => k_is); (case k31 => k_is); (case a32 => k_is); (case l32 => k_is); (case c32 => k_is); (case k32 => k_is); (case a33 => k_is); (case l33 => k_is); (case c33 => k_is); (case k33 => k_is); (case goReader => k_is); (case pgoReader => k_is); (case hdoReader => k_is); (case pooReader => k_is); (case saoReader => k_is); (case mkoReader => k_is); (case kcoReader => k_is); (case neoReader => k_is); (case oboReader => k_is); (case kioReader => first | rfl | k_is); (case ktoReader => first | rfl | k_is); (case kdoReader => first | rfl | k_is); (case kroReader => first | rfl | k_is); (case ksoReader => first | rfl | k_is); (case kNoneTypeoReader => first | rfl | k_is); (case kintoReader => first | rfl | k_is); (case kbooloReader => first | rfl | k_is); (case kstroReader => first | rfl | k_is); (case klistoReader => first | rfl | k_is); (case caoReader => k_is); (case cgoReader => k_is); (case ctoReader => k_is); (case n_firstoReader => k_is); (case n_endsoReader => k_is); (case n_readsoReader => k_is); (case n_statesoReader => k_is); (case n_spareoReader => k_is); (case atM0Reader => k_is); (case ifM0Reader => k_is); (case lM0Reader => k_is); (case cM0Reader => k_is); (case kM0Reader => k_is); (case atM2Reader => k_is); (case geM2Reader => k_is); (case taM2Reader => k_is); (case reM2Reader => k_is); (case lM2Reader => k_is); (case cM2Reader => k_is); (case kM2Reader => k_is); (case atM3Reader => k_is); (case geM3Reader => k_is); (case taM3Reader => k_is); (case reM3Reader => k_is); (case lM3Reader => k_is); (case cM3Reader => k_is); (case kM3Reader => k_is); (case atM4Reader => k_is); (case geM4Reader => k_is); (case taM4Reader => k_is); (case reM4Reader => k_is); (case lM4Reader => k_is); (case cM4Reader => k_is); (case kM4Reader => k_is); (case atM5Reader => k_is); (case geM5Reader => k_is); (case taM5Reader => k_is); (case reM5Reader => k_is); (case lM5Reader => k_is); (case cM5Reader => k_is); (case kM5Reader => k_is); (case atM6Reader => k_is); (case geM6Reader => k_is); (case taM6Reader => k_is); (case reM6Reader => k_is); (case lM6Reader => k_is); (case cM6Reader => k_is); (case kM6Reader => k_is); (case atM7Reader => k_is); (case geM7Reader => k_is); (case taM7Reader => k_is); (case reM7Reader => k_is); (case lM7Reader => k_is); (case cM7Reader => k_is); (case kM7Reader => k_is); (case atM9Reader => k_is); (case ifM9Reader => k_is); (case lM9Reader => k_is); (case cM9Reader => k_is); (case kM9Reader => k_is); (case atM10Reader => k_is); (case ifM10Reader => k_is); (case lM10Reader => k_is); (case cM10Reader => k_is); (case kM10Reader => k_is); (case atM11Reader => k_is); (case ifM11Reader => k_is); (case lM11Reader => k_is); (case cM11Reader => k_is); (case kM11Reader => k_is); (case atM12Reader => k_is); (case ifM12Reader => k_is); (case lM12Reader => k_is); (case cM12Reader => k_is); (case kM12Reader => k_is); (case atM13Reader => k_is); (case ifM13Reader => k_is); (case lM13Reader => k_is); (case cM13Reader => k_is); (case kM13Reader => k_is); (case atM14Reader => k_is); (case ifM14Reader => k_is); (case lM14Reader => k_is); (case cM14Reader => k_is); (case kM14Reader => k_is); (case m0 => k_is); (case m1 => k_is); (case m2 => k_is); (case m3 => k_is); (case m4 => k_is); (case m5 => k_is); (case m6 => k_is); (case z0 => k_is); (case z1 => k_is); (case z2 => k_is); (case z3 => k_is); (case z4 => k_is); (case z5 => k_is); (case z6 => k_is); (case z7 => k_is); (case z8 => k_is); (case z9 => k_is); (case z10 => k_is); (case z11 => k_is); (case z12 => k_is); (case z13 => k_is); (case z14 => k_is); (case z15 => k_is); (case z16 => k_is); (case z17 => k_is); (case z18 => k_is); (case z19 => k_is); (case z20 => k_is)
