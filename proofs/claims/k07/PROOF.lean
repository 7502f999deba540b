import PyProof.Rows.All
import Wide.All
import OpenK.AllK
import Wide.FinOn
import PyProof.Rows.StrCountLaw
import HandS.ForMost
import HandS.Wide
import HandS.IsInst
import HandS.StrMore
import HandS.Style
import PyProof.ReprReads
import HandS.Ends
import PyProof.ReprRoads
import PyProof.Rows.SortShellAny
import PyProof.TupleOfSeq
import KE.KExcInit
import HandS.ForExc
import HandS.TryMany
import HandS.Defaults
import KE.KCallOwn
import KE.KEqDict
import PyProof.InstEq
import HandS.Base
import HandS.Call
import HandS.List
import HandS.Dict
import HandS.More
import HandS.Comp
import HandS.Words
import HandS.Property
import PyProof.Rows.SetFrom
import HandS.Set
import HandS.Deep
import HandS.ExcValue
import KE.KExcMake
import KE.KExcIs
import HandS.Walk
import HandS.FStr
import HandS.DictComp
import HandS.ListItems
import HandS.TupAny
import HandS.Star
import HandS.Strs
import HandS.ReCall
import HandS.HotCalls
import HandS.Lambda
import HandS.EndBits
import KE.KNest
import HandS.Small
import PyProof.Rows.RegFStrParts
import HandS.SetBool
import PyProof.SetRoads
import HandS.WordsDict
import HandS.Sort
import KE.KDictList
import KE.KExcLine
import PySem.Challenge.RW_linkbooks_k07_errors_of_kinds
set_option Elab.async false
set_option linter.all false
set_option maxRecDepth 100000
set_option maxHeartbeats 4000000
namespace Gx
open PySem PySem.Spec PyProof.Rows L2
/-! ### rules of my own, over any program -/
section
variable {X : Cx}
/-- repr of a truth -/
theorem call_repr_bl : CallR X (.builtin "repr") (fun xs H Q => ∃ b : Bool, xs = [.bl b] ∧ Q (.str (if b then "True" else "False")) H) := by
  intro pins s σ H xs us Q I r h
  obtain ⟨b, rfl, q⟩ := h
  obtain ⟨u, rfl, rx⟩ := vals1 r
  cases (show u = Value.bool b from rx)
  exact PySem.P.repr_of_bool ⟨.str _, H, I.tok _, ⟨_, rfl⟩, q⟩
/-- the signs of a text, a text each -/
def signV (x : Str) : List V := x.cps.toList.map fun c => V.str ⟨#[c]⟩
theorem vals_signs {x : Str} {acc : Array Value} (h : ItemsOf (SignAt x) acc x.cps.size) : Vals (signV x) acc.toList := by
  have key : ∀ (l : List Nat) (vs : List Value), vs.length = l.length → (∀ (j : Nat) (v : Value), vs[j]? = some v → ∃ (c : Nat) (u : Tok), l[j]? = some c ∧ v = Value.str ⟨#[c]⟩ u) → Vals (l.map fun c => V.str ⟨#[c]⟩) vs := by
    intro l
    induction l with
    | nil =>
      intro vs hl _
      cases vs with
      | nil => exact .nil
      | cons a r => cases hl
    | cons c l ih =>
      intro vs hl hv
      cases vs with
      | nil => cases hl
      | cons v vs =>
        obtain ⟨c', u, e1, e2⟩ := hv 0 v rfl
        have e1' : c = c' := Option.some.inj e1
        subst e1'
        exact .cons ⟨u, e2⟩ (ih vs (Nat.succ.inj hl) fun j w hw => hv (j + 1) w hw)
  refine key x.cps.toList acc.toList (by rw [Array.length_toList, Array.length_toList]; exact h.1) fun j v hv => ?_
  obtain ⟨c, u, hc, e⟩ := h.2 j v (by simpa using hv)
  exact ⟨c, u, by simpa using hc, e⟩
/-- list(text) -/
theorem call_list_text (hc : X.calm = true) : CallR X (.type "list") (fun xs H Q => ∃ x : Str, xs = [.str x] ∧ x.length ≤ sizeLine ∧ ∀ l, H l = none → Q (.ref l) (upd H l (.lst (signV x)))) := by
  intro pins s σ H xs us Q I r h
  obtain ⟨x, rfl, hz, q⟩ := h
  obtain ⟨u, rfl, t, rfl⟩ := vals1 r
  refine PySem.call_list_str (I.ok.hd hc) x t (fun h' tk acc' c' kp e ha => ?_) hz
  have hv := vals_signs ha
  refine ⟨.ref s.heap.objs.size, _, I.laid (t' := tk) kp (Nat.le_refl _) (show ObjOk X.prog X.w _ h' _ (.lst (signV x)) from ⟨?_, acc'.toList, c', hv, by simpa using e⟩), rfl, q _ (I.hok.fresh (Nat.le_refl _))⟩
  rw [hv.length, Array.length_toList]
  have := ha.1
  rw [this]
  exact hz
/-- tuple(text) -/
theorem call_tuple_text (hc : X.calm = true) : CallR X (.type "tuple") (fun xs H Q => ∃ x : Str, xs = [.str x] ∧ x.length ≤ sizeLine ∧ ∀ l, H l = none → Q (.ref l) (upd H l (.tup (signV x)))) := by
  intro pins s σ H xs us Q I r h
  obtain ⟨x, rfl, hz, q⟩ := h
  obtain ⟨u, rfl, t, rfl⟩ := vals1 r
  refine PySem.call_tuple_str (I.ok.hd hc) x t (fun h' tk acc kp ha => ?_) hz
  have hv := vals_signs ha
  have I1 : Inv X pins σ H { s with heap := h', toks := tk } := I.kept (t' := tk) kp
  have hlen : (signV x).length ≤ sizeLine := by
    rw [hv.length, Array.length_toList]
    have := ha.1
    rw [this]
    exact hz
  have I2 : Inv X pins σ (upd H h'.objs.size (.tup (signV x))) { s with heap := h'.push { cls := .type "tuple", data := .seq acc }, toks := tk } :=
    I1.laid (t' := tk) (fun b o e => Heap.get?_push_of_some _ e) (Nat.le_refl _) (show ObjOk X.prog X.w _ _ _ (.tup (signV x)) from ⟨hlen, acc.toList, hv, by simpa using IsTup.new _ _⟩)
  exact ⟨.ref h'.objs.size, _, I2, rfl, q _ (I1.hok.fresh (Nat.le_refl _))⟩
/-- text * k -/
theorem op_mul_text : OpR X (binaryOp .Mult) (fun x y H Q => ∃ (a : Str) (n : Int), x = .str a ∧ y = .int n ∧ MulOk a n ∧ Q (.str (Txt.mul a n)) H) := by
  intro pins s σ H x y v u Q I rx ry h
  obtain ⟨a, n, rfl, rfl, hz, q⟩ := h
  obtain ⟨t, rfl⟩ := rx
  obtain ⟨t', rfl⟩ := ry
  exact SB.mul hz fun t' k => ⟨.str _, H, I.tok _, ⟨_, rfl⟩, q⟩
end
theorem mulOk_small {a : Str} {n : Int} (h1 : 2 ≤ n) (h2 : n ≤ 1000) (ha : a.length ≤ 1000) : MulOk a n := by
  refine ⟨?_, fun _ _ => ?_, fun _ _ => ?_⟩
  · rw [Bool.or_eq_false_iff]
    exact ⟨decide_eq_false (by omega), decide_eq_false (by omega)⟩
  · have : (1000 : Int) ≤ (2 ^ 63 - 1) / n := by
      refine (Int.le_ediv_iff_mul_le (by omega)).mpr ?_
      have : (1000 : Int) * n ≤ 1000 * 1000 := Int.mul_le_mul_of_nonneg_left h2 (by decide)
      omega
    omega
  · unfold Builtin.Str.tooLong
    refine decide_eq_false ?_
    have h3 : a.length * n.toNat ≤ 1000 * 1000 := Nat.mul_le_mul ha (by omega)
    rw [sizeLine_eq]
    omega

/-! ### defs of the top, and what they promise -/
/-- the def st stands at the top under its name -/
def Def (K : PySem.W.Frag) (mg : Str → Option Value) (x qual : Str) (st : Stmt) (ps : List Str) : Prop :=
  ∃ (f : Addr) (fd : FuncData), Fun K x qual st f fd ∧ Binds K fd ps [] ∧ mg x = some (.ref f)
/-- the name x is a def that keeps the promise sp, by at most level k -/
def Cal (P : Program) (w : World) (K : PySem.W.Frag) (mg : Str → Option Value) (base : Heap) (k : Nat) (x : Str) (ps : List Str) (sp : Sp) : Prop :=
  ∃ (f : Addr) (fd : FuncData), FnOk P w K mg base CX0 k f fd ps sp ∧ PySem.W.keepIn K (.ref f) = true ∧ Binds K fd ps [] ∧ mg x = some (.ref f)
section
variable {P : Program} {w : World} {K : PySem.W.Frag} {mg : Str → Option Value} {base : Heap}
theorem Cal.mono {j k : Nat} {x : Str} {ps : List Str} {sp : Sp} (c : Cal P w K mg base j x ps sp) (h : j ≤ k) : Cal P w K mg base k x ps sp := by
  obtain ⟨f, fd, F, kp, b, g⟩ := c
  exact ⟨f, fd, F.mono h, kp, b, g⟩
theorem Cal.imp {k : Nat} {x : Str} {ps : List Str} {sp sp' : Sp} (c : Cal P w K mg base k x ps sp) (h : ∀ vs H Q E, sp' vs H Q E → sp vs H Q E) : Cal P w K mg base k x ps sp' := by
  obtain ⟨f, fd, F, kp, b, g⟩ := c
  exact ⟨f, fd, F.imp h, kp, b, g⟩
theorem Def.cal {x qual : Str} {st : Stmt} {ps : List Str} (d : Def K mg x qual st ps) {k : Nat} {sp : Sp} (h : ∀ f fd, Fun K x qual st f fd → FnOk P w K mg base CX0 k f fd ps sp) : Cal P w K mg base k x ps sp := by
  obtain ⟨f, fd, F, b, g⟩ := d
  exact ⟨f, fd, h f fd F, F.kp, b, g⟩
end
section
variable {X : Cx}
/-- f(..), without the empty list of defaults -/
def tCl (sp : Sp) (t : TA) : TE := fun σ H Q => t σ H fun vs H1 => sp vs H1 Q E0
theorem tCl_eq (sp : Sp) (t : TA) : tCall sp [] E0 t = tCl sp t := by
  funext σ H Q
  show t σ H _ = t σ H _
  congr 1
  funext vs H1
  rw [List.append_nil]
theorem pe_cal {x : Str} {ps : List Str} {sp : Sp} {k : Nat} {e : Expr} {es : List Expr} {t : TA} {p pos : Pos} (c : Cal X.prog X.w X.K X.mg X.base k x ps sp) (hr : Room k X.A) (hg : Gl X x) (h : PA X (e :: es) t)
    (hdb : (x == ("__debug__" : Str)) = false := by decide) (he : starEach (e :: es) X.env = (false, eval e X.env) :: starEach es X.env := by rfl) (hpl : (backTo pos (starEach es X.env)).any (·.1) = false := by rfl) :
    PE X (.Call (.Name x p) (e :: es) [] pos) (tCl sp t) := by
  obtain ⟨f, fd, F, kp, b, g⟩ := c
  rw [← tCl_eq]
  exact pe_call F hr hg g kp b .nil pass0 h hdb he hpl
theorem pe_cal0 {x : Str} {ps : List Str} {sp : Sp} {k : Nat} {p pos : Pos} (c : Cal X.prog X.w X.K X.mg X.base k x ps sp) (hr : Room k X.A) (hg : Gl X x)
    (hdb : (x == ("__debug__" : Str)) = false := by decide) : PE X (.Call (.Name x p) [] [] pos) (tCl sp tNil) := by
  obtain ⟨f, fd, F, kp, b, g⟩ := c
  rw [← tCl_eq]
  exact pe_call0 F hr hg g kp b .nil pass0 hdb
end
/-- a statement, then the rest, with a word between them: what follows is shown once -/
def tCut (t u : TS) : TS := fun D σ H => ∃ Mid : L2.St → Hp → Prop, t { D with nx := Mid } σ H ∧ ∀ σ' H', Mid σ' H' → u D σ' H'
section
variable {X : Cx}
theorem pss_cut {st : Stmt} {rest : List Stmt} {t u : TS} (h1 : PS X st t) (h2 : PSs X rest u) : PSs X (st :: rest) (tCut t u) := by
  refine ⟨fun pins s σ H D I h => ?_⟩
  obtain ⟨Mid, hm, hu⟩ := h
  refine wpAny_execs_cons (thn (h1.run pins s σ H { D with nx := Mid } I hm) fun f s1 q => ?_)
  cases f with
  | next =>
    obtain ⟨σ', H', I', q⟩ := q
    exact h2.run pins s1 σ' H' D I' (hu σ' H' q)
  | ret v => exact q
  | brk => exact q
  | cont => exact q
end
theorem sqL_ne {K : PySem.W.Frag} {H : Hp} {a d : Addr} {o : HO} {xs : List V} (n : a ≠ d) (h : SqL K H a xs) : SqL K (upd H d o) a xs := by
  rcases h with (h | ⟨u, h⟩) | h
  · exact .inl (.inl (by rw [upd_ne n]; exact h))
  · exact .inl (.inr ⟨u, by rw [upd_ne n]; exact h⟩)
  · exact .inr h
theorem sqT_ne {K : PySem.W.Frag} {H : Hp} {a d : Addr} {o : HO} {xs : List V} (n : a ≠ d) (h : SqT K H a xs) : SqT K (upd H d o) a xs := by
  rcases h with (h | ⟨u, h⟩) | h
  · exact .inl (.inl (by rw [upd_ne n]; exact h))
  · exact .inl (.inr ⟨u, by rw [upd_ne n]; exact h⟩)
  · exact .inr h
theorem atI_int {α : Type} {xs : List α} {r : Int} (h0 : 0 ≤ r) (h1 : r < xs.length) : ∃ v, v ∈ xs ∧ atI xs r = some v := by
  obtain ⟨k, rfl⟩ := Int.eq_ofNat_of_zero_le h0
  have hk : k < xs.length := by omega
  exact ⟨xs[k], List.getElem_mem hk, atI_nat (List.getElem?_eq_getElem hk)⟩
theorem signV_len (z : Str) : (signV z).length = z.length := by
  unfold signV
  rw [List.length_map, Array.length_toList]
  rfl
/-- for c in text -/
theorem for_str {x : Str} {g : TG} {tb : TS} {D : Ends} {σ : L2.St} {H : Hp} (Pv : Nat → L2.St → Hp → Prop) (h0 : Pv 0 σ H)
    (hs : ∀ (i c : Nat) (σ : L2.St) (H : Hp), x.cps.toList[i]? = some c → Pv i σ H → g (.str ⟨#[c]⟩) σ H fun σ2 H2 => tb { D with nx := Pv (i + 1), ct := Pv (i + 1), bk := D.nx } σ2 H2) (hd : ∀ σ H, Pv x.cps.size σ H → D.nx σ H) :
    ∃ W : Nat → Nat → L2.St → Hp → Prop, (∃ m, W 0 m σ H) ∧ ∀ i m σ H, W i m σ H →
      ((Its x).stop i H ∧ D.nx σ H) ∨ ((Its x).go i H ∧ ∃ N : L2.St → Hp → Prop, (∀ σ' H', N σ' H' → ∃ m', m' < m ∧ W (i + 1) m' σ' H') ∧ ∀ v H', (Its x).yld i H v H' → g v σ H' fun σ2 H2 => tb { D with nx := N, ct := N, bk := D.nx } σ2 H2) := by
  refine ⟨fun i m σ H => m = x.cps.size - i ∧ i ≤ x.cps.size ∧ Pv i σ H, ⟨x.cps.size, by simp, Nat.zero_le _, h0⟩, ?_⟩
  rintro i m σ H ⟨rfl, hi, p⟩
  by_cases hlt : i < x.cps.size
  · refine .inr ⟨hlt, Pv (i + 1), fun σ' H' p' => ⟨x.cps.size - (i + 1), by omega, rfl, hlt, p'⟩, fun v H' y => ?_⟩
    obtain ⟨e, c, hc, ev⟩ := y
    subst e ev
    exact hs i c σ _ (by simpa using hc) p
  · have e : i = x.cps.size := by omega
    subst e
    exact .inl ⟨Nat.le_refl _, hd σ H p⟩
theorem decI (a b : Int) : decide (V.int a = V.int b) = decide (a = b) := decide_eq_decide.mpr ⟨V.int.inj, fun e => e ▸ rfl⟩
theorem decS (a b : Str) : decide (V.str a = V.str b) = decide (a = b) := decide_eq_decide.mpr ⟨V.str.inj, fun e => e ▸ rfl⟩
theorem app_len (a b : Str) : (a ++ b).length = a.length + b.length := by
  show (a.cps ++ b.cps).size = _
  rw [Array.size_append]
  rfl
/-- texts of one sign each, joined by nothing -/
theorem join_one {e : Str} (he : e.length = 0) : ∀ zs : List Str, (∀ z ∈ zs, z.length = 1) → (Txt.join e zs).length = zs.length := by
  have key : ∀ zs : List Str, (∀ z ∈ zs, z.length = 1) → (Str.join e zs).length = zs.length := by
    intro zs
    induction zs with
    | nil => intro _; rfl
    | cons x r ih =>
      intro h
      cases r with
      | nil => exact h x (List.mem_cons_self ..)
      | cons y r =>
        show (x ++ e ++ Str.join e (y :: r)).length = _
        rw [app_len, app_len, he, ih fun z hz => h z (List.mem_cons_of_mem _ hz), h x (List.mem_cons_self ..), List.length_cons (a := x)]
        omega
  intro zs h
  rw [TL.join_eq]
  exact key zs h
theorem sum_ones : ∀ zs : List Str, (∀ z ∈ zs, z.length = 1) → (zs.map (·.length)).sum = zs.length
  | [], _ => rfl
  | x :: r, h => by
    rw [List.map_cons, List.sum_cons, sum_ones r fun z hz => h z (List.mem_cons_of_mem _ hz), h x (List.mem_cons_self ..), List.length_cons]
    omega
theorem mul_len {a : Str} {n : Int} (h1 : 2 ≤ n) (ha : 1 ≤ a.length) : (Txt.mul a n).length = a.length * n.toNat := by
  unfold Txt.mul
  rw [if_neg (by omega)]
  have e1 : (n == 1) = false := by rw [beq_eq_false_iff_ne]; omega
  have e2 : (a.length == 0) = false := by rw [beq_eq_false_iff_ne]; omega
  rw [e1, e2, if_neg (by decide)]
  have key : ∀ (k : Nat) (acc : Array Nat), ((List.replicate k a.cps).foldl (· ++ ·) acc).size = acc.size + k * a.cps.size := by
    intro k
    induction k with
    | zero => intro acc; show acc.size = _; omega
    | succ k ih =>
      intro acc
      rw [List.replicate_succ, List.foldl_cons, ih, Array.size_append, Nat.succ_mul]
      omega
  show ((List.replicate n.toNat a.cps).foldl (· ++ ·) #[]).size = a.cps.size * n.toNat
  rw [key, Nat.mul_comm]
  show 0 + _ = _
  omega
theorem same_at {H H' : Hp} {p : Addr} {o : HO} (n : H p = none) (s : Same H H') : Same H (upd H' p o) := fun b u e => by
  rw [upd_ne (ne_of_none e n)]
  exact s b u e
/-- the three numbers of some dice -/
def DiceAt (H : Hp) (d : Addr) : Prop := ∃ x b c : Int, H d = some (.lst [.int x, .int b, .int c])
end Gx

set_option maxRecDepth 100000
set_option maxHeartbeats 4000000
namespace Gx
open PySem PySem.Spec PyProof.Rows L2
/-! ### promises that hold where no repr is under way -/
/-- no repr is under way -/
abbrev Gd (A : Around) : Prop := A.guards = some []
structure FnG (P : Program) (w : World) (K : PySem.W.Frag) (mg : Str → Option Value) (base : Heap) (CX : CXT) (k : Nat) (f : Addr) (fd : FuncData) (ps : List Str) (sp : Sp) : Prop where
  len : ∀ vs H Q E, sp vs H Q E → vs.length = ps.length
  run : ∀ (A : Around) (outer : List Env) (s : Shared) (H : Hp) (args : Args) (us : List Value) (vs : List V) (Q : VK) (E : XK),
    Gd A → Room k A → Env0 P w K mg base A outer s H → BindsTo s fd args (ps.zip us) → Vals vs us → sp vs H Q E →
      codeAny (model P w) A (.call (.ref f) args) (CR CX outer P w H s Q E) s
section
variable {P : Program} {w : World} {K : PySem.W.Frag} {mg : Str → Option Value} {base : Heap} {CX : CXT} {k : Nat} {f : Addr} {fd : FuncData} {ps : List Str} {sp : Sp}
theorem fnG_of (F : FnOk P w K mg base CX k f fd ps sp) : FnG P w K mg base CX k f fd ps sp := ⟨F.len, fun A outer s H args us vs Q E _ => F.run A outer s H args us vs Q E⟩
theorem FnG.up {j : Nat} (F : FnG P w K mg base CX j f fd ps sp) (h : j ≤ k) : FnG P w K mg base CX k f fd ps sp :=
  ⟨F.len, fun A outer s H args us vs Q E g hr => F.run A outer s H args us vs Q E g (hr.mono h)⟩
theorem FnG.less {sp' : Sp} (F : FnG P w K mg base CX k f fd ps sp) (h : ∀ vs H Q E, sp' vs H Q E → sp vs H Q E) : FnG P w K mg base CX k f fd ps sp' :=
  ⟨fun vs H Q E q => F.len vs H Q E (h vs H Q E q), fun A outer s H args us vs Q E g hr he hb hv hs => F.run A outer s H args us vs Q E g hr he hb hv (h vs H Q E hs)⟩
end
/-- a def by its body, where no repr is under way -/
theorem fnG_body {CX : CXT} {P : Program} {w : World} {K : PySem.W.Frag} {mg : Str → Option Value} {base : Heap} {k : Nat} {f : Addr} {nm ql : Str} {prm : Arguments} {bd : List Stmt} {sc : Scope}
    {dv kv dc pm cd ct oc : Value} {an od : Option Addr} {sl : Array (Option Value)} {N ps : List Str} {sp : Sp}
    (look : K.lookup f = some ⟨oc, od, .func (PySem.W.fnOf nm ql prm bd sc dv kv dc pm an cd ct), sl⟩) (hcode : PySem.W.codeIn K cd ql = true) (S : FnScope N ps sc)
    (hlen : ∀ vs H Q E, sp vs H Q E → vs.length = ps.length)
    (hb : ∀ (A : Around) (outer : List Env) (s : Shared) (H : Hp) (vs : List V) (Q : VK) (E : XK), Gd A → Room k (A.deeper (envOfC ql sc s.heap.objs.size f cd)) → sp vs H Q E →
      ∃ t, PSs (cxOf CX P w K mg base N ql sc f cd A outer s H E) bd t ∧ t { nx := fun _ H' => Q .non H', rt := Q } (start N vs) H) :
    FnG P w K mg base CX (k + 1) f (PySem.W.fnOf nm ql prm bd sc dv kv dc pm an cd ct) ps sp := by
  constructor
  · exact hlen
  · intro A outer s H args us vs Q E g room env bind rel want
    have inS : K.In s.heap := env.mod.kin.keeps fun b o e => (env.bs b o e).1
    have noLim : s.heap.NoLimit := env.mod.nolimit.keeps fun b o e => (env.bs b o e).1
    have kinds : ∀ y ∈ ps.zip us, sc.names.lookup y.1 = some .local ∨ (sc.names.lookup y.1 = some .cell ∧ ((cellsFrom (s.heap.objs.size + 1) sc.names []).lookup y.1).isSome = true) := by
      rintro ⟨n, v⟩ hy
      rcases S.par n (List.of_mem_zip hy).1 with q | q
      · exact Or.inl q
      · exact Or.inr ⟨q, PySem.W.cellsFrom_some _ _ _ (Or.inl q)⟩
    refine codeAny_call_function room.depth (inS _ _ look) rfl S.co S.gen rfl (PySem.W.codeRec_of inS hcode)
      (bind _ _ _ _ (wpAny_newFunctionEnv_cells S.kind kinds fun env' he s1 made => ?_))
    subst he
    refine ⟨noLim.keeps made.toInCall.keep, codeAny_func ?_⟩
    obtain ⟨t, ht, hq⟩ := hb A outer s H vs Q E g (room.deeper _) want
    have I0 := inv_start (CX := CX) (E := E) (N := N) S room.hd env (hlen _ _ _ _ want) rel made
    refine wpAny_mono (ht.run [] s1 (start N vs) H _ I0 hq) ?_ (fun e s' hs => hs)
    intro fl s' hs
    cases fl with
    | brk =>
      obtain ⟨_, _, _, no⟩ := hs
      exact no.elim
    | cont =>
      obtain ⟨_, _, _, no⟩ := hs
      exact no.elim
    | next =>
      obtain ⟨σ', H', J, q⟩ := hs
      exact ⟨V.non, H', J.os, J.bare, J.base, J.hok, rfl, q⟩
    | ret u =>
      obtain ⟨v, σ', H', J, rv, q⟩ := hs
      exact ⟨v, H', J.os, J.bare, J.base, J.hok, rv, q⟩
section
variable {P : Program} {w : World} {K : PySem.W.Frag} {mg : Str → Option Value} {base : Heap}
/-- .. of the text -/
theorem okG {x qual : Str} {st : Stmt} {f : Addr} {fd : FuncData} {N ps : List Str} {k : Nat} {sp : Sp} (F : Fun K x qual st f fd) (S : FnScope N ps (defScope st)) (hlen : ∀ vs H Q E, sp vs H Q E → vs.length = ps.length)
    (hb : ∀ (cdv : Value) (A : Around) (outer : List Env) (s : Shared) (H : Hp) (vs : List V) (Q : VK) (E : XK), Gd (A.deeper (envOfC qual (defScope st) s.heap.objs.size f cdv)) → Room k (A.deeper (envOfC qual (defScope st) s.heap.objs.size f cdv)) → sp vs H Q E →
      ∃ t, PSs (cxOf CX0 P w K mg base N qual (defScope st) f cdv A outer s H E).nox (defBody st) t ∧ t { nx := fun _ H' => Q .non H', rt := Q } (start N vs) H) : FnG P w K mg base CX0 (k + 1) f fd ps sp := by
  obtain ⟨oc, od, kV, doc, pm, an, cdv, ct, osl, rfl, lk, hcd⟩ := F.ex
  refine fnG_body lk hcd S hlen fun A outer s H vs Q E g hr want => ?_
  obtain ⟨t, h, q⟩ := hb cdv A outer s H vs Q E g hr want
  exact ⟨t, h.nox, q⟩
/-- .. which may raise -/
theorem okGX {x qual : Str} {st : Stmt} {f : Addr} {fd : FuncData} {N ps : List Str} {k : Nat} {sp : Sp} (F : Fun K x qual st f fd) (S : FnScope N ps (defScope st)) (hlen : ∀ vs H Q E, sp vs H Q E → vs.length = ps.length) {CX : CXT}
    (hb : ∀ (cdv : Value) (A : Around) (outer : List Env) (s : Shared) (H : Hp) (vs : List V) (Q : VK) (E : XK), Gd (A.deeper (envOfC qual (defScope st) s.heap.objs.size f cdv)) → Room k (A.deeper (envOfC qual (defScope st) s.heap.objs.size f cdv)) → sp vs H Q E →
      ∃ t, PSs (cxOf CX P w K mg base N qual (defScope st) f cdv A outer s H E) (defBody st) t ∧ t { nx := fun _ H' => Q .non H', rt := Q } (start N vs) H) : FnG P w K mg base CX (k + 1) f fd ps sp := by
  obtain ⟨oc, od, kV, doc, pm, an, cdv, ct, osl, rfl, lk, hcd⟩ := F.ex
  exact fnG_body lk hcd S hlen fun A outer s H vs Q E g hr want => hb cdv A outer s H vs Q E g hr want
/-- the name x is a def that keeps the promise sp where no repr is under way -/
def CalG (P : Program) (w : World) (K : PySem.W.Frag) (mg : Str → Option Value) (base : Heap) (k : Nat) (x : Str) (ps : List Str) (sp : Sp) : Prop :=
  ∃ (f : Addr) (fd : FuncData), FnG P w K mg base CX0 k f fd ps sp ∧ PySem.W.keepIn K (.ref f) = true ∧ Binds K fd ps [] ∧ mg x = some (.ref f)
theorem Cal.g {k : Nat} {x : Str} {ps : List Str} {sp : Sp} (c : Cal P w K mg base k x ps sp) : CalG P w K mg base k x ps sp := by
  obtain ⟨f, fd, F, r⟩ := c
  exact ⟨f, fd, fnG_of F, r⟩
theorem CalG.up {j k : Nat} {x : Str} {ps : List Str} {sp : Sp} (c : CalG P w K mg base j x ps sp) (h : j ≤ k) : CalG P w K mg base k x ps sp := by
  obtain ⟨f, fd, F, r⟩ := c
  exact ⟨f, fd, F.up h, r⟩
theorem Def.calG {x qual : Str} {st : Stmt} {ps : List Str} (d : Def K mg x qual st ps) {k : Nat} {sp : Sp} (h : ∀ f fd, Fun K x qual st f fd → FnG P w K mg base CX0 k f fd ps sp) : CalG P w K mg base k x ps sp := by
  obtain ⟨f, fd, F, b, g⟩ := d
  exact ⟨f, fd, h f fd F, F.kp, b, g⟩
end
section
variable {X : Cx}
/-- the callee runs -/
theorem runG {CX : CXT} {k : Nat} {f : Addr} {fd : FuncData} {ps : List Str} {sp : Sp} {E : XK} {ds : List Value} {dvs : List V} {pins : List (Addr × Obj)} {σ : L2.St} {H : Hp} {s : Shared} {Q : VK} {us : List Value} {vs : List V}
    (F : FnG X.prog X.w X.K X.mg X.base CX k f fd ps sp) (g : Gd X.A) (room : Room k X.A) (hb : Binds X.K fd ps ds) (hd : Vals dvs ds) (hx : Passes CX X E)
    (I : Inv X pins σ H s) (r : Vals vs us) (want : sp (vs ++ dvs) H Q E) : wpAny (model X.prog X.w) X.A (call (.ref f) us) (EP X pins σ Q) X.xe s := by
  have rel := r.append hd
  have hl : (us ++ ds).length = ps.length := rel.length.symm.trans (F.len _ _ _ _ want)
  have hc := F.run X.A X.stack s H ⟨us, []⟩ (us ++ ds) (vs ++ dvs) Q E g room I.env0 (hb s us I.kIn hl) rel want
  refine wpAny_call (codeAny_mono hc ?_)
  intro res s' hres
  match res, hres with
  | .error e, hres => exact hx pins σ H s e s' I hres
  | .ok (.ret u), hres => exact I.after hres
theorem pe_calG {x : Str} {ps : List Str} {sp : Sp} {k : Nat} {e : Expr} {es : List Expr} {t : TA} {p pos : Pos} (c : CalG X.prog X.w X.K X.mg X.base k x ps sp) (g : Gd X.A) (room : Room k X.A) (hg : Gl X x) (h : PA X (e :: es) t)
    (hdb : (x == ("__debug__" : Str)) = false := by decide) (hst : starEach (e :: es) X.env = (false, eval e X.env) :: starEach es X.env := by rfl) (hpl : (backTo pos (starEach es X.env)).any (·.1) = false := by rfl) :
    PE X (.Call (.Name x p) (e :: es) [] pos) (tCl sp t) := by
  obtain ⟨f, fd, F, kp, b, hm⟩ := c
  rw [← tCl_eq]
  refine ⟨fun pins s σ H Q I want => wpAny_Call_Name_kw (ld_glob I hg hm ?_ hdb)⟩
  exact PySem.W.callWith_K (h₀ := X.base) I.ok.mod.kin kp (thn (h.run pos pins s σ H _ I want) fun us s1 ⟨vs, H1, I1, r, q⟩ => ⟨I1.kIn, runG F g room b .nil pass0 I1 r q⟩) hst hpl
theorem pe_calG0 {x : Str} {ps : List Str} {sp : Sp} {k : Nat} {p pos : Pos} (c : CalG X.prog X.w X.K X.mg X.base k x ps sp) (g : Gd X.A) (room : Room k X.A) (hg : Gl X x)
    (hdb : (x == ("__debug__" : Str)) = false := by decide) : PE X (.Call (.Name x p) [] [] pos) (tCl sp tNil) := by
  obtain ⟨f, fd, F, kp, b, hm⟩ := c
  rw [← tCl_eq]
  exact ⟨fun pins s σ H Q I want => wpAny_Call_Name_kw (ld_glob I hg hm (PySem.W.callWith_K0 I.kIn kp (runG (us := []) F g room b .nil pass0 I .nil want)) hdb)⟩
end
/-! ### repr of data -/
theorem repr_ref {prog : Program} {w : World} {A : Around} {E : Value → Shared → Prop} {s : Shared} {Q : Value → Shared → Prop} {a : Addr} {d : PyData} {as : List Addr}
    (r : Reads s.heap (.ref a) d as) (hs : d.showable = true) (hsm : d.hasDict = true → sysModules ∉ as) (hsz : d.shown.length ≤ sizeLine) (g : Gd A) (hu : A.units + 1 + d.depth < cLine)
    (h : ∀ h' u tk, (∀ b o, s.heap.get? b = some o → h'.get? b = some o) → Q (.str d.shown u) { s with heap := h', toks := tk }) : wpAny (model prog w) A (call (.builtin "repr") [.ref a]) Q E s := by
  obtain ⟨T, idr, B⟩ := showsBy_of_reads (prog := prog) (w := w) r hs hsm hsz
  have hT := B.typeIs s fun _ _ e => e
  refine Calls.call_function_entry F.kind_repr F.plain_repr F.entry_repr (F.args_repr1 _) ?_
  unfold Builtin.«repr»
  refine wpAny_bind (m := oneArg "repr" _) (wpAny_pure ?_)
  refine wpAny_bind (wpAny_cRoomFor (by show A.units + 1 < cLine; omega) ?_)
  refine wpAny_bind (wpAny_specialOf (name := Str.ofString "__repr__") hT B.slotRepr.lookup ?_)
  refine wpAny_bind (m := callSpecialIfBound? (.ref a) (Str.ofString "__repr__")) (wpAny_callSpecialIfBound?_slotG (name := Str.ofString "__repr__") hT B.slotRepr (B.call _ _ s _ g (by show A.units + 1 + _ < cLine; omega) (fun _ _ e => e) fun h' u tk hk => ?_))
  refine wpAny_bind (wpAny_isInstance (T := "str") (b := true) rfl isSubtype_str_str ?_)
  exact wpAny_pure ⟨_, rfl, h h' u tk hk⟩
section
variable {X : Cx}
/-- repr(x), x data without dicts -/
def rRepr (K : PySem.W.Frag) : List V → Hp → VK → Prop := fun xs H Q => ∃ (x : V) (d : PyData), xs = [x] ∧ Dp K H x d ∧ d.showable = true ∧ d.hasDict = false ∧ d.depth ≤ 60 ∧ d.shown.length ≤ sizeLine ∧ Q (.str d.shown) H
theorem call_reprD (g : Gd X.A) (hu : X.A.units + 64 < cLine) : CallR X (.builtin "repr") (rRepr X.K) := by
  intro pins s σ H xs us Q I r h
  obtain ⟨x, d, rfl, hd, h1, h2, h3, h4, q⟩ := h
  obtain ⟨u, rfl, rx⟩ := vals1 r
  obtain ⟨as, hr⟩ := Dp.reads I d x u hd rx
  cases hr with
  | none => simp only [PyData.shown] at q; exact PySem.P.repr_of_none ⟨.str _, H, I.tok _, ⟨_, rfl⟩, q⟩
  | bool b => simp only [PyData.shown] at q; exact PySem.P.repr_of_bool ⟨.str _, H, I.tok _, ⟨_, rfl⟩, q⟩
  | int i t => simp only [PyData.shown] at q; exact PySem.P.repr_of_int (by simpa [PyData.showable] using h1) ⟨.str _, H, I.tok _, ⟨_, rfl⟩, q⟩
  | str y t => simp only [PyData.shown] at q h4; exact PySem.P.repr_of_str ⟨.str _, H, I.tok _, ⟨_, rfl⟩, q⟩ h4
  | list e1 e2 e3 e4 =>
    exact repr_ref (.list e1 e2 e3 e4) h1 (fun e => by rw [h2] at e; cases e) h4 g (by omega) fun h' u tk hk => ⟨.str _, H, I.kept (t' := tk) hk, ⟨_, rfl⟩, q⟩
  | tuple e1 e2 e3 e4 =>
    exact repr_ref (.tuple e1 e2 e3 e4) h1 (fun e => by rw [h2] at e; cases e) h4 g (by omega) fun h' u tk hk => ⟨.str _, H, I.kept (t' := tk) hk, ⟨_, rfl⟩, q⟩
  | dict e1 e2 e3 e4 e5 =>
    exact repr_ref (.dict e1 e2 e3 e4 e5) h1 (fun e => by rw [h2] at e; cases e) h4 g (by omega) fun h' u tk hk => ⟨.str _, H, I.kept (t' := tk) hk, ⟨_, rfl⟩, q⟩
end
/-! ### sorted of a tuple of texts -/
section
variable {X : Cx}
def rSortedTS (K : PySem.W.Frag) : List V → Hp → VK → Prop := fun vs H Q => ∃ (a : Addr) (xs : List Str), vs = [V.ref a] ∧ SqT K H a (xs.map V.str) ∧ xs.length ≤ 100000 ∧
  ∀ (ys : List Str) (p : Addr), ys.Perm xs → sortedS ys = true → H p = none → Q (.ref p) (upd H p (.lst (ys.map V.str)))
theorem cr_sortedTS : CallR X (.builtin "sorted") (rSortedTS X.K) := by
  intro pins s σ H vs us Q I r h
  obtain ⟨a, xs, rfl, ht, hz, q⟩ := h
  obtain ⟨its, rv, ⟨o, ho, hc, n, hd⟩, _⟩ := I.tuple ht
  rw [Vals.ref1 r]
  have hln : xs.length = its.length := by
    have e := rv.length
    rw [List.length_map] at e
    exact e
  have hS : StrsAre its xs := rv.strs
  have hL : its.length ≤ sizeLine := Nat.le_trans (by omega) (show 100000 ≤ sizeLine by decide)
  refine Calls.call_function_entry kind_sorted plain_sorted entry_sorted (args_sorted1 _) ?_
  unfold Builtin.«sorted»
  refine wpAny_bind (m := checkCount "sorted" 1 1 _) (wpAny_pure ?_)
  refine wpAny_bind (wpAny_collect_seq a (.inr rfl) ho hc hd (fun h' hk => ?_) (by rw [List.size_toArray]; exact hL))
  have I1 : Inv _ pins σ H { s with heap := h' } := I.kept (t' := s.toks) hk
  rw [List.toList_toArray]
  refine wpAny_bind (wpAny_newList ?_ hL)
  have hoL : (h'.push (seqObj "list" its.toArray 0)).get? h'.objs.size = some (seqObj "list" its.toArray 0) := Heap.get?_push_size _ rfl
  show wpAny _ _ _ _ _ { s with heap := h'.push (seqObj "list" its.toArray 0) }
  refine wpAny_bind (wpAny_holding (wpAny_call_entry slot_list_sort ⟨_, hoL, rfl⟩ entry_list_sort
    (list_sort_treeKAny strKind_oneLt (s := { s with heap := h'.push (seqObj "list" its.toArray 0) }) hoL hS.keysOf (fun v₁ v₂ rest e => keyKind_strs (by rw [← e]; exact hS)) hL fun st' hp hs => ⟨_, rfl, ?_⟩) (args_list_sort _)))
  obtain ⟨ys, g1, g2, g3⟩ := sorted_out_str hS hp hs
  obtain ⟨e', he'⟩ := sortedHeap_at (vs := its) (out := (arrOf st').map (·.2)) hoL
  have hlen : (ys.map V.str).length ≤ sizeLine := by
    rw [List.length_map, g2.length_eq, hln]
    exact hL
  refine wpAny_pure ⟨_, rfl, .ref h'.objs.size, upd H h'.objs.size (.lst (ys.map V.str)), I1.laid (t' := s.toks) (fun b u e => ?_) (Nat.le_refl _)
    (show ObjOk X.prog X.w _ _ _ (.lst (ys.map V.str)) from ⟨hlen, ((arrOf st').map (·.2)).toList, e', vals_of_strs g1, by rw [Array.toArray_toList]; exact he'⟩), rfl, q ys _ g2 g3 (I1.hok.fresh (Nat.le_refl _))⟩
  have hb : b < h'.objs.size := Heap.lt_size e
  rw [sortedHeap_old (Nat.ne_of_lt hb) (by rw [size_push']; exact Nat.lt_succ_of_lt hb)]
  exact Heap.get?_push_of_some _ e
end
/-! ### the end of a law whose promise holds where no repr is under way -/
/-- the abstract heap at the law's call: the script alone, if the module does not own it -/
def H00 (a : Addr) (o : Obj) (ns : List Int) (own : Bool) : Hp := fun b => if own = false ∧ b = a then some (.frz o (.lst (ns.map V.int))) else none
theorem h00_none {a b : Addr} {o : Obj} {ns : List Int} {own : Bool} (h : own = true ∨ b ≠ a) : H00 a o ns own b = none := by
  unfold H00
  rw [if_neg]
  rintro ⟨h1, h2⟩
  rcases h with h | h
  · rw [h1] at h; cases h
  · exact h h2
theorem h00_some {a b : Addr} {o : Obj} {ns : List Int} {own : Bool} {u : HO} (h : H00 a o ns own b = some u) : own = false ∧ b = a ∧ u = .frz o (.lst (ns.map V.int)) := by
  unfold H00 at h
  by_cases c : own = false ∧ b = a
  · rw [if_pos c] at h
    exact ⟨c.1, c.2, (Option.some.inj h).symm⟩
  · rw [if_neg c] at h
    cases h
theorem lawG {P : Program} {w : World} {K : PySem.W.Frag} {mg mb : Str → Option Value} {CX : CXT} {k : Nat} {fa a : Addr} {fd : FuncData} {x : Str} {sp : Sp} {t : Shared} {vs : List Value} {ns : List Int}
    (inK : K.In t.heap) (glob : t.heap.Ns mainGlobals mg) (blt : t.heap.Ns builtinsNs mb) (boot : ∀ y : Str, y ≠ "__name__" → mb y = bootBuiltins y) (noLim : t.heap.NoLimit) (gens : t.gens = #[])
    (scr : t.heap.get? a = some { cls := .type "list", data := .seq vs.toArray }) (hints : IntsAre vs ns) (short : ns.length ≤ sizeLine) (room : Room k callerA)
    (F : ∀ base : Heap, K.In base → base.Ns mainGlobals mg → FnG P w K mg base CX k fa fd [x] sp) (bind : ∀ (s : Shared) (u : Value), BindsTo s fd ⟨[u], []⟩ [(x, u)])
    (want : ∀ H : Hp, Only H → SqL K H a (ns.map V.int) → sp [.ref a] H (fun v _ => v = .bl true) fun _ _ _ => False)
    (noErr : ∀ H e s', CX [] H t (fun _ _ _ => False) e s' → False) :
    codeAny (model P w) callerA (.call (.ref fa) ⟨[.ref a], []⟩) (fun r s' => r = .ok (.ret (.bool true)) ∧ OldK t.heap s'.heap ∧ s'.os = t.os ∧ AllBare s'.gens) t := by
  have hv : Vals (ns.map V.int) vs := vals_ints hints
  have hlv : vs.length = ns.length := hints.length
  -- does the module own the script?
  obtain ⟨own, hown⟩ : ∃ own : Bool, own = (K.lookup a).isSome := ⟨_, rfl⟩
  let o : Obj := { cls := .type "list", data := .seq vs.toArray }
  have hOk : HOk P w (H00 a o ns own) t.heap := by
    intro b u e
    obtain ⟨_, rfl, rfl⟩ := h00_some e
    exact ⟨scr, by rw [List.length_map]; exact short, vs, _, hv, scr⟩
  have keepT : ∀ {b : Addr} {ob : Obj}, t.heap.get? b = some ob → own = true ∨ b ≠ a → (hidT t.heap (H00 a o ns own)).get? b = some ob := fun e n => hidT_get e (h00_none n)
  have notScr : ∀ {b : Addr} {m : Str → Option Value}, t.heap.Ns b m → b ≠ a := by
    rintro b m ⟨ob, es, ep, e, dd, _⟩ rfl
    rw [scr] at e
    cases e
    cases dd
  have nsKeep : ∀ {b : Addr} {m : Str → Option Value}, t.heap.Ns b m → (hidT t.heap (H00 a o ns own)).Ns b m := by
    intro b m n
    have ne := notScr n
    obtain ⟨ob, es, ep, e, r⟩ := n
    exact ⟨ob, es, ep, keepT e (.inr ne), r⟩
  have inK' : K.In (hidT t.heap (H00 a o ns own)) := by
    intro b ob e
    refine keepT (inK b ob e) ?_
    by_cases hb : b = a
    · subst hb
      left
      rw [hown, e]
      rfl
    · exact .inr hb
  have noLim' : (hidT t.heap (H00 a o ns own)).NoLimit := by
    obtain ⟨mc, h1, h2⟩ := noLim
    exact ⟨mc, nsKeep h1, h2⟩
  have env : Env0 P w K mg (hidT t.heap (H00 a o ns own)) callerA [] t (H00 a o ns own) := by
    refine ⟨rfl, ⟨inK', nsKeep glob, ⟨mb, nsKeep blt, boot⟩, noLim'⟩, fun b ob e => of_hidT e, Nat.le_of_eq (hidT_size _ _), trivial, ?_, hOk, .of_eq gens⟩
    intro b hb
    exact absurd (show b ∈ ([] : List Addr) from hb) List.not_mem_nil
  have only : Only (H00 a o ns own) := by
    intro b
    cases e : H00 a o ns own b with
    | none => exact .inl rfl
    | some u =>
      obtain ⟨_, _, rfl⟩ := h00_some e
      exact .inr ⟨_, _, rfl⟩
  have hS : SqL K (H00 a o ns own) a (ns.map V.int) := by
    cases own with
    | false => exact .inl (.inr ⟨o, by unfold H00; rw [if_pos ⟨rfl, rfl⟩]⟩)
    | true =>
      obtain ⟨ob, e⟩ := Option.isSome_iff_exists.mp hown.symm
      have e2 := inK a ob e
      rw [scr] at e2
      cases e2
      exact .inr ⟨_, vs.toArray, _, e, rfl, rfl, rfl, by rw [List.size_toArray, hlv]; exact short, by simpa using hv⟩
  have runs := (F _ inK' (nsKeep glob)).run callerA [] t (H00 a o ns own) ⟨[.ref a], []⟩ [.ref a] [.ref a] _ _ rfl room env (bind t (.ref a)) (.cons rfl .nil) (want _ only hS)
  refine codeAny_mono runs ?_
  intro res s' hres
  match res, hres with
  | .error e, hres => exact (noErr _ e s' hres).elim
  | .ok (.ret u), hres =>
    obtain ⟨v, H', hos, bare, un, ok', rel, rfl⟩ := hres
    obtain rfl : u = Value.bool true := rel
    refine ⟨rfl, OldK.of_keep fun b ob e => ?_, hos, bare⟩
    cases q : H00 a o ns own b with
    | none => exact un.keep b ob e q (fun z => absurd (show b ∈ ([] : List Addr) from z) List.not_mem_nil) List.not_mem_nil
    | some u =>
      obtain ⟨_, _, rfl⟩ := h00_some q
      have q' := un.frzs b _ _ q
      have e1 := (hOk b _ q).1
      rw [e] at e1
      cases e1
      exact (ok' b _ q').1
/-- what k_head leaves -/
theorem walkG {l : PySem.W.OpenLaw} {n k : Nat} {q : Program} {loose : List Str} {XP : (Str → Option Value) → Heap → Prop} {YP : World → Heap → Prop} {d : DefRec} {K : Params → PySem.W.Frag} {CX : World → CXT} {sp : World → Sp} {x : Str}
    (most : l.most = some n) (small : n ≤ sizeLine) (plain : d.params.defaults = []) (room : Room k callerA) (hY : ∀ (w : World) (h : Heap), YP w h → (K w.params).In h)
    (F : ∀ (w : World) (mg : Str → Option Value) (fa : Addr) (h : Heap), (K w.params).In h → h.Ns mainGlobals mg → mg d.name = some (.ref fa) →
      ∃ fd : FuncData, (∀ (s : Shared) (u : Value), BindsTo s fd ⟨[u], []⟩ [(x, u)]) ∧ ∀ base : Heap, (K w.params).In base → base.Ns mainGlobals mg → FnG l.prog w (K w.params) mg base (CX w) k fa fd [x] (sp w))
    (want : ∀ (w : World) (H : Hp) (a : Addr) (ns : List Int), ns.length ≤ n → Only H → SqL (K w.params) H a (ns.map V.int) → sp w [.ref a] H (fun v _ => v = .bl true) fun _ _ _ => False)
    (noErr : ∀ (w : World) (H : Hp) (s : Shared) (e : Value) (s' : Shared), CX w [] H s (fun _ _ _ => False) e s' → False) :
    PySem.W.WalkO q loose XP YP l.row.toRowW d [] (fun f vs => PySem.call f vs) := by
  refine Att.attach_call most plain fun w s₀ t mg mb fa o pm cd doc a vs ns G Y ho hd hcd hmg scr hints hlen gens => ?_
  obtain ⟨fd, bind, body⟩ := F w mg fa _ (hY w _ Y) G.T.g hmg
  exact lawG (hY w _ Y) G.T.g G.T.b G.T.builtins G.T.nolimit gens scr hints (Nat.le_trans hlen small) room body bind (fun H hO hS => want w H a ns hlen hO hS) fun H e s' => noErr w H t e s'
end Gx

set_option maxRecDepth 100000
set_option maxHeartbeats 4000000
namespace Gx
open PySem PySem.Spec PySem.W PySem.Calls Builtin Builtin.ObjectAttr
section
variable {prog : Program} {w : World} {A : Around} {R : Result → Shared → Prop} {hp : Heap} {g : Array GenState} {d : Drawn} {t : Nat} {os : OsState} {K : Frag}
/-- the first field of an own exception, over any built-in base -/
theorem exc_storeX {B : String} {bmB : List Value} {name : Str} {tk : Tok} {v : Value} {x C t0 : Addr} (SF : StoreFacts B bmB "object.__setattr__" "object")
    (inK : K.In hp) (hx : hp.get? x = some (excObj C t0 none .none)) (over : excOver K C bmB = true) (noTake : takerIn K C name = some none) (hasD : hasDictIn K C = true)
    (hq : ∀ (h' : Heap) (tk' : Nat) (dx : Addr), (∀ b o, b ≠ x → hp.get? b = some o → h'.get? b = some o) → hp.objs.size ≤ dx → dx ≠ x → h'.get? x = some (excObj C t0 (some dx) .none) →
      h'.Ns1 dx (fun y => if y = name then some v else none) → R (.ok (.ret .none)) ⟨h', g, d, tk', os⟩) :
    codeAny (model prog w) A (.call (.builtin "object.__setattr__") ⟨[.ref x, .str name tk, v], []⟩) R ⟨hp, g, d, t, os⟩ := by
  have xs : x ≠ hp.objs.size := Nat.ne_of_lt (Heap.lt_size hx)
  refine osa_openX (s := ⟨hp, g, d, t, os⟩) (od := none) SF inK ⟨hx, rfl, rfl, trivial⟩ over noTake fun b => ?_
  obtain ⟨cd, hc, hd⟩ := any_some hasD
  refine wpAny_bind (wpAny_pure (wpAny_bind (instanceDict_exc (s := ⟨hp, g, d, t, os⟩) hx (looks_clsIn inK hc) hd ?_)))
  show wpAny _ _ (storeInDict hp.objs.size (.str name tk) name v) _ _ _
  have hx1 : (hp.push (dictOf [] 0)).get? x = some (excObj C t0 none .none) := Heap.get?_push_of_some _ hx
  refine PySem.HandSPX.store_in_new ⟨_, #[], _, (Heap.get?_update_ne _ _ _ _ xs.symm).trans (Heap.get?_push_at rfl rfl), rfl, fun e he => absurd he (by simp), fun _ => rfl⟩ fun h' tk' hn hs => ?_
  refine hq h' tk' hp.objs.size (fun b o hb ho => ?_) (Nat.le_refl _) xs.symm ((hs.2 x xs).trans (Heap.get?_update_self _ hx1 rfl)) hn
  have bl : b ≠ hp.objs.size := Nat.ne_of_lt (Heap.lt_size ho)
  exact (hs.2 b bl).trans ((Heap.get?_update_ne _ _ _ _ hb).trans (Heap.get?_push_of_some _ ho))
end
end Gx
namespace Gx
open PySem PySem.Spec PySem.W PySem.Calls PyProof.Rows L2
/-! ### own exceptions with one field: class cn(B): def __init__(self, fld): self.fld = fld -/
/-- what the written part says of the class -/
structure XTxt (K : Frag) (mg : Str → Option Value) (cn fld : Str) (newId : String) (bmB : List Value) (C fI : Addr) : Prop where
  gC : mg cn = some (.ref C)
  cls : ∃ nm q N bs bm sn sub ab col dd k0 k1 k2 k3 k5, K.lookup C = some (excClassObj nm q C N bs bm true sn sub ab col dd k0 k1 k2 k3 k5 newId) ∧ excTail bmB bm = true
  over : excOver K C bmB = true
  tak : takerIn K C fld = some none
  hdC : hasDictIn K C = true
  sa : findIn K (.ref C) "__setattr__" = some (some (.builtin "object.__setattr__"))
  ga : findIn K (.ref C) "__getattribute__" = some (some (.builtin "BaseException.__getattribute__"))
  gg : findIn K (.ref C) "__getattr__" = some none
  noN : findIn K (.ref C) fld = some none
  iC : findIn K (.ref C) "__init__" = some (some (.ref fI))
  tC : typeIn K (.ref fI) = some (.type "function")
  kC : keepIn K (.ref C) = true
  exC : subIn K (.ref C) (.type "BaseException") = some true
  tyC : typeIn K (.ref C) = some (.type "type")
  te : exmOne K (.ref C) (.ref C) = some true
/-- what __init__ leaves of a new exception at x -/
structure XInit (h h' : Heap) (x C dx t0 : Addr) (fld : Str) (v : Value) : Prop where
  keep : ∀ b o, b ≠ x → h.get? b = some o → h'.get? b = some o
  obj : h'.get? x = some (excObj C t0 (some dx) .none)
  big : h.objs.size ≤ dx
  ne : dx ≠ x
  ns : h'.Ns1 dx (fun y => if y = fld then some v else none)
/-- __init__ stores the field -/
def InitDoes (K : Frag) (C fI : Addr) (fld : Str) : Prop := ∀ (prog : Program) (w : World) (A : Around) (R : Result → Shared → Prop) (s : Shared) (x t0 : Addr) (v : Value),
  K.In s.heap → s.heap.NoLimit → s.heap.get? x = some (excObj C t0 none .none) → K.lookup x = none → A.depth < recursionLimit →
  (∀ h' tk dx, XInit s.heap h' x C dx t0 fld v → R (.ok (.ret .none)) { s with heap := h', toks := tk }) → codeAny (model prog w) A (.call (.ref fI) ⟨[.ref x, v], []⟩) R s
/-- such an exception, made -/
structure XMade (h h' : Heap) (e C d : Addr) (fld : Str) (v : Value) : Prop where
  keep : ∀ b o, h.get? b = some o → h'.get? b = some o
  new : h.objs.size ≤ e
  obj : ∃ oe vs, h'.get? e = some oe ∧ oe.cls = .ref C ∧ oe.dict = some d ∧ oe.data = .fields vs ∧ vs[1]? = some .none
  big : h.objs.size ≤ d
  ne : d ≠ e
  ns : h'.Ns1 d (fun y => if y = fld then some v else none)
theorem one_line (v : Value) : [v].length ≤ sizeLine := by
  show 1 ≤ sizeLine
  decide
section
variable {prog : Program} {w : World} {A : Around} {R : Result → Shared → Prop} {s : Shared} {K : Frag} {mg : Str → Option Value} {C fI : Addr} {cn fld : Str} {B newId initId : String} {bmB : List Value}
theorem x_made (FB : ExcBaseFacts B newId initId bmB) (T : XTxt K mg cn fld newId bmB C fI) (D : InitDoes K C fI fld) {v : Value} (inK : K.In s.heap) (lim : s.heap.NoLimit) (room : A.depth + 1 < recursionLimit)
    (hq : ∀ h' tk e d, XMade s.heap h' e C d fld v → R (.ok (.ret (.ref e))) { s with heap := h', toks := tk }) : codeAny (model prog w) A (.call (.ref C) ⟨[v], []⟩) R s := by
  obtain ⟨nm, q, N, bs, bm, sn, sub, ab, col, dd, k0, k1, k2, k3, k5, hC, tail⟩ := T.cls
  obtain ⟨hp, g, dr, tk, os⟩ := s
  have stay : ∀ b o, hp.get? b = some o → ((hp.push (kdv_tup [v])).push (excObj C hp.objs.size none .none)).get? b = some o := fun b o e => Heap.get?_push_of_some _ (Heap.get?_push_of_some _ e)
  have there : ((hp.push (kdv_tup [v])).push (excObj C hp.objs.size none .none)).get? (hp.objs.size + 1) = some (excObj C hp.objs.size none .none) := by heap_get
  have fresh : K.lookup (hp.objs.size + 1) = none := by
    cases e : K.lookup (hp.objs.size + 1) with
    | none => rfl
    | some o => exact absurd (Nat.lt_of_succ_lt (Heap.lt_size (inK _ _ e))) (Nat.lt_irrefl _)
  refine PySem.HandSPX.call_own FB (fun Y => excTail_contains Y bm tail) (inK _ _ hC) (looks_findIn inK T.iC) (fun self => bind_fn inK self T.tC) (one_line v) ?_
  refine D prog w _ _ ⟨(hp.push (kdv_tup [v])).push (excObj C hp.objs.size none .none), g, dr, tk, os⟩ _ _ v (inK.keeps stay) (lim.keeps stay) there fresh room fun h' tk' dx M => ?_
  have old : ∀ b o, hp.get? b = some o → h'.get? b = some o := fun b o e => M.keep b o (Nat.ne_of_lt (Nat.lt_succ_of_lt (Heap.lt_size e))) (stay b o e)
  have z : hp.objs.size + 1 + 1 ≤ dx := by
    have q := M.big
    first
      | exact q
      | simpa only [Heap.size_push] using q
  exact ⟨rfl, hq h' tk' (hp.objs.size + 1) dx ⟨old, Nat.le_succ _, ⟨_, _, M.obj, rfl, rfl, rfl, rfl⟩, Nat.le_trans (Nat.le_trans (Nat.le_succ _) (Nat.le_succ _)) z, M.ne, M.ns⟩⟩
end
theorem relO_one {fld : Str} {v : V} {u : Value} (r : RelV v u) (f : Str) : RelO (List.lookup f [(fld, v)]) (if f = fld then some u else none) := by
  by_cases e : f = fld
  · subst e
    rw [if_pos rfl, show List.lookup f [(f, v)] = some v by simp [List.lookup]]
    exact r
  · have q : (f == fld) = false := by simpa using e
    rw [if_neg e, show List.lookup f [(fld, v)] = none by simp [List.lookup, q]]
    trivial
section
variable {X : Cx} {C fI : Addr} {cn fld : Str} {B newId initId : String} {bmB : List Value}
/-- cn(e) -/
def tMkX (C : Addr) (fld : Str) (ta : TA) : L2.St → Hp → XK → Prop := fun σ H Q => ta σ H fun vs H1 => ∃ v, vs = [v] ∧ ∀ d, H1 d = none → Q (.ref C) (some d) (upd H1 d (.xd [(fld, v)]))
theorem pmk_x {a : Expr} {ta : TA} {p pos : Pos} {k : Nat} (FB : ExcBaseFacts B newId initId bmB) (T : XTxt X.K X.mg cn fld newId bmB C fI) (D : InitDoes X.K C fI fld) (room : Room k X.A) (ha : PA X [a] ta) (hg : Gl X cn)
    (hdb : (cn == ("__debug__" : Str)) = false := by decide) (hst : starEach (a :: []) X.env = (false, eval a X.env) :: starEach [] X.env := by rfl) (hpl : (backTo pos (starEach [] X.env)).any (·.1) = false := by rfl) :
    PMk X (.Call (.Name cn p) [a] [] pos) (tMkX C fld ta) := by
  intro pins s σ H Q I h
  refine wpAny_Call_Name_kw (ld_glob I hg T.gC ?_ hdb)
  refine PySem.W.callWith_K (h₀ := X.base) I.ok.mod.kin T.kC (thn (ha.run pos pins s σ H _ I h) ?_) hst hpl
  rintro us s1 ⟨vs, H1, I1, r1, v, rfl, q1⟩
  refine ⟨I1.kIn, ?_⟩
  obtain ⟨u, rfl, rv⟩ := vals1 r1
  show wpAny _ _ (call (.ref C) [u]) _ _ _
  have lim := I1.nolimit
  obtain ⟨hp, g, dr, tk, os⟩ := s1
  refine wpAny_call (x_made FB T D I1.kIn lim (by have := room.dp; omega) fun h' tk' e d M => ?_)
  show MkP X pins σ Q (.ref e) ⟨h', g, dr, tk', os⟩
  obtain ⟨oe, fv, hoe, hc, hd, hdat, h1⟩ := M.obj
  obtain ⟨G', g1, g2⟩ := restrict h' fun b => decide (b ≠ e)
  have off : ∀ b, b ≠ e → G'.get? b = h'.get? b := fun b hb => g1 b (decide_eq_true hb)
  have gone : G'.get? e = none := g2 e (by simp)
  have old : ∀ b o, hp.get? b = some o → G'.get? b = some o := fun b o q => (off b (Nat.ne_of_lt (Nat.lt_of_lt_of_le (Heap.lt_size q) M.new))).trans (M.keep b o q)
  have ob : ObjOk X.prog X.w (upd H1 d (.xd [(fld, v)])) G' d (.xd [(fld, v)]) := ⟨_, M.ns.at (fun o q => (off d M.ne).trans q), fun f => relO_one rv f⟩
  have J : Inv X pins σ (upd H1 d (.xd [(fld, v)])) ⟨G', g, dr, tk', os⟩ := I1.laid (t' := tk') old M.big ob
  refine ⟨e, oe, fv, ⟨G', g, dr, tk', os⟩, _, .ref C, some d, rfl, J, ?_, gone, hoe, ⟨hc, hd⟩, hdat, h1, ?_, rfl, I1.bare, raises_own T.exC T.tyC, q1 d (I1.hok.fresh M.big)⟩
  · intro b o q
    have q' : G'.get? b = some o := q
    by_cases hb : b = e
    · rw [hb, gone] at q'
      cases q'
    · exact (off b hb).symm.trans q
  · rw [upd_ne (Ne.symm M.ne)]
    exact I1.hok.fresh M.new
/-- raise cn(e) -/
def tRaiseX (C : Addr) (fld : Str) (W : WX) (ta : TA) : TS := fun _ σ H => tMkX C fld ta σ H fun cls d H' => W cls d σ H'
theorem ps_raiseX {a : Expr} {ta : TA} {W : WX} {p pos pos2 : Pos} {k : Nat} (hc : X.calm = true) (FB : ExcBaseFacts B newId initId bmB) (T : XTxt X.K X.mg cn fld newId bmB C fI) (D : InitDoes X.K C fI fld) (room : Room k X.A) (tk : Takes X W) (ha : PA X [a] ta) (hg : Gl X cn)
    (hdb : (cn == ("__debug__" : Str)) = false := by decide) (hst : starEach (a :: []) X.env = (false, eval a X.env) :: starEach [] X.env := by rfl) (hpl : (backTo pos (starEach [] X.env)).any (·.1) = false := by rfl) :
    PS X (.Raise (some (.Call (.Name cn p) [a] [] pos)) none pos2) (tRaiseX C fld W ta) := ps_raise hc tk (pmk_x FB T D room ha hg hdb hst hpl)
/-- e.fld, e the exception that the suite holds (at a; its class cls, its dict d) -/
def tByX (C : Addr) (fld : Str) (a : Addr) (cls : Value) (d : Option Addr) (te : TE) : TE := fun σ H Q => te σ H fun x H1 => x = .ref a ∧ cls = .ref C ∧ ∃ (dd : Addr) (v : V), d = some dd ∧ H1 dd = some (.xd [(fld, v)]) ∧ Q v H1
theorem pe_byX {a : Addr} {oe : Obj} {cls : Value} {d : Option Addr} {pn : List (Addr × Obj)} {e : Expr} {te : TE} {pos : Pos} (T : XTxt X.K X.mg cn fld newId bmB C fI) (hz : Zc cls d oe) (hf : ∃ vs, oe.data = .fields vs) (he : PE (X.suite a ((a, oe) :: pn)) e te)
    (hb : attributeBase e fld X.env (eval e X.env) = eval e X.env := by rfl) : PE (X.suite a ((a, oe) :: pn)) (.Attribute e fld pos) (tByX C fld a cls d te) := by
  constructor
  intro pins s σ H Q I h
  refine attr_of hb (thn (he.run pins s σ H _ I h) ?_)
  rintro u s1 ⟨x, H1, I1, rx, rfl, rfl, dd, v, rfl, ea, q⟩
  obtain rfl : u = Value.ref a := rx
  obtain ⟨here, _⟩ := I1.pin (a, oe) (List.mem_append_left _ List.mem_cons_self)
  obtain ⟨vs, hd⟩ := hf
  obtain ⟨mA, hns, hr⟩ := (show ObjOk X.prog X.w H1 s1.heap dd (.xd [(fld, v)]) from I1.hok dd _ ea)
  obtain ⟨od, ho, hl⟩ := lookIn_ns hns
  have l : List.lookup fld [(fld, v)] = some v := by simp [List.lookup]
  have hrf := hr fld
  rw [l] at hrf
  obtain ⟨u, hu, ru⟩ := RelO.some_of (v := v) (o := mA fld) hrf
  have J : PySem.W.InstAt s1.heap a oe C (some od) := ⟨here, hz.1, by unfold PySem.W.notCls; rw [hd] <;> rfl, by rw [hz.2]; exact ho⟩
  exact HandSPX.exc_get I1.kIn J T.ga T.gg T.exC (PySem.W.findObj_own T.hdC T.noN rfl (by rw [hl, hu])) (handed_of ru) ⟨v, H1, I1.tok _, ru, q⟩
end
end Gx
namespace Gx
open PySem PySem.Spec PySem.Calls PyProof.Rows L2
/-! ### calls of defs that may raise, also with keywords, where no repr is under way -/
section
variable {P : Program} {w : World} {K : PySem.W.Frag} {mg : Str → Option Value} {base : Heap}
theorem FnG.toX {k : Nat} {f : Addr} {fd : FuncData} {ps : List Str} {sp : Sp} (F : FnG P w K mg base CX0 k f fd ps sp) : FnG P w K mg base (L2.CX P w) k f fd ps sp := by
  refine ⟨F.len, fun A outer s H args us vs Q E g hr he hb hv hs => codeAny_mono (F.run A outer s H args us vs Q E g hr he hb hv hs) ?_⟩
  intro r s' h
  match r, h with
  | .error e, h => exact h.elim
  | .ok (.ret u), h => exact h
/-- the name x is a def that keeps sp, and may raise -/
def CalX (P : Program) (w : World) (K : PySem.W.Frag) (mg : Str → Option Value) (base : Heap) (k : Nat) (x : Str) (ps : List Str) (sp : Sp) : Prop :=
  ∃ (f : Addr) (fd : FuncData), FnG P w K mg base (L2.CX P w) k f fd ps sp ∧ PySem.W.keepIn K (.ref f) = true ∧ Binds K fd ps [] ∧ mg x = some (.ref f)
theorem CalX.up {j k : Nat} {x : Str} {ps : List Str} {sp : Sp} (c : CalX P w K mg base j x ps sp) (h : j ≤ k) : CalX P w K mg base k x ps sp := by
  obtain ⟨f, fd, F, r⟩ := c
  exact ⟨f, fd, F.up h, r⟩
theorem CalG.toX {k : Nat} {x : Str} {ps : List Str} {sp : Sp} (c : CalG P w K mg base k x ps sp) : CalX P w K mg base k x ps sp := by
  obtain ⟨f, fd, F, r⟩ := c
  exact ⟨f, fd, F.toX, r⟩
theorem Def.calX {x qual : Str} {st : Stmt} {ps : List Str} (d : Def K mg x qual st ps) {k : Nat} {sp : Sp} (h : ∀ f fd, Fun K x qual st f fd → FnG P w K mg base (L2.CX P w) k f fd ps sp) : CalX P w K mg base k x ps sp := by
  obtain ⟨f, fd, F, b, g⟩ := d
  exact ⟨f, fd, h f fd F, F.kp, b, g⟩
/-- .. called with n values by position and keywords ks; gV puts them in the parameters' order -/
def CalK (P : Program) (w : World) (K : PySem.W.Frag) (mg : Str → Option Value) (base : Heap) (k : Nat) (x : Str) (ps : List Str) (n : Nat) (ks : List Str) (gV : List V → List V → List V) (sp : Sp) : Prop :=
  ∃ (f : Addr) (fd : FuncData) (g : List Value → List Value → List Value), FnG P w K mg base (L2.CX P w) k f fd ps sp ∧ PySem.W.keepIn K (.ref f) = true ∧ KBn K fd ps n ks g gV ∧ mg x = some (.ref f)
theorem CalK.up {j k n : Nat} {x : Str} {ps ks : List Str} {gV : List V → List V → List V} {sp : Sp} (c : CalK P w K mg base j x ps n ks gV sp) (h : j ≤ k) : CalK P w K mg base k x ps n ks gV sp := by
  obtain ⟨f, fd, g, F, r⟩ := c
  exact ⟨f, fd, g, F.up h, r⟩
/-- the top's def with keyword-only parameters and no defaults -/
def DefK (K : PySem.W.Frag) (mg : Str → Option Value) (x qual : Str) (st : Stmt) (ps : List Str) (n : Nat) (ks : List Str) : Prop :=
  ∃ (f : Addr) (fd : FuncData), Fun K x qual st f fd ∧ KBn K fd ps n ks (fun us ws => us ++ ws) (fun vs zs => vs ++ zs) ∧ mg x = some (.ref f)
theorem DefK.calK {x qual : Str} {st : Stmt} {ps ks : List Str} {n : Nat} (d : DefK K mg x qual st ps n ks) {k : Nat} {sp : Sp} (h : ∀ f fd, Fun K x qual st f fd → FnG P w K mg base (L2.CX P w) k f fd ps sp) : CalK P w K mg base k x ps n ks (fun vs zs => vs ++ zs) sp := by
  obtain ⟨f, fd, F, b, g⟩ := d
  exact ⟨f, fd, _, h f fd F, F.kp, b, g⟩
theorem kbn_of {fd : FuncData} {ps ks : List Str} {n : Nat} (h : ∀ us ws : List Value, us.length = n → ws.length = ks.length → bindArgs fd ⟨us, ks.zip ws⟩ = pure (ps.zip (us ++ ws))) : KBn K fd ps n ks (fun us ws => us ++ ws) (fun vs zs => vs ++ zs) :=
  ⟨fun s us ws _ h1 h2 => .of_eq (h us ws h1 h2), fun r1 r2 => r1.append r2⟩
end
section
variable {X : Cx}
/-- nothing is raised -/
theorem neverAt (σ : L2.St) : PassesAt (L2.CX X.prog X.w) X σ ((fun _ => E0) σ) := by
  rintro pins H s e s' I ⟨a, B, H', cls, d, _, _, _, _, _, _, _, no⟩
  exact no.elim
theorem runX {k : Nat} {f : Addr} {fd : FuncData} {ps : List Str} {sp : Sp} {E : L2.St → XK} {args : Args} {pins : List (Addr × Obj)} {σ : L2.St} {H : Hp} {s : Shared} {Q : VK} {us : List Value} {vs : List V}
    (F : FnG X.prog X.w X.K X.mg X.base (L2.CX X.prog X.w) k f fd ps sp) (g : Gd X.A) (room : Room k X.A) (hb : BindsTo s fd args (ps.zip us)) (hx : PassesAt (L2.CX X.prog X.w) X σ (E σ))
    (I : Inv X pins σ H s) (r : Vals vs us) (want : sp vs H Q (E σ)) : wpAny (model X.prog X.w) X.A (call (.ref f) args.pos args.kw) (EP X pins σ Q) X.xe s := by
  have hc := F.run X.A X.stack s H args us vs Q (E σ) g room I.env0 hb r want
  refine wpAny_call (codeAny_mono hc ?_)
  intro res s' hres
  match res, hres with
  | .error e, hres => exact hx pins H s e s' I hres
  | .ok (.ret u), hres => exact I.after hres
def tClX (sp : Sp) (E : L2.St → XK) (t : TA) : TE := fun σ H Q => t σ H fun vs H1 => sp vs H1 Q (E σ)
theorem pe_calX {x : Str} {ps : List Str} {sp : Sp} {k : Nat} {e : Expr} {es : List Expr} {t : TA} {E : L2.St → XK} {p pos : Pos} (c : CalX X.prog X.w X.K X.mg X.base k x ps sp) (g : Gd X.A) (room : Room k X.A) (hg : Gl X x) (hx : ∀ σ, PassesAt (L2.CX X.prog X.w) X σ (E σ)) (h : PA X (e :: es) t)
    (hdb : (x == ("__debug__" : Str)) = false := by decide) (hst : starEach (e :: es) X.env = (false, eval e X.env) :: starEach es X.env := by rfl) (hpl : (backTo pos (starEach es X.env)).any (·.1) = false := by rfl) :
    PE X (.Call (.Name x p) (e :: es) [] pos) (tClX sp E t) := by
  obtain ⟨f, fd, F, kp, b, hm⟩ := c
  refine ⟨fun pins s σ H Q I want => wpAny_Call_Name_kw (ld_glob I hg hm ?_ hdb)⟩
  refine PySem.W.callWith_K (h₀ := X.base) I.ok.mod.kin kp (thn (h.run pos pins s σ H _ I want) fun us s1 ⟨vs, H1, I1, r, q⟩ => ⟨I1.kIn, ?_⟩) hst hpl
  have hl : us.length = ps.length := r.length.symm.trans (F.len _ _ _ _ q)
  have b1 := b s1 us I1.kIn (by rw [List.append_nil]; exact hl)
  rw [List.append_nil] at b1
  exact runX (args := ⟨us, []⟩) F g room b1 (hx σ) I1 r q
def tClK (n m : Nat) (sp : Sp) (gV : List V → List V → List V) (E : L2.St → XK) (t tk : TA) : TE := fun σ H Q => t σ H fun vs H1 => tk σ H1 fun zs H2 => vs.length = n ∧ zs.length = m ∧ sp (gV vs zs) H2 Q (E σ)
theorem pe_calK {x : Str} {ps ks : List Str} {n : Nat} {gV : List V → List V → List V} {sp : Sp} {k : Nat} {e : Expr} {es : List Expr} {kws : List Keyword} {t tk : TA} {E : L2.St → XK} {p pos : Pos} (c : CalK X.prog X.w X.K X.mg X.base k x ps n ks gV sp) (g : Gd X.A) (room : Room k X.A) (hg : Gl X x)
    (hx : ∀ σ, PassesAt (L2.CX X.prog X.w) X σ (E σ)) (h : PA X (e :: es) t) (hk : PK X kws tk) (hall : (backToKw pos (keywordEach kws X.env)).all (·.1.isSome) = true := by rfl) (hks : (backToKw pos (keywordEach kws X.env)).filterMap (·.1) = ks := by rfl)
    (hdb : (x == ("__debug__" : Str)) = false := by decide) (hst : starEach (e :: es) X.env = (false, eval e X.env) :: starEach es X.env := by rfl)
    (hpl : ((backTo pos (starEach (e :: es) X.env)).any (·.1) || (backToKw pos (keywordEach kws X.env)).any (·.1.isNone)) = false := by rfl) :
    PE X (.Call (.Name x p) (e :: es) kws pos) (tClK n ks.length sp gV E t tk) := by
  obtain ⟨f, fd, gg, F, kp, b, hm⟩ := c
  refine ⟨fun pins s σ H Q I want => wpAny_Call_Name_kw (ld_glob I hg hm ?_ hdb)⟩
  refine PySem.W.callWith_KW (h₀ := X.base) I.ok.mod.kin kp hall (thn (h.run pos pins s σ H _ I want) ?_) hpl hst
  rintro us s1 ⟨vs, H1, I1, r, q⟩
  refine thn (hk.run pos pins s1 σ H1 _ I1 q) ?_
  rintro ws s2 ⟨zs, H2, I2, rz, l1, l2, q2⟩
  refine ⟨I2.kIn, ?_⟩
  rw [hks]
  exact runX (args := ⟨us, ks.zip ws⟩) F g room (b.to s2 us ws I2.kIn (r.length.symm.trans l1) (rz.length.symm.trans l2)) (hx σ) I2 (b.rel r rz) q2
end
end Gx

set_option maxRecDepth 100000
set_option maxHeartbeats 4000000
namespace Gx
open PySem PySem.Spec PySem.Calls PyProof.Rows L2
/-! ### own protocols: in, [], len, str, == and != of instances -/
theorem rel_ref (a : Addr) : RelV (V.ref a) (Value.ref a) := rfl
/-- a method of the class at C that keeps the promise sp, by at most level k -/
def CalM (P : Program) (w : World) (K : PySem.W.Frag) (mg : Str → Option Value) (base : Heap) (C : Addr) (m : Str) (k : Nat) (ps : List Str) (sp : Sp) : Prop :=
  ∃ (f : Addr) (fd : FuncData), FnOk P w K mg base CX0 k f fd ps sp ∧ Meth K C m f ∧ Binds K fd ps [] ∧ PySem.W.fnIn K f = true
theorem CalM.mono {P : Program} {w : World} {K : PySem.W.Frag} {mg : Str → Option Value} {base : Heap} {C : Addr} {m : Str} {j k : Nat} {ps : List Str} {sp : Sp} (c : CalM P w K mg base C m j ps sp) (h : j ≤ k) : CalM P w K mg base C m k ps sp := by
  obtain ⟨f, fd, F, more⟩ := c
  exact ⟨f, fd, F.mono h, more⟩
section
variable {X : Cx} {C : Addr} {k : Nat} {ps : List Str} {sp : Sp} {m : Str}
/-- the method runs, somewhere below the body -/
theorem run_below {f : Addr} {fd : FuncData} {A : Around} {pins : List (Addr × Obj)} {σ : L2.St} {H : Hp} {s : Shared} {us : List Value} {vs : List V} {Q : VK} {E : Value → Shared → Prop} (F : FnOk X.prog X.w X.K X.mg X.base CX0 k f fd ps sp) (room : Room k A) (fr : A.frames = X.A.frames) (b : Binds X.K fd ps [])
    (I : Inv X pins σ H s) (r : Vals vs us) (want : sp vs H Q E0) : wpAny (model X.prog X.w) A (call (.ref f) us) (EP X pins σ Q) E s := by
  have e0 : Env0 X.prog X.w X.K X.mg X.base A X.stack s H := by
    have e := I.env0
    exact ⟨by rw [fr]; exact e.frames, e.mod, e.bs, e.bsz, e.funs, e.frf, e.hok, e.bare⟩
  have hl : us.length = ps.length := r.length.symm.trans (F.len _ _ _ _ want)
  have bt : BindsTo s fd ⟨us, []⟩ (ps.zip us) := by
    have q := b s us I.kIn (by rw [List.append_nil]; exact hl)
    rw [List.append_nil] at q
    exact q
  refine wpAny_call (codeAny_mono (F.run A X.stack s H ⟨us, []⟩ us vs Q E0 room e0 bt r want) fun res s' hres => ?_)
  match res, hres with
  | .error e, hres => exact hres.elim
  | .ok (.ret u), hres => exact I.after hres
/-- x in o, x not in o -/
def rInM (C : Addr) (sp : Sp) (neg : Bool) : R2 := fun x y H Q => ∃ a dx fs, y = .ref a ∧ H a = some (.ins C dx fs) ∧ sp [.ref a, x] H (fun v H' => ∃ b, v = .bl b ∧ Q (.bl (if neg then !b else b)) H') E0
theorem op_inM (c : CalM X.prog X.w X.K X.mg X.base C "__contains__" k ps sp) (hr : Room k X.A) : OpR X (compareOp .In) (rInM C sp false) := by
  intro pins s σ H x y v u Q I rx ry h
  obtain ⟨f, fd, F, me, b, _⟩ := c
  obtain ⟨a, dx, fs, rfl, ea, q⟩ := h
  obtain rfl : u = Value.ref a := ry
  obtain ⟨mA, O, _⟩ := ins_get I.hok ea
  obtain ⟨od, J, _⟩ := O.look
  obtain ⟨mm, hF⟩ := I.fr
  refine PySem.W.in_K hF I.ok.mod.kin J me.at_ me.fn (wpAny_mono (run_below F hr rfl b I (.cons (rel_ref a) (.cons rx .nil)) q) (fun r s' z => ?_) fun _ _ e => e)
  obtain ⟨v', H', I', rv, t, rfl, q'⟩ := z
  cases rv
  exact wpAny_truthy_bool ⟨.bl t, H', I', rfl, q'⟩
theorem op_notinM (c : CalM X.prog X.w X.K X.mg X.base C "__contains__" k ps sp) (hr : Room k X.A) : OpR X (compareOp .NotIn) (rInM C sp true) := by
  intro pins s σ H x y v u Q I rx ry h
  obtain ⟨f, fd, F, me, b, _⟩ := c
  obtain ⟨a, dx, fs, rfl, ea, q⟩ := h
  obtain rfl : u = Value.ref a := ry
  obtain ⟨mA, O, _⟩ := ins_get I.hok ea
  obtain ⟨od, J, _⟩ := O.look
  obtain ⟨mm, hF⟩ := I.fr
  refine PySem.W.notIn_K hF I.ok.mod.kin J me.at_ me.fn (wpAny_mono (run_below F hr rfl b I (.cons (rel_ref a) (.cons rx .nil)) q) (fun r s' z => ?_) fun _ _ e => e)
  obtain ⟨v', H', I', rv, t, rfl, q'⟩ := z
  cases rv
  exact wpAny_truthy_bool ⟨.bl (!t), H', I', rfl, q'⟩
/-- o[x] -/
def rIxM (C : Addr) (sp : Sp) : R2 := fun x y H Q => ∃ a dx fs, x = .ref a ∧ H a = some (.ins C dx fs) ∧ sp [.ref a, y] H Q E0
theorem pe_ixM {a b : Expr} {ta tb : TE} {pos : Pos} (c : CalM X.prog X.w X.K X.mg X.base C "__getitem__" k ps sp) (hr : Room (k + 1) X.A) (ha : PE X a ta) (hb : PE X b tb)
    (hs : ∀ v u, subscripted b true v u = runValue (.builtin "lifetime.subscript" ⟨[v, u], []⟩)) : PE X (.Subscript a b pos) (tOp (rIxM C sp) ta tb) := by
  obtain ⟨f, fd, F, me, bi, fi⟩ := c
  refine ⟨fun pins s σ H Q I h => ?_⟩
  refine Subscript_ (binT ha hb I h fun v u s2 x y H2 I2 rx ry q => ?_)
  obtain ⟨p, dx, fs, rfl, ea, q⟩ := q
  obtain rfl : v = Value.ref p := rx
  obtain ⟨mA, O, _⟩ := ins_get I2.hok ea
  obtain ⟨od, J, _⟩ := O.look
  obtain ⟨mm, hF⟩ := I2.fr
  exact PySem.W.sub_K hF I2.ok.mod.kin J me.at_ fi me.fn (run_below F hr.in1 rfl bi I2 (.cons (rel_ref _) (.cons ry .nil)) q) (hs _ _)
/-- len(o) -/
def rLenM (C : Addr) (sp : Sp) : List V → Hp → VK → Prop := fun vs H Q => ∃ a dx fs, vs = [.ref a] ∧ H a = some (.ins C dx fs) ∧ sp [.ref a] H (fun v H' => ∃ n : Nat, v = .int n ∧ n ≤ 1000000 ∧ Q (.int n) H') E0
theorem call_lenM (c : CalM X.prog X.w X.K X.mg X.base C "__len__" k ps sp) (hr : Room (k + 1) X.A) : CallR X (.builtin "len") (rLenM C sp) := by
  intro pins s σ H xs us Q I r h
  obtain ⟨f, fd, F, me, b, _⟩ := c
  obtain ⟨a, dx, fs, rfl, ea, q⟩ := h
  rw [Vals.ref1 r]
  obtain ⟨mA, O, _⟩ := ins_get I.hok ea
  obtain ⟨od, J, _⟩ := O.look
  obtain ⟨mm, hF⟩ := I.fr
  refine PySem.W.len_K hF I.ok.mod.kin J me.at_ me.fn (wpAny_mono (run_below F hr.in1 rfl b I (.cons (rel_ref a) .nil) q) (fun r s' z => ?_) fun _ _ e => e)
  obtain ⟨v', H', I', rv, n, rfl, hn, q'⟩ := z
  obtain ⟨t, rfl⟩ := (show ∃ t, r = Value.int n t from rv)
  exact ⟨⟨by omega, by omega⟩, .int n, H', I'.tok _, ⟨_, rfl⟩, q'⟩
/-- str(o) -/
def rStrM (C : Addr) (sp : Sp) : List V → Hp → VK → Prop := fun vs H Q => ∃ a dx fs, vs = [.ref a] ∧ H a = some (.ins C dx fs) ∧ sp [.ref a] H (fun v H' => ∃ z : Str, v = .str z ∧ Q (.str z) H') E0
theorem call_strM (c : CalM X.prog X.w X.K X.mg X.base C "__str__" k ps sp) (hr : Room (k + 2) X.A) : CallR X (.type "str") (rStrM C sp) := by
  intro pins s σ H xs us Q I r h
  obtain ⟨f, fd, F, me, b, _⟩ := c
  obtain ⟨a, dx, fs, rfl, ea, q⟩ := h
  rw [Vals.ref1 r]
  obtain ⟨mA, O, _⟩ := ins_get I.hok ea
  obtain ⟨od, J, _⟩ := O.look
  have r2 : Room k X.A.in1.in1 := (hr.in1).in1
  refine PySem.W.kso_call r2.units0 I.kIn J me.at_ me.fn (wpAny_mono (run_below F r2 rfl b I (.cons (rel_ref a) .nil) q) (fun r s' z => ?_) fun _ _ e => e)
  obtain ⟨v', H', I', rv, y, rfl, q'⟩ := z
  obtain ⟨t, rfl⟩ := (show ∃ t, r = Value.str y t from rv)
  exact ⟨.str y, H', I', ⟨_, rfl⟩, q'⟩
/-- what an instance of the class at C may be compared with: another one, a tuple, a dict -/
inductive Oth (K : PySem.W.Frag) (H : Hp) (C : Addr) : V → Value → Prop
  | ins {a dx : Addr} {fs : List (Str × V)} (e : H a = some (.ins C dx fs)) : Oth K H C (.ref a) (.ref C)
  | tup {a : Addr} {xs : List V} (e : SqT K H a xs) : Oth K H C (.ref a) (.type "tuple")
  | dict {a : Addr} {kvs : List (Key × V)} (e : H a = some (.dK kvs)) : Oth K H C (.ref a) (.type "dict")
theorem sub_tuple_own {K : PySem.W.Frag} {C : Addr} : PySem.W.subIn K (.type "tuple") (.ref C) = some false := by
  have e : fastBuiltinMro "tuple" = some [.type "tuple", .type "object"] := by decide +kernel
  show (fastBuiltinMro "tuple").map (·.contains (.ref C)) = some false
  rw [e]
  first
    | rfl
    | simp
theorem sub_dict_own {K : PySem.W.Frag} {C : Addr} : PySem.W.subIn K (.type "dict") (.ref C) = some false := by
  have e : fastBuiltinMro "dict" = some [.type "dict", .type "object"] := by decide +kernel
  show (fastBuiltinMro "dict").map (·.contains (.ref C)) = some false
  rw [e]
  first
    | rfl
    | simp
theorem Oth.looks {M : Model} {pins : List (Addr × Obj)} {σ : L2.St} {H : Hp} {s : Shared} {y : V} {u t : Value} (I : Inv X pins σ H s) (o : Oth X.K H C y t) (r : RelV y u) :
    PySem.W.Looks M s.heap (typeOf u) t ∧ PySem.W.notFirst X.K C t = true := by
  cases o with
  | @ins a dx fs e =>
    obtain rfl : u = Value.ref a := r
    obtain ⟨mA, O, _⟩ := ins_get I.hok e
    obtain ⟨od, J, _⟩ := O.look
    exact ⟨J.type, by simp [PySem.W.notFirst]⟩
  | @tup a xs e =>
    obtain rfl : u = Value.ref a := r
    obtain ⟨its, rv, ⟨ob, ho, hc, _⟩, _⟩ := I.tuple e
    refine ⟨?_, by simp [PySem.W.notFirst, sub_tuple_own]⟩
    intro A Q E s' kp q
    exact wpAny_typeOf (T := "tuple") ⟨ob, kp _ _ ho, hc⟩ q
  | @dict a kvs e =>
    obtain rfl : u = Value.ref a := r
    obtain ⟨_, _, vs, _, dd⟩ := dk_of I.hok e
    refine ⟨?_, by simp [PySem.W.notFirst, sub_dict_own]⟩
    intro A Q E s' kp q
    obtain ⟨ob, ho, hc⟩ := dd.typeIs
    exact wpAny_typeOf (T := "dict") ⟨ob, kp _ _ ho, hc⟩ q
/-- o == y by the class's own == -/
def rEqM (K : PySem.W.Frag) (C : Addr) (sp : Sp) : R2 := fun x y H Q => ∃ a dx fs t, x = .ref a ∧ H a = some (.ins C dx fs) ∧ Oth K H C y t ∧ sp [.ref a, y] H (fun v H' => ∃ b, v = .bl b ∧ Q (.bl b) H') E0
theorem op_eqM (c : CalM X.prog X.w X.K X.mg X.base C "__eq__" k ps sp) (hr : Room k X.A) : OpR X (compareOp .Eq) (rEqM X.K C sp) := by
  intro pins s σ H x y v u Q I rx ry h
  obtain ⟨f, fd, F, me, b, _⟩ := c
  obtain ⟨a, dx, fs, t, rfl, ea, o, q⟩ := h
  obtain rfl : v = Value.ref a := rx
  obtain ⟨mA, O, _⟩ := ins_get I.hok ea
  obtain ⟨od, J, _⟩ := O.look
  obtain ⟨mm, hF⟩ := I.fr
  obtain ⟨lk, nf⟩ := o.looks (M := model X.prog X.w) I ry
  show wpAny _ _ (richCompare .Eq (.ref a) u) _ _ _
  refine PySem.W.cmp_K (op := .Eq) hr.units0 hF I.ok.mod.kin J lk nf me.at_ me.fn (wpAny_mono (run_below F hr rfl b I (.cons (rel_ref _) (.cons ry .nil)) q) (fun r s' z => ?_) fun _ _ e => e)
  obtain ⟨v', H', I', rv, t, rfl, q'⟩ := z
  cases rv
  exact ⟨.bl t, H', I', rfl, q'⟩
end
section
variable {prog : Program} {w : World} {A : Around} {E : Value → Shared → Prop} {s : Shared} {K : PySem.W.Frag} {x C f : Addr} {ox : Obj} {od : Option Obj} {y : Value}
theorem objNe_by (inK : K.In s.heap) (J : PySem.W.InstAt s.heap x ox C od) (hs : PySem.W.findIn K (.ref C) "__eq__" = some (some (.ref f))) (hf : PySem.W.isFn K (.ref f) = true) (hu : A.units < cLine) {Q : Fin → Shared → Prop}
    (hcall : wpAny (model prog w) A (call (.ref f) [.ref x, y]) (fun v s' => ∃ b, v = .bool b ∧ Q (.done (.ret (.bool (!b)))) s') E s) : wpAny (model prog w) A (Builtin.«object.__ne__» ⟨[.ref x, y], []⟩) Q E s := by
  unfold Builtin.«object.__ne__»
  repeat (first
    | with_reducible refine wpAny_cRoomFor hu ?_
    | (refine wpAny_bind (m := callSpecialIfBound? (.ref x) (Str.ofString "__eq__") [y]) (PySem.W.ifBound_K inK J hs hf (wpAny_mono hcall (fun r s' hr => by
          obtain ⟨b, rfl, hq⟩ := hr
          repeat (first | exact hq | exact wpAny_pure hq | exact wpAny_truthy_bool hq | (refine wpAny_bind (m := truthy (.bool _)) (wpAny_truthy_bool ?_)) | wp_step)) fun _ _ e => e)))
    | wp_step)
theorem bound_ne {args : List Value} {Q : Option Value → Shared → Prop} (inK : K.In s.heap) (J : PySem.W.InstAt s.heap x ox C od) (hs : PySem.W.findIn K (.ref C) "__ne__" = some (some (.builtin "object.__ne__")))
    (h : wpAny (model prog w) A (call (.builtin "object.__ne__") (.ref x :: args)) (fun v => Q (some v)) E s) : wpAny (model prog w) A (callSpecialIfBound? (.ref x) "__ne__" args) Q E s := by
  simp only [callSpecialIfBound?, bindSpecialIfBound?]
  refine wpAny_holding (wpAny_bind (wpAny_bind (wpAny_bind (J.type.here ((PySem.W.looks_findIn inK hs).here ?_)))))
  refine wpAny_bind (wpAny_askSetting (wpAny_ite ?_))
  have last : wpAny (model prog w) A (call (.builtin "object.__ne__") ([.ref x] ++ args) >>= fun v => pure (some v)) Q E s := wpAny_bind (wpAny_mono h (fun v s' h' => wpAny_pure h') fun _ _ h' => h')
  split
  · exact wpAny_bind (wpAny_of_eq (PySem.F.cmp_object.ne.bind _) (wpAny_pure (by exact last)))
  · exact wpAny_tryCatch (wpAny_bind (wpAny_of_eq (PySem.F.cmp_object.ne.bind _) (wpAny_pure (by exact last))))
theorem rc_neM {tb : Value} {Q : Value → Shared → Prop} (inK : K.In s.heap) (J : PySem.W.InstAt s.heap x ox C od) (hm : PySem.W.mroIn K C (.type "object") = some true) (hn : PySem.W.findIn K (.ref C) "__ne__" = some (some (.builtin "object.__ne__")))
    (hs : PySem.W.findIn K (.ref C) "__eq__" = some (some (.ref f))) (hf : PySem.W.isFn K (.ref f) = true) (hu : A.units < cLine) (hu1 : A.in1.units < cLine) (lk : PySem.W.Looks (model prog w) s.heap (typeOf y) tb) (nf : PySem.W.notFirst K C tb = true)
    (hcall : wpAny (model prog w) A.in1 (call (.ref f) [.ref x, y]) (fun v s' => ∃ b, v = .bool b ∧ Q (.bool (!b)) s') E s) : wpAny (model prog w) A (richCompare .NotEq (.ref x) y) Q E s := by
  have one : wpAny (model prog w) A (tryCompare (.ref x) "__ne__" y) (fun r s' => ∃ v, r = some v ∧ Q v s') E s := by
    unfold tryCompare
    refine wpAny_bind (bound_ne inK J hn (wpAny_call (codeAny_call_builtin PySem.F.cmp_object.ne.plain PySem.F.cmpEntry_ne
      (PySem.W.check_slot PySem.F.cmpKind_ne PySem.F.cmpSplit_ne (J.type.andThen (PySem.W.looks_mroIn inK hm)) (PySem.F.cmpArgs_ne _ _) (objNe_by inK J hs hf hu1 (wpAny_mono hcall (fun v s' hv => ?_) fun _ _ e => e))))))
    obtain ⟨b, rfl, q⟩ := hv
    first
      | exact ⟨b, rfl, wpAny_pure ⟨_, rfl, q⟩⟩
      | exact ⟨b, rfl, wpAny_pure (wpAny_pure ⟨_, rfl, q⟩)⟩
      | exact ⟨b, rfl, ⟨_, rfl, q⟩⟩
  unfold richCompare
  simp only [oneThing_ref]
  refine wpAny_holding (wpAny_bind (wpAny_cRoomFor hu ?_))
  refine wpAny_bind (J.type.here (wpAny_bind (lk.here ?_)))
  split
  · rename_i q
    have e : PySem.W.subIn K tb (.ref C) = some false := by
      rcases Bool.or_eq_true_iff.mp nf with e | e
      · rw [beq_iff_eq.mp e] at q
        simp at q
      · exact beq_iff_eq.mp e
    refine wpAny_bind ((PySem.W.looks_subIn inK e).here ?_)
    simp only [Bool.false_eq_true, if_false]
    refine wpAny_bind (wpAny_mono one (fun r s' z => ?_) fun _ _ e => e)
    obtain ⟨v, rfl, hq⟩ := z
    exact wpAny_pure hq
  · refine wpAny_bind (wpAny_pure ?_)
    simp only [Bool.false_eq_true, if_false]
    refine wpAny_bind (wpAny_mono one (fun r s' z => ?_) fun _ _ e => e)
    obtain ⟨v, rfl, hq⟩ := z
    exact wpAny_pure hq
end
section
variable {X : Cx} {C : Addr} {k : Nat} {ps : List Str} {sp : Sp}
/-- o != y, the class having no != of its own -/
def rNeM (K : PySem.W.Frag) (C : Addr) (sp : Sp) : R2 := fun x y H Q => ∃ a dx fs t, x = .ref a ∧ H a = some (.ins C dx fs) ∧ Oth K H C y t ∧ sp [.ref a, y] H (fun v H' => ∃ b, v = .bl b ∧ Q (.bl (!b)) H') E0
theorem op_neM (c : CalM X.prog X.w X.K X.mg X.base C "__eq__" k ps sp) (hn : PySem.W.findIn X.K (.ref C) "__ne__" = some (some (.builtin "object.__ne__"))) (hm : PySem.W.mroIn X.K C (.type "object") = some true) (hr : Room (k + 1) X.A) :
    OpR X (compareOp .NotEq) (rNeM X.K C sp) := by
  intro pins s σ H x y v u Q I rx ry h
  obtain ⟨f, fd, F, me, b, _⟩ := c
  obtain ⟨a, dx, fs, t, rfl, ea, o, q⟩ := h
  obtain rfl : v = Value.ref a := rx
  obtain ⟨mA, O, _⟩ := ins_get I.hok ea
  obtain ⟨od, J, _⟩ := O.look
  obtain ⟨lk, nf⟩ := o.looks (M := model X.prog X.w) I ry
  show wpAny _ _ (richCompare .NotEq (.ref a) u) _ _ _
  refine rc_neM I.kIn J hm hn me.at_ me.fn hr.units0 hr.in1.units0 lk nf (wpAny_mono (run_below F hr.in1 rfl b I (.cons (rel_ref _) (.cons ry .nil)) q) (fun r s' z => ?_) fun _ _ e => e)
  obtain ⟨v', H', I', rv, t, rfl, q'⟩ := z
  cases rv
  exact ⟨t, rfl, .bl (!t), H', I', rfl, q'⟩
/-! ### dicts of data compared -/
/-- the pairs ks, one by one, in the dict of the pairs ls -/
inductive HitsV (K : PySem.W.Frag) (H : Hp) (ls : List (Key × V)) : List (Key × V) → Bool → Prop
  | nil : HitsV K H ls [] true
  | miss {p : Key × V} {r : List (Key × V)} (e : valV ls p.1 = none) : HitsV K H ls (p :: r) false
  | hit {p : Key × V} {r : List (Key × V)} {y : V} {d e : PyData} {b : Bool} (at_ : valV ls p.1 = some y) (hd : Dp K H p.2 d) (he : Dp K H y e) (sd : SeqAt.shaped d = true) (se : SeqAt.shaped e = true) (more : HitsV K H ls r b) : HitsV K H ls (p :: r) (PyData.eqv d e && b)
theorem HitsV.raw {pins : List (Addr × Obj)} {σ : L2.St} {H : Hp} {s : Shared} (I : Inv X pins σ H s) (hu : X.A.in1.units + 64 < cLine) {ls : List (Key × V)} {vb : List (Key × Value)} (rb : KV ls vb) {ks : List (Key × V)} {r : Bool} (h : HitsV X.K H ls ks r) :
    ∀ {va : List (Key × Value)}, KV ks va → PySem.W.KeqHits X.A.in1 s vb va r := by
  induction h with
  | nil =>
    intro va ra
    unfold KV at ra
    cases ra
    exact .nil
  | @miss p r e =>
    intro va ra
    unfold KV at ra
    cases ra with
    | @cons _ q _ qs h t =>
      obtain ⟨k, v⟩ := q
      obtain ⟨h1, h2⟩ := h
      have h1' : p.1 = k := h1
      have rr := rb.val p.1
      rw [e, h1'] at rr
      refine .miss ?_
      cases c : valueAt vb k with
      | none => rfl
      | some z => rw [c] at rr; exact rr.elim
  | @hit p r y d e b at_ hd he sd se more ih =>
    intro va ra
    unfold KV at ra
    cases ra with
    | @cons _ q _ qs h t =>
      obtain ⟨k, v⟩ := q
      obtain ⟨h1, h2⟩ := h
      have h1' : p.1 = k := h1
      have rr := rb.val p.1
      rw [at_, h1'] at rr
      obtain ⟨z, hz, rz⟩ := RelO.some_of rr
      obtain ⟨as, r1⟩ := Dp.reads I d p.2 v hd h2
      obtain ⟨bs, r2⟩ := Dp.reads I e y z he rz
      exact .hit hz (PySem.W.keq_at r1 r2 sd se hu) (ih t)
def rEqDX (K : PySem.W.Frag) : R2 := fun x y H Q => ∃ a b ks ls r, x = .ref a ∧ y = .ref b ∧ H a = some (.dK ks) ∧ H b = some (.dK ls) ∧ (ks.length = ls.length → HitsV K H ls ks r) ∧ Q (.bl (ks.length == ls.length && r)) H
theorem op_eqDX (hu : X.A.units + 66 < cLine) : OpR X (compareOp .Eq) (rEqDX X.K) := by
  intro pins s σ H x y v u Q I rx ry h
  obtain ⟨a, b, ks, ls, r, rfl, rfl, ea, eb, hits, q⟩ := h
  obtain rfl : v = Value.ref a := rx
  obtain rfl : u = Value.ref b := ry
  obtain ⟨_, ya, va, ra, da⟩ := dk_of I.hok ea
  obtain ⟨_, yb, vb, rb, db⟩ := dk_of I.hok eb
  have l1 := ra.length
  have l2 := rb.length
  have u1 : X.A.in1.units + 64 < cLine := by
    have e : X.A.in1.units ≤ X.A.units + 1 := by
      show X.A.units + 1 ≤ _
      exact Nat.le_refl _
    omega
  refine PySem.W.keq_eq (knd := mixKind X.prog X.w) (r := r) ya yb da db (by omega) (fun e => (hits (by omega)).raw I u1 rb ra) (fin_bl I q ?_)
  rw [l1, l2]
/-! ### a star before a dict -/
def tStarD (te : TE) (t : TA) : TA := fun σ H Q => te σ H fun x H1 => ∃ p kvs, x = V.ref p ∧ H1 p = some (.dK kvs) ∧ t σ H1 fun ys H2 => Q ((kvs.map fun kv => kV kv.1) ++ ys) H2
theorem star_dict {pins : List (Addr × Obj)} {σ : L2.St} {H : Hp} {s : Shared} (hc : X.calm = true) {a : Addr} {kvs : List (Key × V)} {E : Value → Shared → Prop} {Q : List Value → Shared → Prop} (I : Inv X pins σ H s) (h : H a = some (.dK kvs)) (hQ : ∀ us s', Inv X pins σ H s' → Vals (kvs.map fun kv => kV kv.1) us → Q us s') :
    PySem.W.StarOf (model X.prog X.w) X.A E (.ref a) Q s := by
  obtain ⟨z, lo, vs, rel, dd⟩ := dk_of I.hok h
  obtain ⟨ep, hat⟩ := dd.dictAt
  have hT : s.TypeIs (.ref a) "dict" := dd.typeIs
  have z2 : vs.length ≤ sizeLine := by rw [← rel.length]; exact z
  have ek : (kvs.map fun kv => kV kv.1) = vs.map fun p => kV p.1 := by
    have e := congrArg (List.map kV) rel.keys
    rw [List.map_map, List.map_map] at e
    exact e
  have g : wpAny (model X.prog X.w) X.A (collect (.ref a)) Q E s := by
    refine PySem.W.kdu_collect (PySem.W.kdl_dict (knd := mixKind X.prog X.w) (kvs := vs) (ep := ep) lo) (I.ok.hd hc) hat z2 fun h' tk acc hk hacc => ?_
    have hv : Vals (vs.map fun p => kV p.1) acc.toList := keys_at (by rw [Array.length_toList]; exact hacc.1) fun j v e => hacc.2 j v (by rw [← Array.getElem?_toList]; exact e)
    exact hQ _ _ (I.kept (t' := tk) hk) (by rw [ek]; exact hv)
  unfold PySem.W.StarOf notIterableAtAll
  exact wpAny_bind (wpAny_specialOf hT PySem.F.slot_dict_iter.lookup (wpAny_pure ⟨rfl, g⟩))
theorem pa_starD {e : Expr} {es : List Expr} {te : TE} {t : TA} {p : Pos} (hc : X.calm = true) (he : PE X e te) (hr : PA X es t) (hs : starEach (.Starred e p :: es) X.env = (true, eval e X.env) :: starEach es X.env := by rfl) : PA X (.Starred e p :: es) (tStarD te t) := by
  refine ⟨fun pos pins s σ H Q I h => ?_⟩
  refine PySem.W.items_star (thn (he.run pins s σ H _ I h) fun v s1 ⟨y, H1, I1, ry, a, kvs, ey, hx, q⟩ => ?_) hs
  subst ey
  obtain rfl : v = Value.ref a := ry
  refine star_dict hc I1 hx fun us s2 I2 rv => ?_
  exact thn (hr.run pos pins s2 σ H1 _ I2 q) fun ws s3 ⟨vs, H3, I3, r3, q3⟩ => ⟨_, H3, I3, rv.append r3, q3⟩
end
end Gx

set_option maxRecDepth 100000
set_option maxHeartbeats 4000000
namespace Gx
open PySem PySem.Spec PyProof.Rows L2
/-! ### classes of the top: methods, properties, making -/
theorem fn_in {K : PySem.W.Frag} {f : Addr} {oc : Value} {od : Option Addr} {fd : FuncData} {sl : Array (Option Value)} (l : K.lookup f = some ⟨oc, od, .func fd, sl⟩) : PySem.W.fnIn K f = true := by
  unfold PySem.W.fnIn
  rw [l]
/-- the class at C has the def st as its property m -/
def PropD (K : PySem.W.Frag) (C : Addr) (m qual : Str) (st : Stmt) : Prop := ∃ (p f : Addr) (fd : FuncData), PropOf K C m p f ∧ Fun K m qual st f fd ∧ Binds K fd ["self"] []
/-- .. as its method m -/
def DefM (K : PySem.W.Frag) (C : Addr) (m qual : Str) (st : Stmt) (ps : List Str) : Prop := ∃ (f : Addr) (fd : FuncData), Fun K m qual st f fd ∧ Meth K C m f ∧ Binds K fd ps [] ∧ PySem.W.fnIn K f = true
/-- a property that keeps the promise sp -/
def CalP (P : Program) (w : World) (K : PySem.W.Frag) (mg : Str → Option Value) (base : Heap) (C : Addr) (m : Str) (k : Nat) (sp : Sp) : Prop :=
  ∃ (p f : Addr) (fd : FuncData), PropOf K C m p f ∧ FnOk P w K mg base CX0 k f fd ["self"] sp ∧ Binds K fd ["self"] []
/-- C(..) by its __init__'s promise -/
def CalI (P : Program) (w : World) (K : PySem.W.Frag) (mg : Str → Option Value) (base : Heap) (C : Addr) (k : Nat) (ps : List Str) (sp : Sp) : Prop :=
  ∃ (f : Addr) (fd : FuncData), Mk K C f ∧ FnOk P w K mg base CX0 k f fd ps sp ∧ Binds K fd ps []
section
variable {P : Program} {w : World} {K : PySem.W.Frag} {mg : Str → Option Value} {base : Heap} {C : Addr} {m qual : Str} {st : Stmt} {k : Nat} {ps : List Str} {sp : Sp}
theorem DefM.cal (d : DefM K C m qual st ps) (h : ∀ f fd, Fun K m qual st f fd → FnOk P w K mg base CX0 k f fd ps sp) : CalM P w K mg base C m k ps sp := by
  obtain ⟨f, fd, F, me, b, fi⟩ := d
  exact ⟨f, fd, h f fd F, me, b, fi⟩
theorem PropD.cal (d : PropD K C m qual st) (h : ∀ f fd, Fun K m qual st f fd → FnOk P w K mg base CX0 k f fd ["self"] sp) : CalP P w K mg base C m k sp := by
  obtain ⟨p, f, fd, pr, F, b⟩ := d
  exact ⟨p, f, fd, pr, h f fd F, b⟩
theorem CalP.mono {j : Nat} (c : CalP P w K mg base C m j sp) (h : j ≤ k) : CalP P w K mg base C m k sp := by
  obtain ⟨p, f, fd, pr, F, b⟩ := c
  exact ⟨p, f, fd, pr, F.mono h, b⟩
theorem CalI.mono {j : Nat} (c : CalI P w K mg base C j ps sp) (h : j ≤ k) : CalI P w K mg base C k ps sp := by
  obtain ⟨f, fd, M, F, b⟩ := c
  exact ⟨f, fd, M, F.mono h, b⟩
end
section
variable {X : Cx} {C : Addr} {m x : Str} {k : Nat} {ps : List Str} {sp : Sp} {ta : TE} {t : TA} {o e : Expr} {es : List Expr} {pos apos p : Pos}
/-- o.m, a property -/
def tPropC (C : Addr) (sp : Sp) (ta : TE) : TE := fun σ H Q => ta σ H fun x H1 => ∃ a dx fs, x = .ref a ∧ H1 a = some (.ins C dx fs) ∧ sp [.ref a] H1 Q E0
theorem pe_propC (he : PE X o ta) (cl : Cls X.K C) (c : CalP X.prog X.w X.K X.mg X.base C m k sp) (hr : Room (k + 1) X.A) (hab : attributeBase o m X.env (eval o X.env) = eval o X.env := by rfl) : PE X (.Attribute o m pos) (tPropC C sp ta) := by
  obtain ⟨p, f, fd, pr, F, b⟩ := c
  have h := pe_prop (pos := pos) (E := E0) he cl pr F hr b .nil pass0 hab
  exact h
/-- o.m(..) -/
def tMethC (C : Addr) (m : Str) (sp : Sp) (ta : TE) (t : TA) : TE := fun σ H Q => ta σ H fun x H1 => ∃ a dx fs, x = .ref a ∧ H1 a = some (.ins C dx fs) ∧ fs.lookup m = none ∧ t σ H1 fun vs H2 => sp (x :: vs) H2 Q E0
theorem tMethC_eq : tMeth C m sp [] E0 ta t = tMethC C m sp ta t := by
  funext σ H Q
  show ta σ H _ = ta σ H _
  congr 1
  funext x H1
  simp only [List.append_nil]
theorem pe_methC {pl : Sem Bool} (he : PE X o ta) (cl : Cls X.K C) (c : CalM X.prog X.w X.K X.mg X.base C m k ps sp) (hr : Room k X.A) (ha : PA X (e :: es) t)
    (hst : starEach (e :: es) X.env = (false, eval e X.env) :: starEach es X.env := by rfl) (hpl : (backTo pos (starEach es X.env)).any (·.1) = false := by rfl)
    (ht : eval (.Call (.Attribute o m apos) (e :: es) [] pos) X.env = (do
      let ov ← eval o X.env
      standAt apos.atName
      let (f, first) ← holding [ov] (getMethod ov m pl)
      callWith pos f first (backTo pos (starEach (e :: es) X.env)) (backToKw pos (keywordEach [] X.env))) := by rfl) :
    PE X (.Call (.Attribute o m apos) (e :: es) [] pos) (tMethC C m sp ta t) := by
  obtain ⟨f, fd, F, me, b, fi⟩ := c
  rw [← tMethC_eq]
  exact pe_meth (pl := pl) he cl me F hr b .nil pass0 ha hst hpl ht
/-- C(..) -/
def tMakeC (C : Addr) (sp : Sp) (t : TA) : TE := fun σ H Q => t σ H fun vs H1 => ∀ x dx, H1 x = none → H1 dx = none → dx ≠ x →
  sp (.ref x :: vs) (upd (upd H1 dx (.own x)) x (.ins C dx [])) (fun v H2 => v = .non ∧ Q (.ref x) H2) E0
theorem tMakeC_eq : tMake C sp [] E0 t = tMakeC C sp t := by
  funext σ H Q
  show t σ H _ = t σ H _
  congr 1
  funext vs H1
  simp only [List.append_nil]
theorem pe_makeC (c : CalI X.prog X.w X.K X.mg X.base C k ps sp) (hr : Room (k + 1) X.A) (hg : Gl X x) (hm : X.mg x = some (.ref C)) (ha : PA X (e :: es) t)
    (hdb : (x == ("__debug__" : Str)) = false := by decide) (he : starEach (e :: es) X.env = (false, eval e X.env) :: starEach es X.env := by rfl) (hpl : (backTo pos (starEach es X.env)).any (·.1) = false := by rfl) :
    PE X (.Call (.Name x p) (e :: es) [] pos) (tMakeC C sp t) := by
  obtain ⟨f, fd, M, F, b⟩ := c
  rw [← tMakeC_eq]
  exact pe_make M F hr hg hm b .nil pass0 ha hdb he hpl
end
/-! ### dicts walked under their lock -/
theorem same_lock {H : Hp} {d : Addr} {u : HO} {o : Obj} (e : H d = some u) {b : Addr} {ob : HO} (n : b ≠ d) (h : H b = some ob) : upd H d (.frz o u) b = some ob := by
  rw [upd_ne n]
  exact h
theorem same_unlock {H H' : Hp} {d : Addr} {u : HO} {o : Obj} (e : H d = some u) (s : Same (upd H d (.frz o u)) H') : Same H (upd H' d u) := by
  intro b ob h
  by_cases n : b = d
  · subst n
    rw [upd_same]
    exact e.symm.trans h
  · rw [upd_ne n]
    exact s b ob (by rw [upd_ne n]; exact h)
end Gx

set_option maxRecDepth 100000
set_option maxHeartbeats 4000000
namespace Gx
open PySem PySem.Spec PyProof.Rows L2
/-! ### sets of texts: set(list), sorted(set) -/
/-- a member's text -/
def txE (m : Int × Value) : Str :=
  match m.2 with
  | .str z _ => z
  | _ => Str.empty
def TxE (P : Program) (w : World) (m : Int × Value) : Prop := ∃ z tk, m.2 = Value.str z tk ∧ m.1 = (PySem.strKind P w).hash z
/-- at a stands the set of the texts of L, some of which may be there twice; its table can be walked -/
def SetX (P : Program) (w : World) (h : Heap) (a : Addr) (L : List Str) : Prop :=
  ∃ ob ms ep tb, h.get? a = some ob ∧ ob.ExactSet ∧ ob.data = .set ms ep tb ∧ (∀ m ∈ ms.toList, TxE P w m) ∧ (ms.toList.map txE).Nodup ∧ (∀ z, z ∈ L ↔ z ∈ ms.toList.map txE) ∧
    ms.size < scanBound ∧ tb.fits ms.size = true ∧ ms.size ≤ L.length ∧ Ris tb.place.toList ∧ (w.params.followText "set-order" = true ∨ tb.led = true)
section
variable {P : Program} {w : World} {h h' : Heap} {a : Addr} {L : List Str}
theorem SetX.at (R : SetX P w h a L) (k : ∀ o, h.get? a = some o → h'.get? a = some o) : SetX P w h' a L := by
  obtain ⟨ob, ms, ep, tb, here, more⟩ := R
  exact ⟨ob, ms, ep, tb, k ob here, more⟩
theorem SetX.same {L' : List Str} (R : SetX P w h a L) (e : ∀ z, z ∈ L' ↔ z ∈ L) (hl : L.length ≤ L'.length) : SetX P w h a L' := by
  obtain ⟨ob, ms, ep, tb, here, ex, dt, gd, nd, mem, bd, ft, le, more⟩ := R
  exact ⟨ob, ms, ep, tb, here, ex, dt, gd, nd, fun z => (e z).trans (mem z), bd, ft, Nat.le_trans le hl, more⟩
theorem tx_elems {l : List (Int × Value)} (gd : ∀ m ∈ l, TxE P w m) : ElemsOf (PySem.strKind P w) l := by
  intro m hm
  obtain ⟨z, tk, e1, e2⟩ := gd m hm
  refine ⟨⟨z, ?_, e2⟩, ?_⟩
  · rw [e1]
    exact strKind_is P w z tk
  · rw [e1]
    rfl
theorem tx_is {m : Int × Value} (gd : TxE P w m) (z : Str) : (PySem.strKind P w).is z m.2 = true ↔ txE m = z := by
  obtain ⟨y, tk, e1, _⟩ := gd
  have e3 : txE m = y := by unfold txE; rw [e1]
  rw [e3, e1]
  constructor
  · intro q
    obtain ⟨t, q⟩ := Value.isStrOf_shape (show Value.isStrOf z (.str y tk) = true from q)
    cases q
    rfl
  · rintro rfl
    exact strKind_is P w y tk
theorem tx_mem {l : List (Int × Value)} (gd : ∀ m ∈ l, TxE P w m) (z : Str) : z ∈ l.map txE ↔ ∃ m ∈ l, (PySem.strKind P w).is z m.2 = true := by
  rw [List.mem_map]
  exact ⟨fun ⟨m, hm, q⟩ => ⟨m, hm, (tx_is (gd m hm) z).2 q⟩, fun ⟨m, hm, q⟩ => ⟨m, hm, (tx_is (gd m hm) z).1 q⟩⟩
end
section
variable {P : Program} {w : World} {A : Around} {E : Value → Shared → Prop} {s : Shared} {a : Addr} {L : List Str}
/-! ### one text more -/
theorem setX_tail {g : Bool → Sem Unit} (hg : ∀ (b : Bool) (s₁ : Shared) (Q' : Unit → Shared → Prop), Q' () s₁ → wpAny (model P w) A (g b) Q' E s₁)
    {ob : Obj} {ms : Array (Int × Value)} {ep : Nat} {tb : SetTable} (here : s.heap.get? a = some ob) (ex : ob.ExactSet) (dt : ob.data = .set ms ep tb)
    {ms1 : Array (Int × Value)} {tb2 : SetTable} {L' : List Str} (g1 : ∀ m ∈ ms1.toList, TxE P w m) (nd1 : (ms1.toList.map txE).Nodup) (m1 : ∀ z, z ∈ L' ↔ z ∈ ms1.toList.map txE)
    (bd1 : ms1.size < scanBound) (ft2 : tb2.fits ms1.size = true) (le1 : ms1.size ≤ L'.length) (ri : Ris tb2.place.toList) (ld : w.params.followText "set-order" = true ∨ tb2.led = true) {dummy : Bool} {R : Option Bool → Shared → Prop}
    (hR : ∀ h', Heap.SameBut a s.heap h' → SetX P w h' a L' → R (some true) { s with heap := h' }) :
    wpAny (model P w) A (do
        storeSet a ms1 tb2
        if (!dummy && tb2.tooFull) = true then do
            g (relayAll tb2 ms1 (SetTable.grown ms1.size)).2.2
            storeSet a (relayAll tb2 ms1 (SetTable.grown ms1.size)).1 (relayAll tb2 ms1 (SetTable.grown ms1.size)).2.1
            pure (some true)
          else pure (some true)) R E s := by
  refine wpAny_bind (wpAny_storeSet_of here dt ?_ (fits_of_scanBound bd1))
  have at1 := store_at (es' := ms1) (t' := tb2) here dt
  have but1 := Heap.SameBut.update s.heap a (Obj.putSet ms1 tb2)
  split
  · have perm2 := relayAll_perm tb2 ms1 (SetTable.grown ms1.size)
    have ft3 := relayAll_fits tb2 ms1 (SetTable.grown ms1.size)
    have ri3 := relayAll_ris tb2 ms1 (SetTable.grown ms1.size)
    have ld3 := relayAll_led tb2 ms1 (SetTable.grown ms1.size)
    generalize relayAll tb2 ms1 (SetTable.grown ms1.size) = laid at perm2 ft3 ri3 ld3 ⊢
    obtain ⟨ms2, tb3, gave⟩ := laid
    dsimp only at perm2 ft3 ri3 ld3 ⊢
    have sz2 : ms2.size = ms1.size := by rw [← Array.length_toList, perm2.length_eq, Array.length_toList]
    have bd2 : ms2.size < scanBound := sz2 ▸ bd1
    refine wpAny_bind (hg _ _ _ ?_)
    refine wpAny_bind (wpAny_storeSet_of at1 rfl ?_ (fits_of_scanBound bd2))
    have at2 := store_at (es' := ms2) (t' := tb3) at1 rfl
    refine wpAny_pure (hR _ (but1.trans (Heap.SameBut.update _ a _)) ⟨_, ms2, _, tb3, at2, ex, rfl, fun m hm => g1 m (perm2.mem_iff.mp hm), (perm2.map txE).nodup_iff.mpr nd1, fun z => (m1 z).trans (perm2.map txE).mem_iff.symm, bd2, ?_, by rw [sz2]; exact le1, ri3, ?_⟩)
    · exact ft3
    · exact ld.imp id fun z => by rw [ld3]; exact z
  · exact wpAny_pure (hR _ but1 ⟨_, ms1, _, tb2, at1, ex, rfl, g1, nd1, m1, bd1, ft2, le1, ri, ld⟩)
theorem setX_add {z : Str} {tk : Tok} {Q : Bool → Shared → Prop} (R : SetX P w s.heap a L) (room : L.length + 1 < scanBound)
    (hQ : ∀ h' b, Heap.SameBut a s.heap h' → SetX P w h' a (L ++ [z]) → Q b { s with heap := h' }) :
    wpAny (model P w) A (setAddHashed a (.str z tk) ((PySem.strKind P w).hash z)) Q E s := by
  obtain ⟨ob, ms, ep, tb, here, ex, dt, gd, nd, mem, bd, ft, le, ri, ld⟩ := R
  have isz : (PySem.strKind P w).is z (.str z tk) = true := strKind_is P w z tk
  have scz : (Value.str z tk).scannable = true := rfl
  have els : ElemsOf (PySem.strKind P w) ms.toList := tx_elems gd
  unfold setAddHashed setAddHashedIn
  refine wpAny_holding (wpAny_bind (wpAny_setState_of here dt ft ?_))
  dsimp only
  rw [byScan_of scz bd els]
  simp only [↓reduceIte]
  unfold setAddByScan
  refine wpAny_bind ?_
  refine wpAny_bind (wpAny_rule ?_)
  refine wpAny_bind (wpAny_setScan_of isz here dt ft els ?_)
  cases hfi : List.findIdx? (fun m => (PySem.strKind P w).is z m.2) ms.toList with
  | some j =>
    dsimp only
    obtain ⟨hj, pj, _⟩ := List.findIdx?_eq_some_iff_getElem.mp hfi
    have inL : z ∈ L := (mem z).2 ((tx_mem (P := P) (w := w) gd z).2 ⟨ms.toList[j], List.getElem_mem hj, pj⟩)
    refine wpAny_pure (wpAny_pure ?_)
    refine hQ s.heap _ (Heap.SameBut.refl a s.heap) ⟨ob, ms, ep, tb, here, ex, dt, gd, nd, fun y => ?_, bd, ft, by rw [List.length_append]; omega, ri, ld⟩
    rw [← mem y, List.mem_append, List.mem_singleton]
    exact ⟨fun q => q.elim id fun e => e ▸ inL, .inl⟩
  | none =>
    dsimp only
    have notIn : z ∉ ms.toList.map txE := by
      intro q
      obtain ⟨m, hm, q⟩ := (tx_mem (P := P) (w := w) gd z).1 q
      have c := List.findIdx?_eq_none_iff.mp hfi m hm
      rw [q] at c
      cases c
    have way : ∀ (b : Bool) {s₁ : Shared} {Q' : Unit → Shared → Prop}, Q' () s₁ → wpAny (model P w) A (match b with | true => rule "set.scan.the-table-gave-way" | false => pure ()) Q' E s₁ := by
      intro b s₁ Q' q
      cases b
      · exact wpAny_pure q
      · exact wpAny_rule q
    have perm1 := layNew_perm tb ms ((PySem.strKind P w).hash z) (.str z tk)
    have ft1 := layNew_fits tb ms ((PySem.strKind P w).hash z) (.str z tk)
    have ri1 := layNew_ris tb ms ((PySem.strKind P w).hash z) (.str z tk) ri
    have ld1 := layNew_led tb ms ((PySem.strKind P w).hash z) (.str z tk)
    generalize layNew tb ms ((PySem.strKind P w).hash z) (.str z tk) = laid at perm1 ft1 ri1 ld1 ⊢
    obtain ⟨ms1, tb1, dummy, gave⟩ := laid
    dsimp only at perm1 ft1 ri1 ld1 ⊢
    rw [Array.toList_push] at perm1
    have permC : ms1.toList.Perm (((PySem.strKind P w).hash z, Value.str z tk) :: ms.toList) := perm1.trans (List.perm_append_singleton _ _)
    have permK : (ms1.toList.map txE).Perm (z :: ms.toList.map txE) := permC.map txE
    have g1 : ∀ m ∈ ms1.toList, TxE P w m := by
      intro m hm
      rcases List.mem_cons.mp (permC.mem_iff.mp hm) with q | q
      · rw [q]
        exact ⟨z, tk, rfl, rfl⟩
      · exact gd m q
    have nd1 : (ms1.toList.map txE).Nodup := permK.nodup_iff.mpr (List.nodup_cons.mpr ⟨notIn, nd⟩)
    have m1 : ∀ y, y ∈ L ++ [z] ↔ y ∈ ms1.toList.map txE := by
      intro y
      rw [List.mem_append, List.mem_singleton, mem y, permK.mem_iff, List.mem_cons]
      exact Or.comm
    have sz1 : ms1.size = ms.size + 1 := by rw [← Array.length_toList, permC.length_eq, List.length_cons, Array.length_toList]
    have bd1 : ms1.size < scanBound := by omega
    have le1 : ms1.size ≤ (L ++ [z]).length := by rw [List.length_append, List.length_singleton]; omega
    have led1 : w.params.followText "set-order" = true ∨ tb1.led = true := ld.imp id fun q => by rw [ld1]; exact q
    refine wpAny_bind (way _ ?_)
    split
    · refine wpAny_bind ?_
      rw [hashByValue_scannable 8 scz]
      refine wpAny_pure ?_
      refine setX_tail ?_ here ex dt g1 nd1 m1 bd1 ?_ le1 ?_ ?_ ?_
      · intro b s₁ Q' q
        cases b <;> first | exact wpAny_pure q | exact wpAny_rule q
      · first | (split <;> first | exact ft1 | exact SetTable.fits_plain_off ft1) | exact ft1
      · first | (split <;> exact ri1) | exact ri1
      · first | (split <;> exact led1) | exact led1
      · intro h' sb r
        dsimp only
        exact wpAny_pure (hQ h' _ sb r)
    · refine wpAny_bind (wpAny_pure ?_)
      simp only [↓reduceIte]
      refine setX_tail ?_ here ex dt g1 nd1 m1 bd1 ft1 le1 ri1 led1 ?_
      · intro b s₁ Q' q
        cases b <;> first | exact wpAny_pure q | exact wpAny_rule q
      · intro h' sb r
        dsimp only
        exact wpAny_pure (hQ h' _ sb r)
end
/-- the texts of a list of values, by place -/
theorem texts_at : ∀ {us : List Value} {xs : List Str}, StrsAre us xs → ∀ (i : Nat) (v : Value), us[i]? = some v → ∃ x t, xs[i]? = some x ∧ v = .str x t
  | _, _, .nil, i, v, h => by cases h
  | _, _, .cons n t r, 0, v, h => by
    cases h
    exact ⟨n, t, rfl, rfl⟩
  | _, _, .cons n t r, i + 1, v, h => texts_at r i v h
section
variable {prog : Program} {w : World} {A : Around} {R : Result → Shared → Prop} {I : Addr} {fp wr : List Addr} {G : Array GenState → Array GenState → Prop} {n : Nat} {P : Nat → Value → Prop} {St : Nat → Shared → Prop}
/-- all texts of an iterator put into the set at S -/
theorem setX_loop (W : WalksS prog w A.in1 I fp wr G n P St) (S : Addr) (off : S ∉ fp) (xs : List Str) (len : xs.length = n) (few : n + 1 < scanBound)
    (val : ∀ i v, P i v → ∃ x t, xs[i]? = some x ∧ v = .str x t) : ∀ (k i : Nat) (s : Shared), n - i = k → i ≤ n → St i s → SetX prog w s.heap S (xs.take i) →
      (∀ s', Moved (S :: wr) G s s' → SetX prog w s'.heap S xs → R (.ok (.ret .none)) s') →
      codeAny (model prog w) A (.builtin "set.update.loop" ⟨[.ref S, .ref I], []⟩) R s := by
  have offW : S ∉ wr := fun z => off (W.sub _ z)
  have sub : ∀ b ∈ wr, b ∈ S :: wr := fun b hb => List.mem_cons_of_mem _ hb
  intro k
  induction k with
  | zero =>
    intro i s hk hi st hS hR
    obtain rfl : i = n := by omega
    rw [← len, List.take_length] at hS
    refine codeAny_builtin PyProof.Rows.F.entry_set_update_loop ?_
    rw [Around.under_plainId PyProof.Rows.F.plain_set_update_loop _]
    show wpAny _ A.in1 (pyNext (.ref I) >>= _) _ _ s
    refine wpAny_bind (W.done s _ _ st fun s' mv => ?_)
    show wpAny _ A.in1 (ret Value.none) _ _ s'
    exact wpAny_pure (hR s' (mv.mono sub) (hS.at fun o e => mv.heap S _ offW e))
  | succ k ih =>
    intro i s hk hi st hS hR
    have lt : i < n := by omega
    refine codeAny_builtin PyProof.Rows.F.entry_set_update_loop ?_
    rw [Around.under_plainId PyProof.Rows.F.plain_set_update_loop _]
    show wpAny _ A.in1 (pyNext (.ref I) >>= _) _ _ s
    refine wpAny_bind (W.item i s _ _ lt st fun v s' hP st' mv => ?_)
    obtain ⟨x, t, hx, rfl⟩ := val i v hP
    have hS' : SetX prog w s'.heap S (xs.take i) := hS.at fun o e => mv.heap S _ offW e
    show wpAny _ A.in1 (holding [Value.str x t] (setAdd S (.str x t)) >>= _) _ _ s'
    refine wpAny_bind (wpAny_holding ?_)
    unfold setAdd
    refine wpAny_holding ?_
    refine wpAny_bind ((PySem.strKind prog w).pyHash (k := x) (strKind_is _ _ _ _) ?_)
    refine setX_add (s := { s' with toks := s'.toks + 1 }) hS' (by rw [List.length_take]; omega) fun h' b sb hS2 => ?_
    have hS3 : SetX prog w h' S (xs.take (i + 1)) := by
      have e : xs.take (i + 1) = xs.take i ++ [x] := by rw [List.take_add_one, hx]; rfl
      rw [e]
      exact hS2
    refine wpAny_pure ⟨plainId_quiet PyProof.Rows.F.plain_set_update_loop _, ih (i + 1) _ (by omega) lt (W.frame _ s' _ _ st' (Nat.le_succ _) fun b hb o e => ?_) hS3 fun s'' mv2 hS4 => ?_⟩
    · rw [sb.2 b (fun z : b = S => off (z ▸ hb))]
      exact e
    · refine hR s'' (Moved.trans W.gtrans ((mv.mono sub).then_heap (Nat.le_succ _) fun b o hb e => ?_) mv2) hS4
      rw [sb.2 b (fun z : b = S => hb (by rw [z]; exact List.mem_cons_self))]
      exact e
end
section
variable {P : Program} {w : World} {A : Around} {E : Value → Shared → Prop} {s : Shared}
theorem code_setX {x : Value} {Q₁ : Value → Shared → Prop}
    (h : Q₁ (.ref s.heap.objs.size) { s with heap := s.heap.push { cls := .type "set", dict := none, data := .set #[] 0 (.fresh 0 0 (!w.params.followText "set-order")) } }) :
    codeAny (model P w) A (.call (.builtin "set.__new__") ⟨[.type "set", x], []⟩) (wants Q₁ E) s := by
  refine codeAny_of_tree ?_
  show wpAny _ A.in1 (do checkBuiltinCall "set.__new__" ⟨[.type "set", x], []⟩; again (.builtin "set.__new__" ⟨[.type "set", x], []⟩)) _ _ s
  refine wpAny_bind (wpAny_of_eq (PySem.F.newCall_set_1 x) (wpAny_pure ⟨plainId_quiet F.plain_set_new _, codeAny_builtin F.entry_set_new ?_⟩))
  rw [Around.under_plainId F.plain_set_new _]
  unfold Builtin.«set.__new__» Builtin.Frozenset.newClass
  have hsub := sub_set_self
  obtain ⟨hp, g, d, tk, os⟩ := s
  dsimp only
  wp_walk
  refine wpAny_askSetting (wpAny_pure ?_)
  dsimp only
  simp only [newObj]
  exact wpAny_bind (wpAny_alloc (wpAny_pure (wpAny_pure h)))
theorem setX_fresh {h : Heap} : SetX P w (h.push { cls := .type "set", dict := none, data := .set #[] 0 (.fresh 0 0 (!w.params.followText "set-order")) }) h.objs.size [] := by
  refine ⟨_, #[], 0, _, Heap.get?_push_size _ rfl, ⟨rfl, rfl, rfl⟩, rfl, (fun m hm => by simp at hm), (by simp), (fun z => by simp), (by decide), (by rfl), (Nat.zero_le _), List.Pairwise.nil, ?_⟩
  show _ ∨ (!w.params.followText "set-order") = true
  cases w.params.followText "set-order"
  · exact .inr rfl
  · exact .inl rfl
set_option maxHeartbeats 6400000 in
/-- set(list of texts) -/
theorem call_setX {l : Addr} {items : Array Value} {xs : List Str} {Q : Value → Shared → Prop} (hh : A.handled = none) (hl : s.heap.IsList l items) (hi : StrsAre items.toList xs) (few : xs.length + 1 < scanBound)
    (h : ∀ (h' : Heap) (tk : Nat), SetX P w h' s.heap.objs.size xs → (∀ b o, b < s.heap.objs.size → s.heap.get? b = some o → h'.get? b = some o) → Q (.ref s.heap.objs.size) { s with heap := h', toks := tk }) :
    wpAny (model P w) A (call (.type "set") [.ref l]) Q E s := by
  obtain ⟨c, tl, hmro⟩ := PySem.F.called_set.mro
  have hmade := PySem.F.called_set.made
  have hsub := PySem.F.called_set.sub
  refine wpAny_call (codeAny_of_tree ?_)
  show wpAny _ _ (callAny (.type "set") _) _ _ _
  refine wpAny_pure ⟨Code.quiet_builtin _ (by decide +kernel), codeAny_builtin PySem.F.entry_type_call ?_⟩
  rw [Around.under_plain (weight_type_call_type "set" [.ref l] []) rfl]
  have h1 := PySem.F.called_set.notType
  have h2 := PySem.F.called_set.canCreate
  have hct := PySem.F.typeCall_set_1 (.ref l)
  repeat (any_goals (first | assumption | wp_step))
  have R0 : SetX P w (s.heap.push { cls := .type "set", dict := none, data := .set #[] 0 (.fresh 0 0 (!w.params.followText "set-order")) }) s.heap.objs.size [] := setX_fresh
  refine codeAny_mono (code_setX (x := .ref l) (E := E) (Q₁ := fun obj s₁ => obj = .ref s.heap.objs.size ∧ s₁ = { s with heap := s.heap.push { cls := .type "set", dict := none, data := .set #[] 0 (.fresh 0 0 (!w.params.followText "set-order")) } }) ⟨rfl, rfl⟩) fun r s₁ hr => ?_
  have hS : (s.heap.push { cls := .type "set", dict := none, data := .set #[] 0 (.fresh 0 0 (!w.params.followText "set-order")) }).get? s.heap.objs.size = some { cls := .type "set", dict := none, data := .set #[] 0 (.fresh 0 0 (!w.params.followText "set-order")) } := Heap.get?_push_size _ rfl
  cases r with
  | error e => exact hr
  | ok fl =>
    cases fl with
    | ret obj =>
      obtain ⟨rfl, rfl⟩ := hr
      have hT : Shared.TypeIs { s with heap := s.heap.push ({ cls := .type "set", dict := none, data := .set #[] 0 (.fresh 0 0 (!w.params.followText "set-order")) } : Obj) } (.ref s.heap.objs.size) "set" := ⟨_, hS, rfl⟩
      have hli := PySem.F.called_set.init.lookup
      have hbi := PySem.F.called_set.init.bind (.ref s.heap.objs.size)
      repeat (any_goals (first | assumption | wp_step))
      refine codeAny_mono (codeAny_call_builtin (R := wants (fun r s₂ => r = .none ∧ ∃ h' tk, s₂ = { s with heap := h', toks := tk } ∧ SetX P w h' s.heap.objs.size xs ∧
          (∀ b o, b < s.heap.objs.size → s.heap.get? b = some o → h'.get? b = some o)) E) PySem.F.called_set.init.plain PySem.F.entry_set_init (check_set_init_1 hT ?_)) fun r₂ s₂ hr₂ => ?_
      · obtain ⟨ol, hol, hcl, nl, hdl⟩ := hl
        obtain ⟨ocls, odict, odata, oslots⟩ := ol
        simp only at hcl hdl
        subst hcl; subst hdl
        have hol' : (s.heap.push ({ cls := .type "set", dict := none, data := .set #[] 0 (.fresh 0 0 (!w.params.followText "set-order")) } : Obj)).get? l = some { cls := .type "list", dict := odict, data := .seq items nl, slots := oslots } := Heap.get?_push_of_some _ hol
        have hsls := PySem.F.sub_list_set
        have hslf := PySem.F.sub_list_frozenset
        have hne : (Value.type "list" == Value.type "dict") = false := by decide
        have hl1 : (s.heap.push ({ cls := .type "set", dict := none, data := .set #[] 0 (.fresh 0 0 (!w.params.followText "set-order")) } : Obj)).IsList l items := ⟨_, hol', rfl, nl, rfl⟩
        unfold Builtin.«set.__init__» noKeywords Builtin.Frozenset.updateFrom
        generalize hPI : pyIter = PI
        wp_walk
        subst hPI
        refine wpAny_pyIter_list hl1 ?_
        refine wpAny_bind (wpAny_runValue ?_)
        have hlS : l < s.heap.objs.size := Heap.lt_size hol
        have hh3 : A.in1.in1.in1.handled = none := by simp [hh]
        have szp : (s.heap.push ({ cls := .type "set", dict := none, data := .set #[] 0 (.fresh 0 0 (!w.params.followText "set-order")) } : Obj)).objs.size = s.heap.objs.size + 1 := Heap.size_push _ _
        have hneI : l ≠ (s.heap.push ({ cls := .type "set", dict := none, data := .set #[] 0 (.fresh 0 0 (!w.params.followText "set-order")) } : Obj)).objs.size := by rw [szp]; exact Nat.ne_of_lt (Nat.lt_succ_of_lt hlS)
        have hSf : s.heap.objs.size ∉ [(s.heap.push ({ cls := .type "set", dict := none, data := .set #[] 0 (.fresh 0 0 (!w.params.followText "set-order")) } : Obj)).objs.size, l] := by
          rw [szp]
          simp only [List.mem_cons, List.not_mem_nil, or_false, not_or]
          exact ⟨Nat.ne_of_lt (Nat.lt_succ_self _), Nat.ne_of_gt hlS⟩
        have hsz : xs.length = items.size := by rw [← StrsAre.len_eq hi, Array.length_toList]
        refine setX_loop ((Walks.list hh3 _ l hneI items).toS) s.heap.objs.size hSf xs hsz (by rw [← hsz]; exact few) (fun i v hv => texts_at hi i v (by rw [Array.getElem?_toList]; exact hv))
          (items.size - 0) 0 _ (by omega) (Nat.zero_le _) ⟨⟨_, Heap.get?_push_size _ rfl, rfl, rfl⟩, (hl1.push _)⟩ ?hS0 ?hR
        case hS0 => exact R0.at fun o e => Heap.get?_push_of_some _ e
        case hR =>
          intro s' hm hS'
          obtain ⟨h', g', d', tk', os'⟩ := s'
          obtain rfl : g' = s.gens := hm.gens
          obtain rfl : d' = s.drawn := hm.drawn
          obtain rfl : os' = s.os := hm.os
          show wpAny _ _ _ _ _ _
          refine wpAny_pure ?_
          show wpAny _ _ (ret Value.none) _ _ _
          refine wpAny_pure ⟨rfl, h', tk', rfl, hS', fun b o hb e => hm.heap b o ?_ (Heap.get?_push_of_some _ (Heap.get?_push_of_some _ e))⟩
          rw [szp]
          simp only [List.mem_cons, List.not_mem_nil, or_false, not_or]
          exact ⟨Nat.ne_of_lt hb, Nat.ne_of_lt (Nat.lt_succ_of_lt hb)⟩
      · cases r₂ with
        | error e => exact hr₂
        | ok fl₂ =>
          cases fl₂ with
          | ret r =>
            obtain ⟨rfl, h', tk, rfl, hS', hk'⟩ := hr₂
            repeat (any_goals (first | assumption | wp_step))
            exact h _ _ hS' hk'
          | _ => exact hr₂.elim
    | _ => exact hr.elim
theorem strs_of : ∀ (l : List Value), (∀ v ∈ l, ∃ z tk, v = Value.str z tk) → ∃ xs, StrsAre l xs ∧ xs = l.map fun v => txE (0, v)
  | [], _ => ⟨[], .nil, rfl⟩
  | v :: l, h => by
    obtain ⟨z, tk, rfl⟩ := h v List.mem_cons_self
    obtain ⟨xs, h1, rfl⟩ := strs_of l fun u hu => h u (List.mem_cons_of_mem _ hu)
    exact ⟨_, .cons z tk h1, rfl⟩
/-- sorted(set of texts) -/
theorem sorted_setX {a : Addr} {L : List Str} {Q : Value → Shared → Prop} (R : SetX P w s.heap a L) (hh : A.handled = none)
    (hQ : ∀ s' p (out : Array Value) (c : Nat) (ys : List Str), (∀ b o, s.heap.get? b = some o → s'.heap.get? b = some o) → s'.gens = s.gens → s'.os = s.os → s.heap.objs.size ≤ p →
      s'.heap.get? p = some (seqObj "list" out c) → StrsAre out.toList ys → sortedS ys = true → ys.Nodup → (∀ z, z ∈ ys ↔ z ∈ L) → Q (.ref p) s') :
    wpAny (model P w) A (call (.builtin "sorted") [.ref a]) Q E s := by
  obtain ⟨ob, ms, ep, tb, here, ex, dt, gd, nd, mem, bd, ft, le, ri, ld⟩ := R
  refine Calls.call_function_entry kind_sorted plain_sorted entry_sorted (args_sorted1 _) ?_
  unfold Builtin.«sorted»
  refine wpAny_bind (m := checkCount "sorted" 1 1 _) (wpAny_pure ?_)
  refine wpAny_bind (collect_set (A := A.in1) hh ⟨ob, here, ex.1, dt⟩ ft bd ri ld fun s1 vs k1 hz g1 o1 pm => ?_)
  have lenV : vs.length = ms.size := by rw [pm.length_eq, List.length_map, Array.length_toList]
  obtain ⟨xs, hS, exs⟩ := strs_of vs fun v hv => by
    obtain ⟨m, hm, q⟩ := List.mem_map.mp (pm.mem_iff.mp hv)
    obtain ⟨z, tk, e1, _⟩ := gd m hm
    exact ⟨z, tk, by rw [← q]; exact e1⟩
  have permX : xs.Perm (ms.toList.map txE) := by
    have q := pm.map fun v => txE (0, v)
    rw [List.map_map] at q
    rw [exs]
    exact q
  have lineV : vs.length ≤ sizeLine := by rw [lenV]; exact fits_of_scanBound bd
  refine wpAny_bind (wpAny_newList ?_ lineV)
  have hoL : (s1.heap.push (seqObj "list" vs.toArray 0)).get? s1.heap.objs.size = some (seqObj "list" vs.toArray 0) := Heap.get?_push_size _ rfl
  refine wpAny_bind (wpAny_holding (wpAny_call_entry slot_list_sort ⟨_, hoL, rfl⟩ entry_list_sort
    (list_sort_treeKAny strKind_oneLt (s := { s1 with heap := s1.heap.push (seqObj "list" vs.toArray 0) }) hoL hS.keysOf (fun v₁ v₂ rest e => keyKind_strs (by rw [← e]; exact hS)) lineV fun st' hp hs => ⟨_, rfl, ?_⟩) (args_list_sort _)))
  obtain ⟨ys, y1, y2, y3⟩ := sorted_out_str hS hp hs
  obtain ⟨c, hc⟩ := sortedHeap_at (vs := vs) (out := (arrOf st').map (·.2)) hoL
  have permY : ys.Perm (ms.toList.map txE) := y2.trans permX
  refine wpAny_pure ⟨_, rfl, hQ _ s1.heap.objs.size ((arrOf st').map (·.2)) c ys (fun b u e => ?_) g1 o1 hz hc y1 y3 (permY.nodup_iff.mpr nd) fun z => by rw [permY.mem_iff, ← mem z]⟩
  have q := k1 b u e
  have lt := Heap.lt_size q
  show (sortedHeap (s1.heap.push (seqObj "list" vs.toArray 0)) s1.heap.objs.size vs ((arrOf st').map (·.2))).get? b = some u
  rw [sortedHeap_old (Nat.ne_of_lt lt) (by rw [size_push']; exact Nat.lt_succ_of_lt lt)]
  exact Heap.get?_push_of_some _ q
end
/-! ### over the hand layer -/
/-- the set of the texts of L at a -/
def SetO' (P : Program) (w : World) (a : Addr) (L : List Str) : HO := .ext fun h => SetX P w h a L
section
variable {X : Cx}
def rSetX (K : PySem.W.Frag) (P : Program) (w : World) : List V → Hp → VK → Prop := fun vs H Q => ∃ (l : Addr) (xs : List Str), vs = [V.ref l] ∧ SqL K H l (xs.map V.str) ∧ xs.length ≤ 1000 ∧ ∀ p, H p = none → Q (.ref p) (upd H p (SetO' P w p xs))
theorem cr_setX (hc : X.calm = true) : CallR X (.type "set") (rSetX X.K X.prog X.w) := by
  intro pins s σ H vs us Q I r h
  obtain ⟨l, xs, rfl, hq, few, q⟩ := h
  rw [Vals.ref1 r]
  obtain ⟨its, rv, pl, hz⟩ := I.list hq
  refine call_setX (I.ok.hd hc) pl.isList (by simpa using rv.strs) (Nat.lt_of_le_of_lt (Nat.succ_le_succ few) (by decide)) fun h' tk hS hk => ?_
  have kp : ∀ b o, s.heap.get? b = some o → h'.get? b = some o := fun b o e => hk b o (Heap.lt_size e) e
  obtain ⟨ob, ms, ep, tb, here, more⟩ := id hS
  exact ⟨.ref s.heap.objs.size, _, I.laid (t' := tk) kp (Nat.le_refl _) (show ObjOk X.prog X.w _ h' _ (SetO' X.prog X.w s.heap.objs.size xs) from ⟨hS, ⟨ob, here⟩, fun h1 h2 p k => SetX.at p k⟩), rfl, q _ (I.hok.fresh (Nat.le_refl _))⟩
def rSortedX (P : Program) (w : World) : List V → Hp → VK → Prop := fun vs H Q => ∃ (a : Addr) (L : List Str), vs = [V.ref a] ∧ H a = some (SetO' P w a L) ∧ L.length ≤ 1000 ∧
  ∀ (ys : List Str) (p : Addr), sortedS ys = true → ys.Nodup → (∀ z, z ∈ ys ↔ z ∈ L) → H p = none → Q (.ref p) (upd H p (.lst (ys.map V.str)))
theorem vals_texts : ∀ {us : List Value} {xs : List Str}, StrsAre us xs → Vals (xs.map V.str) us
  | _, _, .nil => .nil
  | _, _, .cons n t r => .cons ⟨t, rfl⟩ (vals_texts r)
theorem cr_sortedX (hc : X.calm = true) : CallR X (.builtin "sorted") (rSortedX X.prog X.w) := by
  intro pins s σ H vs us Q I r h
  obtain ⟨a, L, rfl, ha, few, q⟩ := h
  rw [Vals.ref1 r]
  have hX : SetX X.prog X.w s.heap a L := (I.hok a _ ha).1
  refine sorted_setX hX (I.ok.hd hc) fun s' p out c ys k g o hp hg hi hs nd hm => ?_
  have lt : ys.length ≤ L.length := List.Nodup.length_le_of_subset nd fun z hz => (hm z).1 hz
  have hlen : (ys.map V.str).length ≤ sizeLine := by rw [List.length_map]; exact Nat.le_trans (Nat.le_trans lt few) (by decide)
  have hn : H p = none := I.hok.fresh hp
  have J : Inv X pins σ (upd H p (.lst (ys.map V.str))) { s with heap := s'.heap, gens := s'.gens, drawn := s'.drawn, toks := s'.toks } :=
    I.call (ch := []) (Un.laid k hp hn) (I.hok.laid k hp ⟨hlen, out.toList, c, vals_texts hi, hg⟩) (by rw [g]; exact I.bare) (fun _ z => nomatch z)
  obtain ⟨h', g', d', t', o'⟩ := s'
  obtain rfl : o' = s.os := o
  exact ⟨.ref p, _, J, rfl, q ys p hs nd hm hn⟩
end
end Gx

set_option maxRecDepth 100000
set_option maxHeartbeats 4000000
namespace Mx
open PySem PySem.Spec PyProof.Rows L2 Gx
/-! ### names: the mathematics -/
def isLow (c : Nat) : Bool := decide (97 ≤ c ∧ c ≤ 122)
/-- whether a text is a name -/
def nameB (z : Str) : Bool := (decide (1 ≤ z.cps.size) && decide (z.cps.size ≤ 8)) && z.cps.toList.all isLow
theorem low_facts : ∀ c, c < 128 → (isLow c = true → Unicode.isAlpha c = true ∧ Unicode.isLower c = true ∧ Unicode.isUpper c = false ∧ Unicode.isTitle c = false) ∧ (Unicode.isAlpha c = true → Unicode.isUpper c = false → isLow c = true) := by decide +kernel
theorem isLow_lt {c : Nat} (h : isLow c = true) : c < 128 := by
  have := of_decide_eq_true h
  omega
/-- what is_name reckons of a text -/
theorem name_by (z : Str) (h1 : 1 ≤ z.cps.size) : (Txt.isascii z && (Txt.isalpha z && Txt.islower z)) = z.cps.toList.all isLow := by
  have hl : z.length = z.cps.size := rfl
  unfold Txt.isascii Txt.isalpha Txt.islower
  rw [Bool.eq_iff_iff]
  simp only [Bool.and_eq_true, Array.all_eq_true', Array.any_eq_true', List.all_eq_true, decide_eq_true_eq, Bool.not_eq_true', Array.any_eq_false', Bool.or_eq_true, not_or, Bool.not_eq_true, Array.mem_toList_iff, hl]
  constructor
  · rintro ⟨ha, ⟨_, hb⟩, _, hd⟩ c hc
    exact (low_facts c (ha c hc)).2 (hb c hc) (hd c hc).1
  · intro h
    have f := fun c hc => (low_facts c (isLow_lt (h c hc))).1 (h c hc)
    refine ⟨fun c hc => isLow_lt (h c hc), ⟨h1, fun c hc => (f c hc).1⟩, ⟨z.cps[0], Array.getElem_mem (by omega), (f _ (Array.getElem_mem (by omega))).2.1⟩, fun c hc => ⟨(f c hc).2.2.1, (f c hc).2.2.2⟩⟩
/-! ### counts -/
def abcL : List Nat := [97,98,99,100,101,102,103,104,105,106,107,108,109,110,111,112,113,114,115,116,117,118,119,120,121,122]
theorem count_cnt (x : Str) (c : Nat) : Txt.count x ⟨#[c]⟩ = cnt c x.cps.toList := count_is x c
theorem one_sum (n : Nat) : ∀ L : List Nat, L.Nodup → (L.map fun c => if n = c then (1 : Int) else 0).sum = if n ∈ L then 1 else 0
  | [], _ => rfl
  | a :: L, h => by
    obtain ⟨h1, h2⟩ := List.nodup_cons.mp h
    rw [List.map_cons, List.sum_cons, one_sum n L h2]
    by_cases e : n = a
    · subst e
      rw [if_pos rfl, if_neg h1, if_pos (List.mem_cons_self ..)]
      rfl
    · rw [if_neg e]
      by_cases m : n ∈ L
      · rw [if_pos m, if_pos (List.mem_cons_of_mem _ m)]; rfl
      · rw [if_neg m, if_neg (by
          rw [List.mem_cons]
          rintro (z | z)
          · exact e z
          · exact m z)]; rfl
theorem cnt_sum (L : List Nat) (hL : L.Nodup) : ∀ l : List Nat, (L.map fun c => cnt c l).sum = (l.countP (fun n => decide (n ∈ L)) : Nat)
  | [] => by
    have : ∀ L : List Nat, (L.map fun c => cnt c []).sum = 0 := fun L => by
      induction L with
      | nil => rfl
      | cons a L ih => rw [List.map_cons, List.sum_cons, ih]; rfl
    rw [this]
    rfl
  | n :: r => by
    have h : ∀ L : List Nat, (L.map fun c => cnt c (n :: r)).sum = (L.map fun c => if n = c then (1 : Int) else 0).sum + (L.map fun c => cnt c r).sum := fun L => by
      induction L with
      | nil => rfl
      | cons a L ih => rw [List.map_cons, List.sum_cons, ih, cnt_cons, List.map_cons, List.sum_cons, List.map_cons, List.sum_cons]; omega
    rw [h, one_sum n L hL, cnt_sum L hL r, List.countP_cons]
    by_cases m : n ∈ L
    · rw [if_pos m, if_pos (decide_eq_true m)]; omega
    · rw [if_neg m, if_neg (by rw [decide_eq_false m]; decide)]; omega
theorem mem_abc (n : Nat) : n ∈ abcL ↔ isLow n = true := by
  unfold isLow
  rw [decide_eq_true_eq]
  constructor
  · intro h
    have : ∀ n ∈ abcL, 97 ≤ n ∧ n ≤ 122 := by decide
    exact this n h
  · intro h
    have : ∀ n, n < 123 → 97 ≤ n → n ∈ abcL := by decide
    exact this n (by omega) h.1
/-- all letters' counts together -/
def known (z : Str) (L : List Nat) : Int := (L.map fun c => Txt.count z ⟨#[c]⟩).sum
theorem known_eq (z : Str) : known z abcL = (z.cps.toList.countP isLow : Nat) := by
  unfold known
  have e : (abcL.map fun c => Txt.count z ⟨#[c]⟩) = abcL.map fun c => cnt c z.cps.toList := List.map_congr_left fun c _ => count_cnt z c
  rw [e, cnt_sum abcL (by decide)]
  congr 2
  funext n
  rw [Bool.eq_iff_iff, decide_eq_true_eq, mem_abc]
theorem due_eq (z : Str) : (decide (known z abcL = (z.cps.size : Int)) && (decide ((0 : Int) < known z abcL) && decide (known z abcL < 9))) = nameB z := by
  rw [known_eq]
  unfold nameB
  have hz : z.cps.size = z.cps.toList.length := by simp
  have hle := List.countP_le_length (p := isLow) (l := z.cps.toList)
  by_cases h : z.cps.toList.countP isLow = z.cps.toList.length
  · have ha : z.cps.toList.all isLow = true := by
      rw [List.all_eq_true]
      exact List.countP_eq_length.mp h
    rw [ha, h, hz]
    generalize z.cps.toList.length = n
    rw [Bool.and_true, decide_eq_true (show (n : Int) = (n : Int) from rfl), Bool.true_and]
    have e1 : decide ((0 : Int) < (n : Int)) = decide (1 ≤ n) := decide_eq_decide.mpr (by omega)
    have e2 : decide ((n : Int) < 9) = decide (n ≤ 8) := decide_eq_decide.mpr (by omega)
    rw [e1, e2]
  · have ha : z.cps.toList.all isLow = false := by
      rw [Bool.eq_false_iff]
      intro q
      rw [List.all_eq_true] at q
      exact h (List.countP_eq_length.mpr q)
    rw [ha, Bool.and_false, decide_eq_false (by omega), Bool.false_and]
theorem known_step (z : Str) {L : List Nat} {i c : Nat} (h : L[i]? = some c) : known z (L.take (i + 1)) = known z (L.take i) + Txt.count z ⟨#[c]⟩ := by
  unfold known
  have e : (L.map fun c => Txt.count z ⟨#[c]⟩)[i]? = some (Txt.count z ⟨#[c]⟩) := by rw [List.getElem?_map, h]; rfl
  rw [List.map_take, List.map_take, sum_take e]
end Mx

set_option maxRecDepth 100000
set_option maxHeartbeats 4000000
namespace Mx
open PySem PySem.Spec PyProof.Rows L2 Gx
/-! ### the order of texts -/
/-- a is not behind b -/
def leS (a b : Str) : Prop := ¬ b.cps.toList < a.cps.toList
theorem leS_iff (a b : Str) : leS a b ↔ ltCps b.cps.toList a.cps.toList = false := by
  rw [ltCps_eq, decide_eq_false_iff_not]
  exact Iff.rfl
theorem leS_anti {a b : Str} (h1 : leS a b) (h2 : leS b a) : a = b := by
  have e : a.cps.toList = b.cps.toList := List.le_antisymm (as := a.cps.toList) (bs := b.cps.toList) h1 h2
  cases a
  cases b
  simp only [Str.mk.injEq]
  exact Array.toList_inj.mp e
theorem leS_refl (a : Str) : leS a a := List.lt_irrefl _
theorem leS_trans {a b c : Str} (h1 : leS a b) (h2 : leS b c) : leS a c :=
  List.le_trans (l₁ := a.cps.toList) (l₂ := b.cps.toList) (l₃ := c.cps.toList) h1 h2
theorem leS_total (a b : Str) : leS a b ∨ leS b a := List.le_total a.cps.toList b.cps.toList
theorem risingS_iff : ∀ (l : List Str) (p : Str), risingS p l = true ↔ (p :: l).Pairwise leS
  | [], p => by simp [risingS]
  | x :: r, p => by
    rw [risingS, Bool.and_eq_true, risingS_iff r x, Bool.not_eq_true', ← leS_iff]
    constructor
    · rintro ⟨h1, h2⟩
      refine List.pairwise_cons.mpr ⟨fun y hy => ?_, h2⟩
      rcases List.mem_cons.mp hy with rfl | hy
      · exact h1
      · exact leS_trans h1 ((List.pairwise_cons.mp h2).1 y hy)
    · intro h
      obtain ⟨h1, h2⟩ := List.pairwise_cons.mp h
      exact ⟨h1 x (List.mem_cons_self ..), h2⟩
theorem sortedS_iff (l : List Str) : sortedS l = true ↔ l.Pairwise leS := by
  cases l with
  | nil => simp [sortedS]
  | cons x r => exact risingS_iff r x
theorem sortedS_unique {l m : List Str} (h : l.Perm m) (hl : sortedS l = true) (hm : sortedS m = true) : l = m :=
  List.Perm.eq_of_pairwise (fun _ _ _ _ => leS_anti) ((sortedS_iff l).mp hl) ((sortedS_iff m).mp hm) h
/-- a list of texts is what sorting makes of it just if it is sorted -/
theorem eq_sorted_iff {l m : List Str} (h : m.Perm l) (hm : sortedS m = true) : decide (l = m) = sortedS l := by
  cases e : sortedS l with
  | true => exact decide_eq_true (sortedS_unique h.symm e hm)
  | false => exact decide_eq_false fun q => by rw [q, hm] at e; cases e
/-! ### data of texts -/
def tD (xs : List Str) : List PyData := xs.map PyData.str
theorem eqv_texts : ∀ xs ys : List Str, PyData.eqvAll (tD xs) (tD ys) = decide (xs = ys)
  | [], [] => by simp [tD, PyData.eqvAll]
  | [], y :: ys => by simp [tD, PyData.eqvAll]
  | x :: xs, [] => by simp [tD, PyData.eqvAll]
  | x :: xs, y :: ys => by
    have ih := eqv_texts xs ys
    unfold tD at ih ⊢
    rw [List.map_cons, List.map_cons, PyData.eqvAll, ih, PyData.eqv]
    by_cases h : x = y
    · subst h
      by_cases h2 : xs = ys
      · subst h2
        simp
      · rw [decide_eq_false h2, Bool.and_false, decide_eq_false fun q => h2 (List.cons.inj q).2]
    · rw [decide_eq_false fun q => h (List.cons.inj q).1, beq_eq_false_iff_ne.mpr h, Bool.false_and]
theorem dp_texts {K : PySem.W.Frag} {H : Hp} : ∀ xs : List Str, DpAll K H (xs.map V.str) (tD xs)
  | [] => .nil
  | x :: xs => .cons (.str x) (dp_texts xs)
theorem canLay_texts : ∀ xs : List Str, (∀ x ∈ xs, PyData.strOk x = true) → PyData.canLayAll0 (tD xs) = true
  | [], _ => by simp [tD, PyData.canLayAll0]
  | x :: xs, h => by
    have ih := canLay_texts xs fun y hy => h y (List.mem_cons_of_mem _ hy)
    unfold tD at ih ⊢
    rw [List.map_cons, PyData.canLayAll0, ih, PyData.canLay0, h x (List.mem_cons_self ..)]
    rfl
theorem depth_texts : ∀ xs : List Str, PyData.depthAll (tD xs) ≤ 1
  | [] => by simp [tD, PyData.depthAll]
  | x :: xs => by
    have ih := depth_texts xs
    unfold tD at ih ⊢
    rw [List.map_cons, PyData.depthAll]
    simp only [PyData.depth]
    omega
theorem shaped_texts {xs : List Str} (h : ∀ x ∈ xs, PyData.strOk x = true) : SeqAt.shaped (.list (tD xs)) = true := by
  unfold SeqAt.shaped
  rw [Bool.and_eq_true]
  refine ⟨by simp only [PyData.canLay0]; exact canLay_texts xs h, decide_eq_true ?_⟩
  have := depth_texts xs
  simp only [PyData.depth]
  omega
theorem shaped_textsT {xs : List Str} (h : ∀ x ∈ xs, PyData.strOk x = true) : SeqAt.shaped (.tuple (tD xs)) = true := by
  unfold SeqAt.shaped
  rw [Bool.and_eq_true]
  refine ⟨by simp only [PyData.canLay0]; exact canLay_texts xs h, decide_eq_true ?_⟩
  have := depth_texts xs
  simp only [PyData.depth]
  omega
end Mx

set_option maxRecDepth 100000
set_option maxHeartbeats 4000000
namespace Gx
open PySem PySem.Spec PyProof.Rows L2 SeqAt
open AutoSeq1 (wpAny_loadPart')
/-! ### a dict is no tuple -/
theorem tup_eq_dict (l b : Addr) (items : Array Value) (n : Nat) (dd dd2 : Option Addr) (sl sl2 : Array (Option Value)) (d2 : Data) :
    Meets (Builtin.«tuple.__eq__» ⟨[.ref l, .ref b], []⟩) (fun _ R s => s.heap.get? l = some { cls := .type "tuple", dict := dd, data := .seq items n, slots := sl } ∧ s.heap.get? b = some { cls := .type "dict", dict := dd2, data := d2, slots := sl2 } ∧ R (.ok (.ret .notImplemented)) s) :=
  .of_wp fun prog w A R s h => by obtain ⟨hp, g, d, tk, os⟩ := s; obtain ⟨hl, hb, h⟩ := h; have f1 := F.sub_dict_tuple; wp_walk using wpAny_loadPart' hl, wpAny_loadPart' hb; exact ⟨_, rfl, h⟩
theorem dict_eq_tup {prog : Program} {w : World} {A : Around} {E : Value → Shared → Prop} {s : Shared} {Q : Value → Shared → Prop} {a b : Addr} (da : s.TypeIs (.ref a) "dict") (hb : s.TypeIs (.ref b) "tuple") (h : Q .notImplemented s) :
    wpAny (model prog w) A (call (.builtin "dict.__eq__") [.ref a, .ref b]) Q E s := by
  refine wpAny_call_entry PySem.F.slot_dict_eq da PySem.F.entry_dict_eq ?_ (PySem.F.args_dict_eq_2 _ _)
  show wpAny _ _ (Builtin.Dict.dictSlotArgs "__eq__" ⟨[.ref a, .ref b], []⟩ >>= _) _ _ s
  refine wpAny_bind ?_
  unfold Builtin.Dict.dictSlotArgs
  refine wpAny_bind (wpAny_notOrdered_dict da ?_)
  show wpAny _ _ (pure (Value.ref a, Value.ref b)) _ _ s
  refine wpAny_pure ?_
  refine wpAny_bind (wpAny_isInstance (T := "tuple") hb PySem.F.sub_tuple_dict ?_)
  simp only [Bool.not_false, if_true]
  exact wpAny_bind (wpAny_rule (wpAny_bind (wpAny_pure (wpAny_pure ⟨_, rfl, h⟩))))
section
variable {A : Around} {s : Shared}
theorem eqAt_tup_dict {l b : Addr} {items : Array Value} {ob : Obj} (hl : s.heap.IsTuple l items) (hb : s.heap.get? b = some ob) (hcb : ob.cls = .type "dict") (hu : A.units < cLine) : EqAt A s (.ref l) (.ref b) false := by
  obtain ⟨⟨cls, dd, data, sl⟩, ho, hc, n, hd⟩ := id hl
  simp only at hc hd
  subst hc hd
  obtain ⟨cls2, dd2, data2, sl2⟩ := ob
  simp only at hcb
  subst hcb
  have hne : l ≠ b := fun e => by
    subst e
    rw [ho] at hb
    exact absurd (congrArg Obj.cls (Option.some.inj hb)) (by simp)
  refine .of_refs hne fun prog w E Q h => ?_
  exact rc_eq_decline_or (k := false) ⟨_, ho, rfl⟩ ⟨_, hb, rfl⟩ (by decide) F.sub_dict_tuple F.slot_tuple_eq F.slot_dict_eq_refl
    (fun _ hq => call_meets F.slot_tuple_eq ⟨_, ho, rfl⟩ F.entry_tuple_eq (F.args_tuple_eq_2 _ _) (tup_eq_dict l b items n dd dd2 sl sl2 data2) ⟨ho, hb, hq⟩)
    (fun _ hq => dict_eq_tup ⟨_, hb, rfl⟩ ⟨_, ho, rfl⟩ hq)
    (fun _ hq => wpAny_isSame_ref_other' hne ho hb (by simp) hq) (.inr hu) h
end
section
variable {X : Cx}
/-- x in a list, data that are not deep -/
def rInF (K : PySem.W.Frag) : R2 := fun x y H Q => ∃ d ds, Dp K H x d ∧ Dp K H y (.list ds) ∧ d.canLay0 = true ∧ PyData.canLayAll0 ds = true ∧ d.depth ≤ 10 ∧ Q (.bl (ds.any fun z => PyData.eqv z d)) H
theorem op_inF (hu : X.A.units + 64 < cLine) : OpR X (compareOp .In) (rInF X.K) := by
  intro pins s σ H x y v u Q I rx ry h
  obtain ⟨d, ds, hd, he, sd, se, dp, q⟩ := h
  obtain ⟨as, r1⟩ := Dp.reads I d x v hd rx
  obtain ⟨bs, r2⟩ := Dp.reads I (.list ds) y u he ry
  exact SeqAt.in_list_reads r2 r1 se sd (by omega) ⟨.bl _, H, I, rfl, q⟩
/-- a dict in a list of tuples: it is not in it -/
def rInDict (K : PySem.W.Frag) : R2 := fun x y H Q => ∃ (a l : Addr) (kvs : List (Key × V)) (ps : List Addr), x = .ref a ∧ H a = some (.dK kvs) ∧ y = .ref l ∧ SqL K H l (ps.map V.ref) ∧ (∀ p ∈ ps, ∃ xs, SqT K H p xs) ∧ Q (.bl false) H
theorem op_inDict (hu : X.A.units + 64 < cLine) : OpR X (compareOp .In) (rInDict X.K) := by
  intro pins s σ H x y v u Q I rx ry h
  obtain ⟨a, l, kvs, ps, rfl, ea, rfl, hl, hp, q⟩ := h
  cases rx
  cases ry
  obtain ⟨its, rv, pl, hz⟩ := I.list hl
  have ei := refs_at rv
  subst ei
  obtain ⟨_, _, vs, _, hd⟩ := dk_of I.hok ea
  obtain ⟨ob, hb, hD⟩ := Heap.dictOf_iff.mp hd
  have hcb : ob.cls = .type "dict" := by
    obtain ⟨es, ep, ex, _⟩ := hD
    exact ex.1
  refine SeqAt.in_listAt (fun _ => false) pl.isList (fun y hy => ?_) ⟨.bl false, H, I, ?_, q⟩
  · rw [List.mem_toArray] at hy
    obtain ⟨p, hpm, rfl⟩ := List.mem_map.mp hy
    obtain ⟨xs, hx⟩ := hp p hpm
    obtain ⟨its2, _, ht, _⟩ := I.tuple hx
    exact eqAt_tup_dict ht hb hcb (by show X.A.units + 1 < cLine; omega)
  · show Value.bool _ = Value.bool false
    rw [Array.any_eq_false' |>.mpr (fun _ _ => by simp)]
end
end Gx

set_option maxRecDepth 100000
set_option maxHeartbeats 4000000
/-! own errors over a built-in error that takes another's maker (KeyError takes LookupError's) -/
namespace Gx
open PySem PySem.Spec PySem.Calls Builtin
/-- what making asks of the chain -/
structure Chn (B : String) (bm : List Value) : Prop where
  own : bm.contains (.type B) = true
  att : bm.contains (.type "AttributeError") = false
  nam : bm.contains (.type "NameError") = false
section
variable {M : Model} {prog : Program} {w : World} {A : Around} {E : Value → Shared → Prop} {R : Result → Shared → Prop} {hp : Heap} {gn : Array GenState} {dr : Drawn} {tk : Nat} {os : OsState}
variable {nm q : Str} {C N : Addr} {bs bm bmB : List Value} {hdct : Bool} {sn : List Str} {sub : List Value} {ab : Bool} {col : Option Bool} {dd : Option Addr} {k0 k1 k2 k3 k5 : Option Value} {B mk ini : String}
theorem kx_check (F : ExcBaseFacts B mk ini bmB) (ch : Chn B bm) {us : List Value} {Q : Unit → Shared → Prop} (cc : hp.get? C = some (excClassObj nm q C N bs bm hdct sn sub ab col dd k0 k1 k2 k3 k5 mk)) (hq : Q () ⟨hp, gn, dr, tk, os⟩) :
    wpAny M A (checkBuiltinCall mk ⟨.ref C :: us, []⟩) Q E ⟨hp, gn, dr, tk, os⟩ := by
  have c1 : (Value.ref C :: bm).contains (.type B) = true := by rw [List.contains_cons, ch.own, Bool.or_true]
  have st := F.noStar
  simp only [F.newRow, F.newSplit, F.newKind, checkBuiltinCall]
  repeat (first | refine wpAny_loadPart_at cc ?_ | (refine wpAny_isSubtype_exc cc ?_; rw [c1]) | refine wpAny_staticBase_exc cc ?_ | refine wpAny_madeBy_exc cc ?_ | simp only [bne_self_eq_false, Bool.false_eq_true, if_false] | wp_step)
  exact hq
theorem kx_new (F : ExcBaseFacts B mk ini bmB) (ch : Chn B bm) {us : List Value} (cc : hp.get? C = some (excClassObj nm q C N bs bm hdct sn sub ab col dd k0 k1 k2 k3 k5 mk))
    (hq : R (.ok (.ret (.ref (hp.objs.size + 1)))) ⟨(hp.push (W.kdv_tup us)).push (W.excObj C hp.objs.size none .none), gn, dr, tk, os⟩) (hz : us.length ≤ sizeLine) :
    codeAny (model prog w) A (.builtin mk ⟨.ref C :: us, []⟩) R ⟨hp, gn, dr, tk, os⟩ := by
  have fe := F.ends
  have c1 : (Value.ref C :: bm).contains (.type B) = true := by rw [List.contains_cons, ch.own, Bool.or_true]
  have c2 : (Value.ref C :: bm).contains (.type "AttributeError") = false := by rw [List.contains_cons, ch.att]; rfl
  have c3 : (Value.ref C :: bm).contains (.type "NameError") = false := by rw [List.contains_cons, ch.nam]; rfl
  refine codeAny_builtinAt F.entry ?_
  unfold Builtin.«BaseException.__new__»
  refine wpAt_bind ?_
  show wpAt _ _ _ (stack >>= _) _ _ _
  refine wpAt_bind (wpAt_stack fun p0 low => wpAt_of_wpAny ?_)
  wp_walk
  refine wpAt_of_wpAny ?_
  rw [F.owner]
  repeat (first | with_reducible refine wpAny_madeHere_exc F.canon cc ?_ | with_reducible refine wpAny_loadPart_at cc ?_ | (with_reducible refine wpAny_isSubtype_exc cc ?_; first | rw [c1] | rw [c2] | rw [c3]) | wp_step)
  show R _ _
  rw [Heap.size_push]
  exact hq
theorem kx_type (F : ExcBaseFacts B mk ini bmB) (ch : Chn B bm) {us : List Value} {fI : Addr} {Q : Fin → Shared → Prop} (cc : hp.get? C = some (excClassObj nm q C N bs bm hdct sn sub ab col dd k0 k1 k2 k3 k5 mk))
    (li : W.Looks (model prog w) hp (typeLookup (.ref C) "__init__") (some (.ref fI))) (lb : ∀ o, W.Looks (model prog w) hp (bindSpecial (.ref fI) o) (.ref fI, [o])) (hz : us.length ≤ sizeLine)
    (hq : codeAny (model prog w) A (.call (.ref fI) ⟨.ref (hp.objs.size + 1) :: us, []⟩)
      (fun r s' => match r with | .ok (.ret v) => v = .none ∧ Q (.done (.ret (.ref (hp.objs.size + 1)))) s' | .ok _ => False | .error e => E e s')
      ⟨(hp.push (W.kdv_tup us)).push (W.excObj C hp.objs.size none .none), gn, dr, tk, os⟩) : wpAny (model prog w) A (Builtin.«type.__call__» ⟨.ref C :: us, []⟩) Q E ⟨hp, gn, dr, tk, os⟩ := by
  repeat (first | with_reducible refine wpAny_loadPart_at cc ?_ | with_reducible refine wpAny_madeBy_exc cc ?_ | wp_step)
  refine codeAny_call_builtin_code (Code.quiet_builtin _ F.quiet) (kx_check F ch cc ?_)
  refine kx_new F ch cc ?_ hz
  show wpAny _ _ _ _ _ _
  have old : ∀ b o, hp.get? b = some o → ((hp.push (W.kdv_tup us)).push (W.excObj C hp.objs.size none .none)).get? b = some o := fun b o e => Heap.get?_push_of_some _ (Heap.get?_push_of_some _ e)
  have cc1 := old _ _ cc
  have ne : ((hp.push (W.kdv_tup us)).push (W.excObj C hp.objs.size none .none)).get? (hp.objs.size + 1) = some (W.excObj C hp.objs.size none .none) := by heap_get
  have cs : (Value.ref C :: bm).contains (.ref C) = true := by simp
  have li1 := li.keeps old
  have lb1 := (lb (.ref (hp.objs.size + 1))).keeps old
  unfold isInstance
  repeat (first | with_reducible refine wpAny_loadPart_at ne ?_ | (with_reducible refine wpAny_isSubtype_exc cc1 ?_; rw [cs]) | wp_step)
  show wpAny _ _ (typeLookup (.ref C) _) _ _ _
  refine li1.at ?_
  refine wpAny_holding (wpAny_bind (lb1.at ?_))
  refine wpAny_bind (wpAny_call (codeAny_mono hq fun r s1 z => ?_))
  rcases r with e | (v | _ | _ | _) <;> first | exact z | exact z.elim | skip
  obtain ⟨rfl, z⟩ := z
  first | exact wpAny_pure (wpAny_pure z) | (wp_walk; exact z)
theorem kx_call (F : ExcBaseFacts B mk ini bmB) (ch : Chn B bm) {us : List Value} {fI : Addr} (cc : hp.get? C = some (excClassObj nm q C N bs bm hdct sn sub ab col dd k0 k1 k2 k3 k5 mk))
    (li : W.Looks (model prog w) hp (typeLookup (.ref C) "__init__") (some (.ref fI))) (lb : ∀ o, W.Looks (model prog w) hp (bindSpecial (.ref fI) o) (.ref fI, [o])) (hz : us.length ≤ sizeLine)
    (hq : codeAny (model prog w) (A.under (.builtin "type.__call__" ⟨.ref C :: us, []⟩)) (.call (.ref fI) ⟨.ref (hp.objs.size + 1) :: us, []⟩) (W.InitBack (hp.objs.size + 1) R)
      ⟨(hp.push (W.kdv_tup us)).push (W.excObj C hp.objs.size none .none), gn, dr, tk, os⟩) : codeAny (model prog w) A (.call (.ref C) ⟨us, []⟩) R ⟨hp, gn, dr, tk, os⟩ := by
  have t1 := tc_lookup
  have t2 := tc_bind (.ref C)
  have t3 : (⟨hp, gn, dr, tk, os⟩ : Shared).TypeIs (.ref C) "type" := ⟨_, cc, rfl⟩
  refine codeAny_of_tree ?_
  show wpAny _ _ (callAny (.ref C) _) _ _ _
  repeat (any_goals (first | assumption | with_reducible refine wpAny_loadPart_at cc ?_ | wp_step))
  refine ⟨rfl, ?_⟩
  refine codeAny_call_builtin_at (Code.quiet_builtin _ (by decide +kernel)) entry_typeCall (wpAny_check_type_call_sub cc (kx_type F ch cc li lb hz ?_))
  refine codeAny_mono hq fun r s1 z => ?_
  rcases r with e | (v | _ | _ | _) <;> exact z
end
end Gx
namespace Gx
open PySem PySem.Spec PySem.W PySem.Calls PyProof.Rows L2
/-! ### own errors with one field, made, over any base -/
/-- a base: the maker's facts, and what each chain over it holds -/
structure XBase (B mk ini : String) (bmF bmB : List Value) : Prop where
  F : ExcBaseFacts B mk ini bmF
  ch : ∀ bm : List Value, excTail bmB bm = true → Chn B bm
theorem xbase_of {B mk ini : String} {bmB : List Value} (F : ExcBaseFacts B mk ini bmB) : XBase B mk ini bmB bmB :=
  ⟨F, fun bm t => ⟨by rw [excTail_contains _ bm t]; exact F.hasB, by rw [excTail_contains _ bm t]; exact F.noAttr, by rw [excTail_contains _ bm t]; exact F.noName⟩⟩
abbrev bmKey : List Value := [.type "KeyError", .type "LookupError", .type "Exception", .type "BaseException", .type "object"]
theorem xbase_KeyError : XBase "LookupError" "LookupError.__new__" "LookupError.__init__" [.type "LookupError", .type "Exception", .type "BaseException", .type "object"] bmKey :=
  ⟨PySem.F.excBase_LookupError, fun bm t => ⟨by rw [excTail_contains _ bm t]; decide +kernel, by rw [excTail_contains _ bm t]; decide +kernel, by rw [excTail_contains _ bm t]; decide +kernel⟩⟩
section
variable {prog : Program} {w : World} {A : Around} {R : Result → Shared → Prop} {s : Shared} {K : Frag} {mg : Str → Option Value} {C fI : Addr} {cn fld : Str} {B mk ini : String} {bmF bmB : List Value}
theorem x_madeC (FB : XBase B mk ini bmF bmB) (T : XTxt K mg cn fld mk bmB C fI) (D : InitDoes K C fI fld) {v : Value} (inK : K.In s.heap) (lim : s.heap.NoLimit) (room : A.depth + 1 < recursionLimit)
    (hq : ∀ h' tk e d, XMade s.heap h' e C d fld v → R (.ok (.ret (.ref e))) { s with heap := h', toks := tk }) : codeAny (model prog w) A (.call (.ref C) ⟨[v], []⟩) R s := by
  obtain ⟨nm, q, N, bs, bm, sn, sub, ab, col, dd, k0, k1, k2, k3, k5, hC, tail⟩ := T.cls
  obtain ⟨hp, g, dr, tk, os⟩ := s
  have stay : ∀ b o, hp.get? b = some o → ((hp.push (kdv_tup [v])).push (excObj C hp.objs.size none .none)).get? b = some o := fun b o e => Heap.get?_push_of_some _ (Heap.get?_push_of_some _ e)
  have there : ((hp.push (kdv_tup [v])).push (excObj C hp.objs.size none .none)).get? (hp.objs.size + 1) = some (excObj C hp.objs.size none .none) := by heap_get
  have fresh : K.lookup (hp.objs.size + 1) = none := by
    cases e : K.lookup (hp.objs.size + 1) with
    | none => rfl
    | some o => exact absurd (Nat.lt_of_succ_lt (Heap.lt_size (inK _ _ e))) (Nat.lt_irrefl _)
  refine kx_call FB.F (FB.ch bm tail) (inK _ _ hC) (looks_findIn inK T.iC) (fun self => bind_fn inK self T.tC) (one_line v) ?_
  refine D prog w _ _ ⟨(hp.push (kdv_tup [v])).push (excObj C hp.objs.size none .none), g, dr, tk, os⟩ _ _ v (inK.keeps stay) (lim.keeps stay) there fresh room fun h' tk' dx M => ?_
  have old : ∀ b o, hp.get? b = some o → h'.get? b = some o := fun b o e => M.keep b o (Nat.ne_of_lt (Nat.lt_succ_of_lt (Heap.lt_size e))) (stay b o e)
  have z : hp.objs.size + 1 + 1 ≤ dx := by
    have q := M.big
    first
      | exact q
      | simpa only [Heap.size_push] using q
  exact ⟨rfl, hq h' tk' (hp.objs.size + 1) dx ⟨old, Nat.le_succ _, ⟨_, _, M.obj, rfl, rfl, rfl, rfl⟩, Nat.le_trans (Nat.le_trans (Nat.le_succ _) (Nat.le_succ _)) z, M.ne, M.ns⟩⟩
end
/-! ### errors as values -/
/-- the error at e, of the class C, its dict at d -/
def ExV (C e : Addr) (d : Option Addr) : HO := .ext fun h => ∃ (oe : Obj) (vs : Array Value), h.get? e = some oe ∧ oe.cls = .ref C ∧ oe.dict = d ∧ oe.data = .fields vs
theorem exV_ok {P : Program} {w : World} {H : Hp} {h : Heap} {C e : Addr} {d : Option Addr} {oe : Obj} {vs : Array Value} (he : h.get? e = some oe) (hc : oe.cls = .ref C) (hd : oe.dict = d) (hf : oe.data = .fields vs) : ObjOk P w H h e (ExV C e d) :=
  ⟨⟨oe, vs, he, hc, hd, hf⟩, ⟨oe, he⟩, fun h1 h2 ⟨o, us, a, b, c, f⟩ k => ⟨o, us, k _ a, b, c, f⟩⟩
theorem exV_at {P : Program} {w : World} {H : Hp} {h : Heap} {C e : Addr} {d : Option Addr} (ok : HOk P w H h) (he : H e = some (ExV C e d)) : ∃ (oe : Obj) (vs : Array Value), h.get? e = some oe ∧ oe.cls = .ref C ∧ oe.dict = d ∧ oe.data = .fields vs :=
  (show ObjOk P w H h e (ExV C e d) from ok e _ he).1
section
variable {X : Cx} {C fI : Addr} {cn fld : Str} {B mk ini : String} {bmF bmB : List Value}
/-- cn(e), the error kept -/
def tMkV (C : Addr) (fld : Str) (ta : TA) : TE := fun σ H Q => ta σ H fun vs H1 => ∃ v, vs = [v] ∧ ∀ d e, H1 d = none → H1 e = none → e ≠ d → Q (.ref e) (upd (upd H1 d (.xd [(fld, v)])) e (ExV C e (some d)))
theorem pe_mkV {a : Expr} {ta : TA} {p pos : Pos} {k : Nat} (FB : XBase B mk ini bmF bmB) (T : XTxt X.K X.mg cn fld mk bmB C fI) (D : InitDoes X.K C fI fld) (room : Room k X.A) (ha : PA X [a] ta) (hg : Gl X cn)
    (hdb : (cn == ("__debug__" : Str)) = false := by decide) (hst : starEach (a :: []) X.env = (false, eval a X.env) :: starEach [] X.env := by rfl) (hpl : (backTo pos (starEach [] X.env)).any (·.1) = false := by rfl) :
    PE X (.Call (.Name cn p) [a] [] pos) (tMkV C fld ta) := by
  refine ⟨fun pins s σ H Q I h => ?_⟩
  refine wpAny_Call_Name_kw (ld_glob I hg T.gC ?_ hdb)
  refine PySem.W.callWith_K (h₀ := X.base) I.ok.mod.kin T.kC (thn (ha.run pos pins s σ H _ I h) ?_) hst hpl
  rintro us s1 ⟨vs, H1, I1, r1, v, rfl, q1⟩
  refine ⟨I1.kIn, ?_⟩
  obtain ⟨u, rfl, rv⟩ := vals1 r1
  show wpAny _ _ (call (.ref C) [u]) _ _ _
  have lim := I1.nolimit
  obtain ⟨hp, g, dr, tk, os⟩ := s1
  refine wpAny_call (x_madeC FB T D I1.kIn lim (by have := room.dp; omega) fun h' tk' e d M => ?_)
  obtain ⟨oe, fv, hoe, hc, hd, hdat, h1⟩ := M.obj
  obtain ⟨G', g1, g2⟩ := restrict h' fun b => decide (b ≠ e)
  have off : ∀ b, b ≠ e → G'.get? b = h'.get? b := fun b hb => g1 b (decide_eq_true hb)
  have gone : G'.get? e = none := g2 e (by simp)
  have old : ∀ b o, hp.get? b = some o → G'.get? b = some o := fun b o q => (off b (Nat.ne_of_lt (Nat.lt_of_lt_of_le (Heap.lt_size q) M.new))).trans (M.keep b o q)
  have ob : ObjOk X.prog X.w (upd H1 d (.xd [(fld, v)])) G' d (.xd [(fld, v)]) := ⟨_, M.ns.at (fun o q => (off d M.ne).trans q), fun f => relO_one rv f⟩
  have J : Inv X pins σ (upd H1 d (.xd [(fld, v)])) ⟨G', g, dr, tk', os⟩ := I1.laid (t' := tk') old M.big ob
  have ne0 : H1 e = none := I1.hok.fresh M.new
  have J2 := J.laidN (h' := h') (t' := tk') (o := ExV C e (some d)) (fun b o q => by
    by_cases hb : b = e
    · have q' : G'.get? b = some o := q
      rw [hb, gone] at q'
      cases q'
    · exact (off b hb).symm.trans q) gone (by rw [upd_ne (Ne.symm M.ne)]; exact ne0) (exV_ok hoe hc hd hdat)
  exact ⟨.ref e, _, J2, rfl, q1 d e (I1.hok.fresh M.big) ne0 (Ne.symm M.ne)⟩
end
end Gx

set_option maxRecDepth 100000
set_option maxHeartbeats 4000000
namespace Gx
open PySem PySem.Spec PySem.W PySem.Calls PyProof.Rows L2
/-! ### own errors without an __init__ of their own, as values -/
/-- what the written part says of such a class -/
structure XPln (K : Frag) (mg : Str → Option Value) (cn : Str) (mk ini : String) (bmB : List Value) (C : Addr) : Prop where
  gC : mg cn = some (.ref C)
  cls : ∃ nm q N bs bm hd sn sub ab col dd k0 k1 k2 k3 k5, K.lookup C = some (excClassObj nm q C N bs bm hd sn sub ab col dd k0 k1 k2 k3 k5 mk) ∧ excTail bmB bm = true
  iC : findIn K (.ref C) "__init__" = some (some (.builtin ini))
  kC : keepIn K (.ref C) = true
/-- .. of any own class of errors, for isinstance -/
structure XCls (K : Frag) (C : Addr) : Prop where
  isC : isClsIn K C = true
  ga : findIn K (.ref C) "__getattribute__" = some (some (.builtin "BaseException.__getattribute__"))
  gg : findIn K (.ref C) "__getattr__" = some none
  ex : subIn K (.ref C) (.type "BaseException") = some true
  cl : findIn K (.ref C) "__class__" = some (some (.builtin "object.__class__"))
  sp : specialIn K (.builtin "object.__class__") "__get__" = some (some (.builtin "getset_descriptor.__get__"))
  ta : takesIn K (.builtin "object.__class__") = some true
  ob : mroIn K C (.type "object") = some true
section
variable {X : Cx} {C : Addr} {cn : Str} {B mk ini : String} {bmB : List Value}
def tMkP (C : Addr) (ta : TA) : TE := fun σ H Q => ta σ H fun vs H1 => vs.length ≤ 1000 ∧ ∀ e, H1 e = none → Q (.ref e) (upd H1 e (ExV C e none))
theorem pe_mkP {a : Expr} {ta : TA} {p pos : Pos} (F : ExcBaseFacts B mk ini bmB) (T : XPln X.K X.mg cn mk ini bmB C) (ha : PA X [a] ta) (hg : Gl X cn)
    (hdb : (cn == ("__debug__" : Str)) = false := by decide) (hst : starEach (a :: []) X.env = (false, eval a X.env) :: starEach [] X.env := by rfl) (hpl : (backTo pos (starEach [] X.env)).any (·.1) = false := by rfl) :
    PE X (.Call (.Name cn p) [a] [] pos) (tMkP C ta) := by
  refine ⟨fun pins s σ H Q I h => ?_⟩
  refine wpAny_Call_Name_kw (ld_glob I hg T.gC ?_ hdb)
  refine PySem.W.callWith_K (h₀ := X.base) I.ok.mod.kin T.kC (thn (ha.run pos pins s σ H _ I h) ?_) hst hpl
  rintro us s1 ⟨vs, H1, I1, r1, hz, q1⟩
  refine ⟨I1.kIn, ?_⟩
  obtain ⟨nm, q, N, bs, bm, hd, sn, sub, ab, col, dd, k0, k1, k2, k3, k5, hC, tail⟩ := T.cls
  have hl : us.length ≤ sizeLine := by
    rw [← r1.length]
    exact Nat.le_trans hz (by decide)
  obtain ⟨hp, g, dr, tk, os⟩ := s1
  refine PySem.W.call_B F (fun Y => excTail_contains Y bm tail) (I1.kIn _ _ hC) (looks_findIn I1.kIn T.iC) hl fun h' k he ht => ?_
  have fr := I1.hok.fresh (Nat.le_succ hp.objs.size)
  exact ⟨.ref (hp.objs.size + 1), _, I1.laid (t' := tk) k (Nat.le_succ _) (exV_ok he rfl rfl rfl), rfl, q1 _ fr⟩
end
/-- the error at e stands, with its dict if it has one -/
def ExAt (H : Hp) (e C : Addr) (d : Option Addr) (fs : List (Str × V)) : Prop := H e = some (ExV C e d) ∧ ∀ dd, d = some dd → H dd = some (.xd fs)
section
variable {X : Cx} {pins : List (Addr × Obj)} {σ : L2.St} {H : Hp} {s : Shared}
theorem exAt_inst {e C : Addr} {d : Option Addr} {fs : List (Str × V)} (I : Inv X pins σ H s) (h : ExAt H e C d fs) : ∃ (oe : Obj) (od : Option Obj), PySem.W.InstAt s.heap e oe C od := by
  obtain ⟨h1, h2⟩ := h
  obtain ⟨oe, vs, he, hc, hd, hf⟩ := exV_at I.hok h1
  have nc : PySem.W.notCls oe = true := by unfold PySem.W.notCls; rw [hf] <;> rfl
  cases d with
  | none => exact ⟨oe, none, he, hc, nc, by rw [hd]; trivial⟩
  | some dd =>
    obtain ⟨mA, hns, _⟩ := (show ObjOk X.prog X.w H s.heap dd (.xd fs) from I.hok dd _ (h2 dd rfl))
    obtain ⟨od, ho, _⟩ := lookIn_ns hns
    exact ⟨oe, some od, he, hc, nc, by rw [hd]; exact ho⟩
end
/-- isinstance(e, c), e an own error -/
def rIsV (K : PySem.W.Frag) : List V → Hp → VK → Prop := fun xs H Q => ∃ (e C : Addr) (d : Option Addr) (fs : List (Str × V)) (c : V) (u : Value) (b : Bool), xs = [.ref e, c] ∧ ExAt H e C d fs ∧ XCls K C ∧ ClsV c u ∧ PySem.W.kitOne K (.ref C) u = some b ∧ Q (.bl b) H
section
variable {X : Cx}
theorem call_isV : CallR X (.builtin "isinstance") (rIsV X.K) := by
  intro pins s σ H xs us Q I r h
  obtain ⟨e, C, d, fs, c, u, b, rfl, hx, T, k, hb, q⟩ := h
  obtain ⟨u1, u2, rfl, r1, r2⟩ := vals2 r
  have e2 := k.eq r2
  subst e2
  cases (show u1 = Value.ref e from r1)
  obtain ⟨oe, od, J⟩ := exAt_inst I hx
  exact PySem.W.kia_one (PySem.W.kitx_exc (ox := oe) (od := od) T.isC T.ga T.gg T.ex T.cl T.sp T.ta T.ob) I.kIn J hb (fun z => nomatch z) fun tk => ⟨.bl b, H, I.tok tk, rfl, q⟩
/-- e.fld, e an own error with that field -/
def tGetV (C : Addr) (fld : Str) (te : TE) : TE := fun σ H Q => te σ H fun x H1 => ∃ (e dd : Addr) (v : V), x = .ref e ∧ ExAt H1 e C (some dd) [(fld, v)] ∧ Q v H1
theorem pe_getV {C fI : Addr} {cn fld : Str} {mk : String} {bmB : List Value} {e : Expr} {te : TE} {pos : Pos} (T : XTxt X.K X.mg cn fld mk bmB C fI) (he : PE X e te)
    (hb : attributeBase e fld X.env (eval e X.env) = eval e X.env := by rfl) : PE X (.Attribute e fld pos) (tGetV C fld te) := by
  constructor
  intro pins s σ H Q I h
  refine attr_of hb (thn (he.run pins s σ H _ I h) ?_)
  rintro u s1 ⟨x, H1, I1, rx, e1, dd, v, rfl, ⟨h1, h2⟩, q⟩
  obtain rfl : u = Value.ref e1 := rx
  obtain ⟨oe, vs, here, hc, hd, hf⟩ := exV_at I1.hok h1
  obtain ⟨mA, hns, hr⟩ := (show ObjOk X.prog X.w H1 s1.heap dd (.xd [(fld, v)]) from I1.hok dd _ (h2 dd rfl))
  obtain ⟨od, ho, hl⟩ := lookIn_ns hns
  have l : List.lookup fld [(fld, v)] = some v := by simp [List.lookup]
  have hrf := hr fld
  rw [l] at hrf
  obtain ⟨u, hu, ru⟩ := RelO.some_of (v := v) (o := mA fld) hrf
  have J : PySem.W.InstAt s1.heap e1 oe C (some od) := ⟨here, hc, by unfold PySem.W.notCls; rw [hf] <;> rfl, by rw [hd]; exact ho⟩
  exact HandSPX.exc_get I1.kIn J T.ga T.gg T.exC (PySem.W.findObj_own T.hdC T.noN rfl (by rw [hl, hu])) (handed_of ru) ⟨v, H1, I1.tok _, ru, q⟩
end
end Gx

set_option maxRecDepth 100000
set_option maxHeartbeats 4000000
namespace Gx
open PySem PySem.Spec PySem.W PySem.Calls PyProof.Rows L2
/-! ### stores over KeyError -/
theorem store_KeyErr : StoreFacts "KeyError" bmKey "object.__setattr__" "object" := by
  constructor
  case mro => kernel_rfl
  case slot => exact .of (owner := "object") (n := "__setattr__") (by rw [typeLookup_type, builtinLookup_eq_fast]; kernel_rfl) (by decide +kernel) (by decide +kernel) (by decide +kernel) (.inl (by decide +kernel)) (by rw [isSubtype_type]; kernel_rfl)
  case entry => exact PySem.F.store_LookupError.entry
  case kind => decide +kernel
  case split => decide +kernel
  case hasOwner => decide +kernel
  case args => exact fun a b c => PySem.F.store_LookupError.args a b c
  case passes => exact fun o => by kernel_rfl
/-! ### the table of all errors: who is derived from whom -/
def subC (i j : Nat) : Bool := i == j || (j == 0 && decide (i ≤ 11))
def BS : List String := ["ValueError", "KeyError", "IndexError", "LookupError", "RuntimeError", "OverflowError", "ArithmeticError"]
def subB (i : Nat) (b : String) : Bool :=
  if b = "ValueError" then decide (i ≤ 11) else if b = "KeyError" then i == 12 || i == 13 else if b = "IndexError" then i == 15
  else if b = "LookupError" then decide (12 ≤ i) && decide (i ≤ 15) else if b = "RuntimeError" then i == 16 else if b = "OverflowError" then i == 17 else decide (17 ≤ i)
def xclsB (K : Frag) (C : Addr) : Bool :=
  isClsIn K C && (decide (findIn K (.ref C) "__getattribute__" = some (some (.builtin "BaseException.__getattribute__"))) && (decide (findIn K (.ref C) "__getattr__" = some none) && (decide (subIn K (.ref C) (.type "BaseException") = some true) &&
    (decide (findIn K (.ref C) "__class__" = some (some (.builtin "object.__class__"))) && (decide (specialIn K (.builtin "object.__class__") "__get__" = some (some (.builtin "getset_descriptor.__get__"))) &&
    (decide (takesIn K (.builtin "object.__class__") = some true) && decide (mroIn K C (.type "object") = some true)))))))
theorem xclsB_ok {K : Frag} {C : Addr} (h : xclsB K C = true) : XCls K C := by
  unfold xclsB at h
  simp only [Bool.and_eq_true, decide_eq_true_eq] at h
  obtain ⟨a, b, c, d, e, f, g, i⟩ := h
  exact ⟨a, b, c, d, e, f, g, i⟩
def tabB (K : Frag) (cs : List Addr) : Bool := (List.range 20).all fun i => xclsB K (cs.getD i 0) && (((List.range 20).all fun j => decide (kitOne K (.ref (cs.getD i 0)) (.ref (cs.getD j 0)) = some (subC i j))) && (BS.all fun b => decide (kitOne K (.ref (cs.getD i 0)) (.type b) = some (subB i b))))
theorem getD_range (c : Nat → Addr) {i : Nat} (h : i < 20) : ((List.range 20).map c).getD i 0 = c i := by
  rw [List.getD_eq_getElem?_getD, List.getElem?_map, List.getElem?_range h]
  rfl
section
variable {K : Frag} {c : Nat → Addr} (t : tabB K ((List.range 20).map c) = true) {i : Nat} (hi : i < 20)
include t hi
theorem tab_at : xclsB K (c i) = true ∧ (∀ j, j < 20 → kitOne K (.ref (c i)) (.ref (c j)) = some (subC i j)) ∧ ∀ b ∈ BS, kitOne K (.ref (c i)) (.type b) = some (subB i b) := by
  unfold tabB at t
  have h := List.all_eq_true.mp t i (List.mem_range.mpr hi)
  simp only [Bool.and_eq_true, List.all_eq_true, decide_eq_true_eq, List.mem_range] at h
  rw [getD_range c hi] at h
  refine ⟨h.1, fun j hj => ?_, fun b hb => h.2.2 b hb⟩
  have := h.2.1 j hj
  rw [getD_range c hj] at this
  exact this
theorem tab_cls : XCls K (c i) := xclsB_ok (tab_at t hi).1
theorem tab_own {j : Nat} (hj : j < 20) : kitOne K (.ref (c i)) (.ref (c j)) = some (subC i j) := (tab_at t hi).2.1 j hj
theorem tab_blt {b : String} (hb : b ∈ BS) : kitOne K (.ref (c i)) (.type b) = some (subB i b) := (tab_at t hi).2.2 b hb
end
end Gx

set_option maxRecDepth 100000
set_option maxHeartbeats 4000000
namespace Gx
open PySem PySem.Spec PySem.W PySem.Calls PyProof.Rows L2
/-- an own class of errors is caught by its own name -/
theorem exm_own {K : PySem.W.Frag} {S : Addr} (b : PySem.W.subIn K (.ref S) (.type "BaseException") = some true) (i : PySem.W.isClsIn K S = true) (t : PySem.W.typeIn K (.ref S) = some (.type "type")) (s : PySem.W.subIn K (.ref S) (.ref S) = some true) : PySem.W.exmOne K (.ref S) (.ref S) = some true := by
  have i' : (PySem.W.clsIn K S).isSome = true := i
  unfold PySem.W.exmOne PySem.W.kitCls
  simp [b, i', t, s]
section
variable {X : Cx} {C : Addr} {cn : Str} {B mk ini : String} {bmB : List Value}
/-- raise cn(a), an own error without an __init__ of its own -/
def tMkR (C : Addr) (ta : TA) : L2.St → Hp → XK → Prop := fun σ H Q => ta σ H fun vs H1 => vs.length ≤ 1000 ∧ Q (.ref C) none H1
theorem pmk_P {a : Expr} {ta : TA} {p pos : Pos} (F : ExcBaseFacts B mk ini bmB) (T : XPln X.K X.mg cn mk ini bmB C) (XC : XCls X.K C) (ha : PA X [a] ta) (hg : Gl X cn)
    (hdb : (cn == ("__debug__" : Str)) = false := by decide) (hst : starEach (a :: []) X.env = (false, eval a X.env) :: starEach [] X.env := by rfl) (hpl : (backTo pos (starEach [] X.env)).any (·.1) = false := by rfl) :
    PMk X (.Call (.Name cn p) [a] [] pos) (tMkR C ta) := by
  intro pins s σ H Q I h
  refine wpAny_Call_Name_kw (ld_glob I hg T.gC ?_ hdb)
  refine PySem.W.callWith_K (h₀ := X.base) I.ok.mod.kin T.kC (thn (ha.run pos pins s σ H _ I h) ?_) hst hpl
  rintro us s1 ⟨vs, H1, I1, r1, hz, q1⟩
  refine ⟨I1.kIn, ?_⟩
  obtain ⟨nm, q, N, bs, bm, hd, sn, sub, ab, col, dd, k0, k1, k2, k3, k5, hC, tail⟩ := T.cls
  have hl : us.length ≤ sizeLine := by
    rw [← r1.length]
    exact Nat.le_trans hz (by decide)
  have tyC : typeIn X.K (.ref C) = some (.type "type") := by
    show (X.K.lookup C).map (·.cls) = _
    rw [hC]
    rfl
  obtain ⟨hp, g, dr, tk, os⟩ := s1
  refine PySem.W.call_B F (fun Y => excTail_contains Y bm tail) (I1.kIn _ _ hC) (looks_findIn I1.kIn T.iC) hl fun h' k he ht => ?_
  obtain ⟨G', g1, g2⟩ := restrict h' fun b => decide (b ≠ hp.objs.size + 1)
  have off : ∀ b, b ≠ hp.objs.size + 1 → G'.get? b = h'.get? b := fun b hb => g1 b (decide_eq_true hb)
  have gone : G'.get? (hp.objs.size + 1) = none := g2 _ (by simp)
  have old : ∀ b o, hp.get? b = some o → G'.get? b = some o := fun b o q => (off b (Nat.ne_of_lt (Nat.lt_succ_of_lt (Heap.lt_size q)))).trans (k b o q)
  have J : Inv X pins σ H1 ⟨G', g, dr, tk, os⟩ := I1.kept (t' := tk) old
  refine ⟨hp.objs.size + 1, _, _, ⟨G', g, dr, tk, os⟩, H1, .ref C, none, rfl, J, ?_, gone, he, ⟨rfl, rfl⟩, rfl, rfl, I1.hok.fresh (Nat.le_succ _), rfl, I1.bare, raises_own XC.ex tyC, q1⟩
  intro b o q
  have q' : G'.get? b = some o := q
  by_cases hb : b = hp.objs.size + 1
  · rw [hb, gone] at q'
    cases q'
  · exact (off b hb).symm.trans q
end
/-! ### methods that may raise -/
/-- the class at C has a method m that keeps sp, and may raise -/
def CalMX (P : Program) (w : World) (K : PySem.W.Frag) (mg : Str → Option Value) (base : Heap) (C : Addr) (m : Str) (k : Nat) (ps : List Str) (sp : Sp) : Prop :=
  ∃ (f : Addr) (fd : FuncData), FnG P w K mg base (L2.CX P w) k f fd ps sp ∧ Meth K C m f ∧ Binds K fd ps []
theorem DefM.calX {P : Program} {w : World} {K : PySem.W.Frag} {mg : Str → Option Value} {base : Heap} {C : Addr} {m qual : Str} {st : Stmt} {k : Nat} {ps : List Str} {sp : Sp} (d : DefM K C m qual st ps)
    (h : ∀ f fd, Fun K m qual st f fd → FnG P w K mg base (L2.CX P w) k f fd ps sp) : CalMX P w K mg base C m k ps sp := by
  obtain ⟨f, fd, F, me, b, fi⟩ := d
  exact ⟨f, fd, h f fd F, me, b⟩
theorem CalMX.up {P : Program} {w : World} {K : PySem.W.Frag} {mg : Str → Option Value} {base : Heap} {C : Addr} {m : Str} {j k : Nat} {ps : List Str} {sp : Sp} (c : CalMX P w K mg base C m j ps sp) (h : j ≤ k) : CalMX P w K mg base C m k ps sp := by
  obtain ⟨f, fd, F, r⟩ := c
  exact ⟨f, fd, F.up h, r⟩
section
variable {X : Cx} {C : Addr} {m : Str} {k : Nat} {ps : List Str} {sp : Sp} {ta : TE} {t : TA} {o e : Expr} {es : List Expr} {pos apos : Pos} {E : L2.St → XK}
/-- o.m(..), which may raise -/
def tMethX (C : Addr) (m : Str) (sp : Sp) (E : L2.St → XK) (ta : TE) (t : TA) : TE := fun σ H Q => ta σ H fun x H1 => ∃ a dx fs, x = .ref a ∧ H1 a = some (.ins C dx fs) ∧ fs.lookup m = none ∧ t σ H1 fun vs H2 => sp (x :: vs) H2 Q (E σ)
theorem pe_methX {pl : Sem Bool} (he : PE X o ta) (cl : Cls X.K C) (c : CalMX X.prog X.w X.K X.mg X.base C m k ps sp) (g : Gd X.A) (room : Room k X.A) (hx : ∀ σ, PassesAt (L2.CX X.prog X.w) X σ (E σ)) (ha : PA X (e :: es) t)
    (hst : starEach (e :: es) X.env = (false, eval e X.env) :: starEach es X.env := by rfl) (hpl : (backTo pos (starEach es X.env)).any (·.1) = false := by rfl)
    (ht : eval (.Call (.Attribute o m apos) (e :: es) [] pos) X.env = (do
      let ov ← eval o X.env
      standAt apos.atName
      let (f, first) ← holding [ov] (getMethod ov m pl)
      callWith pos f first (backTo pos (starEach (e :: es) X.env)) (backToKw pos (keywordEach [] X.env))) := by rfl) :
    PE X (.Call (.Attribute o m apos) (e :: es) [] pos) (tMethX C m sp E ta t) := by
  obtain ⟨f, fd, F, hm, b⟩ := c
  refine ⟨fun pins s σ H Q I h => ?_⟩
  refine PySem.W.methodCall_KW (pl := pl) (thn (he.run pins s σ H _ I h) fun u s1 ⟨x, H1, I1, rx, a, dx, fs, ex, ea, l, q⟩ => ?_) ht
  subst ex
  obtain rfl : u = Value.ref a := rx
  refine getmeth_ok I1 ea cl hm l ?_
  refine PySem.W.callWith_K (first := [.ref a]) (h₀ := X.base) I.ok.mod.kin hm.kp (thn (ha.run pos pins s1 σ H1 _ I1 q) fun us s2 ⟨vs, H2, I2, r, q2⟩ => ⟨I2.kIn, ?_⟩) hst hpl
  have hl : (Value.ref a :: us).length = ps.length := by
    rw [← F.len _ _ _ _ q2, List.length_cons, List.length_cons, r.length]
  have b1 := b s2 (.ref a :: us) I2.kIn (by rw [List.append_nil]; exact hl)
  rw [List.append_nil] at b1
  exact runX (us := .ref a :: us) (vs := .ref a :: vs) (args := ⟨.ref a :: us, []⟩) F g room b1 (hx σ) I2 (.cons rfl r) q2
end
end Gx

set_option maxRecDepth 100000
set_option maxHeartbeats 4000000
namespace Kl
open PySem PySem.Spec PyProof.Rows L2 Gx
def topS (i : Nat) : Stmt := PySem.Challenge.pw_linkbooks_k07_errors_of_kinds.main.body.getD i (.Pass ⟨0, 0, 0, 0⟩)
abbrev s_wall : Stmt := topS 0
theorem sc_wall : FnScope ["k"] ["k"] (defScope s_wall) := ⟨rfl, rfl, rfl, by decide +kernel, rfl, by decide +kernel, by decide +kernel⟩
abbrev s_is_integer : Stmt := topS 10
theorem sc_is_integer : FnScope ["value"] ["value"] (defScope s_is_integer) := ⟨rfl, rfl, rfl, by decide +kernel, rfl, by decide +kernel, by decide +kernel⟩
abbrev s_is_count : Stmt := topS 11
theorem sc_is_count : FnScope ["value"] ["value"] (defScope s_is_count) := ⟨rfl, rfl, rfl, by decide +kernel, rfl, by decide +kernel, by decide +kernel⟩
abbrev s_is_name : Stmt := topS 12
theorem sc_is_name : FnScope ["value"] ["value"] (defScope s_is_name) := ⟨rfl, rfl, rfl, by decide +kernel, rfl, by decide +kernel, by decide +kernel⟩
abbrev s_is_sorted : Stmt := topS 13
theorem sc_is_sorted : FnScope ["value", "most", "name"] ["value", "most"] (defScope s_is_sorted) := ⟨rfl, rfl, rfl, by decide +kernel, rfl, by decide +kernel, by decide +kernel⟩
abbrev s_text_of : Stmt := topS 15
theorem sc_text_of : FnScope ["names"] ["names"] (defScope s_text_of) := ⟨rfl, rfl, rfl, by decide +kernel, rfl, by decide +kernel, by decide +kernel⟩
abbrev s_is_making : Stmt := topS 19
theorem sc_is_making : FnScope ["value"] ["value"] (defScope s_is_making) := ⟨rfl, rfl, rfl, by decide +kernel, rfl, by decide +kernel, by decide +kernel⟩
abbrev s_all_names : Stmt := topS 20
theorem sc_all_names : FnScope ["leaf", "makings"] ["leaf", "makings"] (defScope s_all_names) := ⟨rfl, rfl, rfl, by decide +kernel, rfl, by decide +kernel, by decide +kernel⟩
abbrev s_are_kinds : Stmt := topS 21
theorem sc_are_kinds : FnScope ["leaf", "makings", "names", "name", "part"] ["leaf", "makings"] (defScope s_are_kinds) := ⟨rfl, rfl, rfl, by decide +kernel, rfl, by decide +kernel, by decide +kernel⟩
abbrev s_is_renaming : Stmt := topS 22
theorem sc_is_renaming : FnScope ["names", "kinds", "name"] ["names", "kinds"] (defScope s_is_renaming) := ⟨rfl, rfl, rfl, by decide +kernel, rfl, by decide +kernel, by decide +kernel⟩
abbrev s_law_dice : Stmt := topS 25
theorem sc_law_dice : FnScope ["_law_script", "_law_spot", "_law_cell", "_law_left"] ["_law_script", "_law_spot"] (defScope s_law_dice) := ⟨rfl, rfl, rfl, by decide +kernel, rfl, by decide +kernel, by decide +kernel⟩
abbrev s_law_roll : Stmt := topS 26
theorem sc_law_roll : FnScope ["_law_dice_here", "_law_total", "_law_found", "_law_one", "_law_two"] ["_law_dice_here", "_law_total"] (defScope s_law_roll) := ⟨rfl, rfl, rfl, by decide +kernel, rfl, by decide +kernel, by decide +kernel⟩
abbrev s_law_pick : Stmt := topS 27
theorem sc_law_pick : FnScope ["_law_dice_here", "_law_items"] ["_law_dice_here", "_law_items"] (defScope s_law_pick) := ⟨rfl, rfl, rfl, by decide +kernel, rfl, by decide +kernel, by decide +kernel⟩
abbrev s_law_mixed : Stmt := topS 28
theorem sc_law_mixed : FnScope ["_law_dice_here", "_law_items", "_law_left", "_law_found", "_law_turn"] ["_law_dice_here", "_law_items"] (defScope s_law_mixed) := ⟨rfl, rfl, rfl, by decide +kernel, rfl, by decide +kernel, by decide +kernel⟩
abbrev s_law_kinds : Stmt := topS 29
theorem sc_law_kinds : FnScope ["_law_dice_here", "_law_most", "_law_pool", "_law_names", "_law_makings", "_law_name", "_law_parts", "_law_turn"] ["_law_dice_here", "_law_most"] (defScope s_law_kinds) := ⟨rfl, rfl, rfl, by decide +kernel, rfl, by decide +kernel, by decide +kernel⟩
abbrev s_law_images : Stmt := topS 30
theorem sc_law_images : FnScope ["_law_dice_here", "_law_names", "_law_pool", "_law_found", "_law_name", "_law_free", "_law_image"] ["_law_dice_here", "_law_names"] (defScope s_law_images) := ⟨rfl, rfl, rfl, by decide +kernel, rfl, by decide +kernel, by decide +kernel⟩
abbrev s_law_told : Stmt := topS 31
theorem sc_law_told : FnScope ["_law_call", "e"] ["_law_call"] (defScope s_law_told) := ⟨rfl, rfl, rfl, by decide +kernel, rfl, by decide +kernel, by decide +kernel⟩
abbrev s_law_asked_right : Stmt := topS 32
theorem sc_law_asked_right : FnScope ["_law_dice_here", "_law_kinds_here", "_law_odd", "_law_name", "_law_winner", "_law_told_here", "_law_is_part"] ["_law_dice_here", "_law_kinds_here", "_law_odd"] (defScope s_law_asked_right) := ⟨rfl, rfl, rfl, by decide +kernel, rfl, by decide +kernel, by decide +kernel⟩
abbrev s_law_renamed_right : Stmt := topS 33
theorem sc_law_renamed_right : FnScope ["_law_dice_here", "_law_kinds_here", "_law_odd", "_law_names", "_law_images_here", "_law_name", "_law_less", "_law_more", "_law_bad", "_law_twice", "_law_same", "_law_wrong", "_law_value", "_law_is_twice", "_law_told_here", "_law_one"] ["_law_dice_here", "_law_kinds_here", "_law_odd"] (defScope s_law_renamed_right) := ⟨rfl, rfl, rfl, by decide +kernel, rfl, by decide +kernel, by decide +kernel⟩
abbrev s_law : Stmt := topS 34
theorem sc_law : FnScope ["_law_script", "_law_spot", "_law_dice_here", "_law_leaf", "_law_makings", "_law_kinds_here", "_law_odd", "_law_lone", "_law_told_here"] ["_law_script"] (defScope s_law) := ⟨rfl, rfl, rfl, by decide +kernel, rfl, by decide +kernel, by decide +kernel⟩
abbrev s_UnknownName_init : Stmt := inClass (topS 5) 0
abbrev XT_UnknownName (K : PySem.W.Frag) (mg : Str → Option Value) (C fI : Addr) : Prop := XTxt K mg "UnknownName" "word" "LookupError.__new__" [.type "KeyError", .type "LookupError", .type "Exception", .type "BaseException", .type "object"] C fI
/-- the error UnknownName as the top has made it -/
def XDef_UnknownName (K : PySem.W.Frag) (mg : Str → Option Value) : Prop := ∃ (C fI : Addr) (fd : FuncData), XT_UnknownName K mg C fI ∧ Fun K "__init__" "UnknownName.__init__" s_UnknownName_init fI fd
theorem init_UnknownName {K : PySem.W.Frag} {mg : Str → Option Value} {C fI : Addr} {fd : FuncData} (T : XT_UnknownName K mg C fI) (F : Fun K "__init__" "UnknownName.__init__" s_UnknownName_init fI fd) : InitDoes K C fI "word" := by
  intro prog w A R s x t0 v inK lim hx fresh room hq
  obtain ⟨oc, od, kV, doc, pm, an, cdv, ct, osl, rfl, lk, hcd⟩ := F.ex
  refine Att.call_fn (binds := [("self", .ref x), ("word", v)]) inK lim lk hcd room (BindsTo.of_eq (by first | rfl | with_unfolding_all rfl)) (by first | rfl | decide) (fun s₁ IC => ?_) rfl rfl rfl
  obtain ⟨h₁, tk₁, rfl⟩ := IC.toInCall.same
  have k := IC.toInCall.keep
  have hn := IC.toInCall.ns
  have inK₁ : K.In h₁ := inK.keeps k
  have hx₁ := k _ _ hx
  show wpAny _ _ (execs _ _) _ _ _
  refine wpAny_execs_cons (plainObj_wpAny_Assign_Attribute ?_)
  refine wpAny_Name (wpAny_loadName_local (v := v) (by rfl) (by rfl) hn (by first | rfl | with_unfolding_all rfl | kernel_rfl) ?_) (by decide)
  refine wpAny_Name (wpAny_loadName_local (v := .ref x) (by rfl) (by rfl) hn (by first | rfl | with_unfolding_all rfl | kernel_rfl) ?_) (by decide)
  refine PySem.W.set_plain inK₁ (ox := PySem.W.excObj C t0 none .none) (od := none) ⟨hx₁, rfl, rfl, trivial⟩ T.sa ?_
  refine exc_storeX Gx.store_KeyErr inK₁ hx₁ T.over T.tak T.hdC (fun h₃ tk₃ dx k₃ dn dne hx₃ hn₃ => ?_)
  show wpAny _ _ (execs _ _) _ _ _
  exact wpAny_execs_nil (hq h₃ tk₃ dx ⟨fun b o hb e => k₃ b o hb (k b o e), hx₃, Nat.le_of_lt (Nat.lt_of_lt_of_le hn.lt dn), dne, hn₃⟩)
abbrev s_InvalidNumber_init : Stmt := inClass (topS 6) 0
abbrev XT_InvalidNumber (K : PySem.W.Frag) (mg : Str → Option Value) (C fI : Addr) : Prop := XTxt K mg "InvalidNumber" "value" "IndexError.__new__" [.type "IndexError", .type "LookupError", .type "Exception", .type "BaseException", .type "object"] C fI
/-- the error InvalidNumber as the top has made it -/
def XDef_InvalidNumber (K : PySem.W.Frag) (mg : Str → Option Value) : Prop := ∃ (C fI : Addr) (fd : FuncData), XT_InvalidNumber K mg C fI ∧ Fun K "__init__" "InvalidNumber.__init__" s_InvalidNumber_init fI fd
theorem init_InvalidNumber {K : PySem.W.Frag} {mg : Str → Option Value} {C fI : Addr} {fd : FuncData} (T : XT_InvalidNumber K mg C fI) (F : Fun K "__init__" "InvalidNumber.__init__" s_InvalidNumber_init fI fd) : InitDoes K C fI "value" := by
  intro prog w A R s x t0 v inK lim hx fresh room hq
  obtain ⟨oc, od, kV, doc, pm, an, cdv, ct, osl, rfl, lk, hcd⟩ := F.ex
  refine Att.call_fn (binds := [("self", .ref x), ("value", v)]) inK lim lk hcd room (BindsTo.of_eq (by first | rfl | with_unfolding_all rfl)) (by first | rfl | decide) (fun s₁ IC => ?_) rfl rfl rfl
  obtain ⟨h₁, tk₁, rfl⟩ := IC.toInCall.same
  have k := IC.toInCall.keep
  have hn := IC.toInCall.ns
  have inK₁ : K.In h₁ := inK.keeps k
  have hx₁ := k _ _ hx
  show wpAny _ _ (execs _ _) _ _ _
  refine wpAny_execs_cons (plainObj_wpAny_Assign_Attribute ?_)
  refine wpAny_Name (wpAny_loadName_local (v := v) (by rfl) (by rfl) hn (by first | rfl | with_unfolding_all rfl | kernel_rfl) ?_) (by decide)
  refine wpAny_Name (wpAny_loadName_local (v := .ref x) (by rfl) (by rfl) hn (by first | rfl | with_unfolding_all rfl | kernel_rfl) ?_) (by decide)
  refine PySem.W.set_plain inK₁ (ox := PySem.W.excObj C t0 none .none) (od := none) ⟨hx₁, rfl, rfl, trivial⟩ T.sa ?_
  refine exc_storeX PySem.F.store_IndexError inK₁ hx₁ T.over T.tak T.hdC (fun h₃ tk₃ dx k₃ dn dne hx₃ hn₃ => ?_)
  show wpAny _ _ (execs _ _) _ _ _
  exact wpAny_execs_nil (hq h₃ tk₃ dx ⟨fun b o hb e => k₃ b o hb (k b o e), hx₃, Nat.le_of_lt (Nat.lt_of_lt_of_le hn.lt dn), dne, hn₃⟩)
abbrev s_Kinds_init : Stmt := inClass (topS 23) 0
theorem sc_Kinds_init : FnScope ["self", "leaf", "makings", "name"] ["self", "leaf", "makings"] (defScope s_Kinds_init) := ⟨rfl, rfl, rfl, by decide +kernel, rfl, by decide +kernel, by decide +kernel⟩
abbrev s_Kinds_leaf : Stmt := inClass (topS 23) 2
theorem sc_Kinds_leaf : FnScope ["self"] ["self"] (defScope s_Kinds_leaf) := ⟨rfl, rfl, rfl, by decide +kernel, rfl, by decide +kernel, by decide +kernel⟩
abbrev s_Kinds_makings : Stmt := inClass (topS 23) 3
theorem sc_Kinds_makings : FnScope ["self"] ["self"] (defScope s_Kinds_makings) := ⟨rfl, rfl, rfl, by decide +kernel, rfl, by decide +kernel, by decide +kernel⟩
abbrev s_Kinds_names : Stmt := inClass (topS 23) 4
theorem sc_Kinds_names : FnScope ["self"] ["self"] (defScope s_Kinds_names) := ⟨rfl, rfl, rfl, by decide +kernel, rfl, by decide +kernel, by decide +kernel⟩
abbrev s_Kinds_lines : Stmt := inClass (topS 23) 5
theorem sc_Kinds_lines : FnScope ["self", "made", "name"] ["self"] (defScope s_Kinds_lines) := ⟨rfl, rfl, rfl, by decide +kernel, rfl, by decide +kernel, by decide +kernel⟩
abbrev s_Kinds_users : Stmt := inClass (topS 23) 6
theorem sc_Kinds_users : FnScope ["self", "name", "user"] ["self", "name"] (defScope s_Kinds_users) := ⟨rfl, rfl, rfl, by decide +kernel, rfl, by decide +kernel, by decide +kernel⟩
abbrev s_Kinds_losers : Stmt := inClass (topS 23) 7
theorem sc_Kinds_losers : FnScope ["self", "name", "winner", "making", "at"] ["self", "name", "winner"] (defScope s_Kinds_losers) := ⟨rfl, rfl, rfl, by decide +kernel, rfl, by decide +kernel, by decide +kernel⟩
abbrev s_Kinds_renamed : Stmt := inClass (topS 23) 8
theorem sc_Kinds_renamed : FnScope ["self", "names", "makings", "name", "part"] ["self", "names"] (defScope s_Kinds_renamed) := ⟨rfl, rfl, rfl, by decide +kernel, rfl, by decide +kernel, by decide +kernel⟩
abbrev s_Kinds_contains : Stmt := inClass (topS 23) 9
theorem sc_Kinds_contains : FnScope ["self", "value"] ["self", "value"] (defScope s_Kinds_contains) := ⟨rfl, rfl, rfl, by decide +kernel, rfl, by decide +kernel, by decide +kernel⟩
abbrev s_Kinds_getitem : Stmt := inClass (topS 23) 10
theorem sc_Kinds_getitem : FnScope ["self", "name"] ["self", "name"] (defScope s_Kinds_getitem) := ⟨rfl, rfl, rfl, by decide +kernel, rfl, by decide +kernel, by decide +kernel⟩
abbrev s_Kinds_len : Stmt := inClass (topS 23) 12
theorem sc_Kinds_len : FnScope ["self"] ["self"] (defScope s_Kinds_len) := ⟨rfl, rfl, rfl, by decide +kernel, rfl, by decide +kernel, by decide +kernel⟩
abbrev s_Kinds_eq : Stmt := inClass (topS 23) 13
theorem sc_Kinds_eq : FnScope ["self", "other"] ["self", "other"] (defScope s_Kinds_eq) := ⟨rfl, rfl, rfl, by decide +kernel, rfl, by decide +kernel, by decide +kernel⟩
abbrev s_Kinds_str : Stmt := inClass (topS 23) 14
theorem sc_Kinds_str : FnScope ["self"] ["self"] (defScope s_Kinds_str) := ⟨rfl, rfl, rfl, by decide +kernel, rfl, by decide +kernel, by decide +kernel⟩
/-- the class Kinds as the top has made it -/
structure Cl_Kinds (K : PySem.W.Frag) (mg : Str → Option Value) (C : Addr) : Prop where
  gC : mg "Kinds" = some (.ref C)
  cl : Cls K C
  n_leaf : NoAttr K C "_leaf"
  n_makings : NoAttr K C "_makings"
  n_names : NoAttr K C "_names"
  made : ∃ f fd, Mk K C f ∧ Fun K "__init__" "Kinds.__init__" s_Kinds_init f fd ∧ Binds K fd ["self", "leaf", "makings"] []
  p_leaf : PropD K C "leaf" "Kinds.leaf" s_Kinds_leaf
  p_makings : PropD K C "makings" "Kinds.makings" s_Kinds_makings
  p_names : PropD K C "names" "Kinds.names" s_Kinds_names
  p_lines : PropD K C "lines" "Kinds.lines" s_Kinds_lines
  m_users : DefM K C "users" "Kinds.users" s_Kinds_users ["self", "name"]
  m_losers : DefM K C "losers" "Kinds.losers" s_Kinds_losers ["self", "name", "winner"]
  m_renamed : DefM K C "renamed" "Kinds.renamed" s_Kinds_renamed ["self", "names"]
  m_contains : DefM K C "__contains__" "Kinds.__contains__" s_Kinds_contains ["self", "value"]
  m_getitem : DefM K C "__getitem__" "Kinds.__getitem__" s_Kinds_getitem ["self", "name"]
  m_len : DefM K C "__len__" "Kinds.__len__" s_Kinds_len ["self"]
  m_eq : DefM K C "__eq__" "Kinds.__eq__" s_Kinds_eq ["self", "other"]
  m_str : DefM K C "__str__" "Kinds.__str__" s_Kinds_str ["self"]
  ne : PySem.W.findIn K (.ref C) "__ne__" = some (some (.builtin "object.__ne__"))
  ob : PySem.W.mroIn K C (.type "object") = some true
  kit : PySem.W.kitOne K (.ref C) (.ref C) = some true
  kitT : PySem.W.kitOne K (.type "tuple") (.ref C) = some false
  kitD : PySem.W.kitOne K (.type "dict") (.ref C) = some false
  ca : PySem.W.findIn K (.ref C) "__class__" = some (some (.builtin "object.__class__"))
  cg : PySem.W.specialIn K (.builtin "object.__class__") "__get__" = some (some (.builtin "getset_descriptor.__get__"))
  ct : PySem.W.takesIn K (.builtin "object.__class__") = some true
/-- what the walk asks of the top -/
structure Top (K : PySem.W.Frag) (mg : Str → Option Value) : Prop where
  b_IndexError : mg "IndexError" = none
  b_KeyError : mg "KeyError" = none
  b_TypeError : mg "TypeError" = none
  b_ValueError : mg "ValueError" = none
  b_abs : mg "abs" = none
  b_all : mg "all" = none
  b_bool : mg "bool" = none
  b_classmethod : mg "classmethod" = none
  b_dict : mg "dict" = none
  b_int : mg "int" = none
  b_isinstance : mg "isinstance" = none
  b_len : mg "len" = none
  b_list : mg "list" = none
  b_max : mg "max" = none
  b_min : mg "min" = none
  b_property : mg "property" = none
  b_range : mg "range" = none
  b_repr : mg "repr" = none
  b_set : mg "set" = none
  b_sorted : mg "sorted" = none
  b_str : mg "str" = none
  b_tuple : mg "tuple" = none
  g_MAX_LETTERS : ∃ t, mg "MAX_LETTERS" = some (.int 8 t)
  g__TOO_LONG : ∃ t, mg "_TOO_LONG" = some (.int 1000000000000000000000000000000000000000000000000000000000000 t)
  g_MAX_KINDS : ∃ t, mg "MAX_KINDS" = some (.int 6 t)
  g_MAX_PARTS : ∃ t, mg "MAX_PARTS" = some (.int 3 t)
  d_wall : Def K mg "_wall" "_wall" s_wall ["k"]
  d_is_integer : Def K mg "is_integer" "is_integer" s_is_integer ["value"]
  d_is_count : Def K mg "is_count" "is_count" s_is_count ["value"]
  d_is_name : Def K mg "is_name" "is_name" s_is_name ["value"]
  d_is_sorted : DefK K mg "is_sorted" "is_sorted" s_is_sorted ["value", "most"] 1 ["most"]
  d_text_of : Def K mg "text_of" "text_of" s_text_of ["names"]
  d_is_making : Def K mg "_is_making" "_is_making" s_is_making ["value"]
  d_all_names : Def K mg "_all_names" "_all_names" s_all_names ["leaf", "makings"]
  d_are_kinds : Def K mg "_are_kinds" "_are_kinds" s_are_kinds ["leaf", "makings"]
  d_is_renaming : Def K mg "is_renaming" "is_renaming" s_is_renaming ["names", "kinds"]
  d_law_dice : Def K mg "_law_dice" "_law_dice" s_law_dice ["_law_script", "_law_spot"]
  d_law_roll : Def K mg "_law_roll" "_law_roll" s_law_roll ["_law_dice_here", "_law_total"]
  d_law_pick : Def K mg "_law_pick" "_law_pick" s_law_pick ["_law_dice_here", "_law_items"]
  d_law_mixed : Def K mg "_law_mixed" "_law_mixed" s_law_mixed ["_law_dice_here", "_law_items"]
  d_law_kinds : Def K mg "_law_kinds" "_law_kinds" s_law_kinds ["_law_dice_here", "_law_most"]
  d_law_images : Def K mg "_law_images" "_law_images" s_law_images ["_law_dice_here", "_law_names"]
  d_law_told : Def K mg "_law_told" "_law_told" s_law_told ["_law_call"]
  d_law_asked_right : Def K mg "_law_asked_right" "_law_asked_right" s_law_asked_right ["_law_dice_here", "_law_kinds_here", "_law_odd"]
  d_law_renamed_right : Def K mg "_law_renamed_right" "_law_renamed_right" s_law_renamed_right ["_law_dice_here", "_law_kinds_here", "_law_odd"]
  c_Kinds : ∃ C, Cl_Kinds K mg C
  p_InvalidOperation : ∃ C, XPln K mg "InvalidOperation" "ValueError.__new__" "ValueError.__init__" [.type "ValueError", .type "Exception", .type "BaseException", .type "object"] C ∧ XCls K C ∧ PySem.W.exmOne K (.ref C) (.ref C) = some true
  x_UnknownName : XDef_UnknownName K mg
  x_InvalidNumber : XDef_InvalidNumber K mg
end Kl

set_option maxRecDepth 100000
set_option maxHeartbeats 4000000
namespace Kl
open PySem PySem.Spec PyProof.Rows L2 Gx Mx
section
variable {P : Program} {w : World} {K : PySem.W.Frag} {mg : Str → Option Value} {base : Heap}
/-! ### kinds of values -/
theorem tyx_same {H H' : Hp} (sm : Same H H') {v : V} {t : Value} (h : TyX K H v t) : TyX K H' v t := by
  cases h with
  | base b =>
    cases b with
    | non => exact .base .non
    | bl x => exact .base (.bl x)
    | int i => exact .base (.int i)
    | str x => exact .base (.str x)
    | flt x => exact .base (.flt x)
    | lst e => exact .base (.lst (sm _ _ e))
    | frz e => exact .base (.frz (sm _ _ e))
    | tup e => exact .base (.tup (sm _ _ e))
    | dK e => exact .base (.dK (sm _ _ e))
    | dT e => exact .base (.dT (sm _ _ e))
    | ins e cl ha hn htk hm => exact .base (.ins (sm _ _ e) cl ha hn htk hm)
  | byt b => exact .byt b
  | set e => exact .set (sm _ _ e)
  | kList e c => exact .kList e c
  | kTuple e c => exact .kTuple e c
  | kDict e c => exact .kDict e c
  | fTuple e => exact .fTuple (sm _ _ e)
  | fDict e => exact .fDict (sm _ _ e)
/-- the value is no instance of this built-in class -/
def Not (K : PySem.W.Frag) (H : Hp) (v : V) (T : String) : Prop := ∃ t, TyX K H v t ∧ PySem.W.kitOne K t (.type T) = some false
theorem Not.same {H H' : Hp} (sm : Same H H') {v : V} {T : String} (h : Not K H v T) : Not K H' v T := by
  obtain ⟨t, a, b⟩ := h
  exact ⟨t, tyx_same sm a, b⟩
/-- text, or not -/
def NameArg (K : PySem.W.Frag) (H : Hp) (v : V) : Prop := (∃ z : Str, v = .str z ∧ z.length ≤ sizeLine) ∨ ((∀ z, v ≠ .str z) ∧ Not K H v "str")
theorem NameArg.same {H H' : Hp} (sm : Same H H') {v : V} (h : NameArg K H v) : NameArg K H' v := by
  rcases h with h | ⟨a, b⟩
  · exact .inl h
  · exact .inr ⟨a, b.same sm⟩
/-- int, truth, or neither -/
def IntArg (K : PySem.W.Frag) (H : Hp) (v : V) : Prop := (∃ i, v = .int i) ∨ (∃ b, v = .bl b) ∨ ((∀ i, v ≠ .int i) ∧ Not K H v "int")
theorem IntArg.same {H H' : Hp} (sm : Same H H') {v : V} (h : IntArg K H v) : IntArg K H' v := by
  rcases h with h | h | ⟨a, b⟩
  · exact .inl h
  · exact .inr (.inl h)
  · exact .inr (.inr ⟨a, b.same sm⟩)
/-! ### is_integer, is_count -/
def TEN60 : Int := 1000000000000000000000000000000000000000000000000000000000000
def intV : V → Bool
  | .int i => decide (-TEN60 < i) && decide (i < TEN60)
  | _ => false
def cntV : V → Bool
  | .int i => (decide (-TEN60 < i) && decide (i < TEN60)) && decide (0 ≤ i)
  | _ => false
def spInt (K : PySem.W.Frag) : Sp := fun vs H Q _ => ∃ v : V, vs = [v] ∧ IntArg K H v ∧ Q (.bl (intV v)) H
theorem ok_int {f : Addr} {fd : FuncData} (F : Fun K "is_integer" "is_integer" s_is_integer f fd) (T : Top K mg) : FnOk P w K mg base CX0 1 f fd ["value"] (spInt K) := by
  obtain ⟨tm, gm⟩ := T.g__TOO_LONG
  refine F.ok sc_is_integer (fun vs H Q E h => ?_) (fun cdv A outer s H vs Q E hr h => ?_)
  · obtain ⟨v, rfl, _⟩ := h
    rfl
  · obtain ⟨v, rfl, hv, q⟩ := h
    refine ⟨_, pss_cons (ps_if (PW.pt (pw_or (pt_not (pt_val (pe_callB call_isi (by rfl) T.b_isinstance (by decide +kernel) (pa_cons (pv 0) (pa_cons (pe_bltn (v := .ty "int") (by rfl) T.b_int (by decide +kernel) rfl) pa_nil)))))
          (pw_or1 (pt_val (pe_callB call_isi (by rfl) T.b_isinstance (by decide +kernel) (pa_cons (pv 0) (pa_cons (pe_bltn (v := .ty "bool") (by rfl) T.b_bool (by decide +kernel) rfl) pa_nil)))))))
        (pss_one (ps_ret pe_bl)) pss_nil)
      (pss_one (ps_ret (pe_chain op_lt op_lt (pe_un un_neg (pe_glob (v := .int TEN60) (by rfl) gm ⟨_, rfl⟩)) (pv 0) (pe_glob (v := .int TEN60) (by rfl) gm ⟨_, rfl⟩)))), ?_⟩
    rcases hv with ⟨i, rfl⟩ | ⟨b, rfl⟩ | ⟨hn, t, ht, hk⟩
    · refine ⟨_, rfl, _, .ty "int", .type "int", .type "int", true, rfl, .ty _, .base (.int i), kit_ty (by decide +kernel), true, rfl, ?_⟩
      refine ⟨_, rfl, _, .ty "bool", .type "int", .type "bool", false, rfl, .ty _, .base (.int i), kit_ty (by decide +kernel), false, rfl, ?_⟩
      refine ⟨_, rfl, _, rfl, _, _, rfl, rfl, _, rfl, ?_⟩
      have q' : Q (.bl (decide (-TEN60 < i) && decide (i < TEN60))) H := q
      cases e : decide (-TEN60 < i) with
      | false =>
        rw [e] at q'
        exact q'
      | true =>
        rw [e] at q'
        exact ⟨_, _, rfl, rfl, q'⟩
    · refine ⟨_, rfl, _, .ty "int", .type "bool", .type "int", true, rfl, .ty _, .base (.bl b), kit_ty (by decide +kernel), true, rfl, ?_⟩
      exact ⟨_, rfl, _, .ty "bool", .type "bool", .type "bool", true, rfl, .ty _, .base (.bl b), kit_ty (by decide +kernel), true, rfl, q⟩
    · refine ⟨_, rfl, _, .ty "int", t, .type "int", false, rfl, .ty _, ht, hk, false, rfl, ?_⟩
      have e : intV v = false := by
        cases v with
        | int i => exact absurd rfl (hn i)
        | _ => rfl
      rw [e] at q
      exact q
def spCnt (K : PySem.W.Frag) : Sp := fun vs H Q _ => ∃ v : V, vs = [v] ∧ IntArg K H v ∧ Q (.bl (cntV v)) H
theorem ok_cnt {f : Addr} {fd : FuncData} (F : Fun K "is_count" "is_count" s_is_count f fd) (T : Top K mg) : FnOk P w K mg base CX0 2 f fd ["value"] (spCnt K) := by
  have ci : Cal P w K mg base 1 "is_integer" ["value"] (spInt K) := T.d_is_integer.cal fun f fd F => ok_int F T
  refine F.ok sc_is_count (fun vs H Q E h => ?_) (fun cdv A outer s H vs Q E hr h => ?_)
  · obtain ⟨v, rfl, _⟩ := h
    rfl
  · obtain ⟨v, rfl, hv, q⟩ := h
    refine ⟨_, pss_one (ps_ret (pe_and (pe_cal ci hr (by rfl) (pa_cons (pv 0) pa_nil)) (pe_one (pe_cmpR op_ge (pv 0) pe_int (nomark _))))), ?_⟩
    refine ⟨_, rfl, v, rfl, hv, _, rfl, ?_⟩
    cases v with
    | int i =>
      have q' : Q (.bl (intV (.int i) && decide (0 ≤ i))) H := q
      cases e : intV (.int i) with
      | false =>
        rw [e] at q'
        exact q'
      | true =>
        rw [e] at q'
        exact ⟨_, rfl, _, _, rfl, rfl, q'⟩
    | _ => exact q
/-! ### is_name -/
def nameV : V → Bool
  | .str z => nameB z
  | _ => false
def spName (K : PySem.W.Frag) : Sp := fun vs H Q _ => ∃ v : V, vs = [v] ∧ NameArg K H v ∧ Q (.bl (nameV v)) H
theorem nameV_no {v : V} (h : ∀ z, v ≠ .str z) : nameV v = false := by
  cases v with
  | str z => exact absurd rfl (h z)
  | _ => rfl
theorem ok_name {f : Addr} {fd : FuncData} (F : Fun K "is_name" "is_name" s_is_name f fd) (T : Top K mg) : FnOk P w K mg base CX0 1 f fd ["value"] (spName K) := by
  obtain ⟨tm, gm⟩ := T.g_MAX_LETTERS
  refine F.ok sc_is_name (fun vs H Q E h => ?_) (fun cdv A outer s H vs Q E hr h => ?_)
  · obtain ⟨v, rfl, _⟩ := h
    rfl
  · obtain ⟨v, rfl, hv, q⟩ := h
    refine ⟨_, pss_cons (ps_if (PW.pt (pw_or (pt_not (pt_val (pe_callB call_isi (by rfl) T.b_isinstance (by decide +kernel) (pa_cons (pv 0) (pa_cons (pe_bltn (v := .ty "str") (by rfl) T.b_str (by decide +kernel) rfl) pa_nil)))))
          (pw_or1 (pt_not (pt_chain op_le op_le pe_int (pe_callB call_len_str (by rfl) T.b_len PySem.boot_len (pa_cons (pv 0) pa_nil)) (pe_glob (v := .int 8) (by rfl) gm ⟨_, rfl⟩))))))
        (pss_one (ps_ret pe_bl)) pss_nil)
      (pss_one (ps_ret (pe_and (pe_m0 PySem.F.slot_str_isascii PySem.F.type_str_isascii mt_isascii (pv 0))
        (pe_and (pe_m0 PySem.F.slot_str_isalpha PySem.F.type_str_isalpha mt_isalpha (pv 0)) (pe_one (pe_m0 PySem.F.slot_str_islower PySem.F.type_str_islower mt_islower (pv 0))))))), ?_⟩
    rcases hv with ⟨z, rfl, hz⟩ | ⟨hn, t, ht, hk⟩
    · have q' : Q (.bl (nameB z)) H := q
      refine ⟨_, rfl, _, .ty "str", .type "str", .type "str", true, rfl, .ty _, .base (.str z), kit_ty (by decide +kernel), true, rfl, ?_⟩
      refine ⟨_, rfl, _, rfl, hz, _, _, rfl, rfl, _, rfl, ite2 (fun e1 => ?_) (fun e1 => ?_)⟩
      · have h1 : 1 ≤ z.cps.size := by
          have e2 : (1 : Int) ≤ (z.length : Int) := of_decide_eq_true e1
          have e3 : z.length = z.cps.size := rfl
          omega
        refine ⟨_, _, rfl, rfl, _, rfl, ?_⟩
        have e3 : decide ((z.length : Int) ≤ 8) = decide (z.cps.size ≤ 8) := decide_eq_decide.mpr (by
          have e3 : z.length = z.cps.size := rfl
          omega)
        by_cases h8 : z.cps.size ≤ 8
        · have e4 : decide ((z.length : Int) ≤ 8) = true := e3.trans (decide_eq_true h8)
          rw [e4]
          have e5 : nameB z = (Txt.isascii z && (Txt.isalpha z && Txt.islower z)) := by
            rw [name_by z h1]
            unfold nameB
            rw [decide_eq_true h1, decide_eq_true h8, Bool.true_and, Bool.true_and]
          rw [e5] at q'
          refine ⟨_, rfl, ⟨_, rfl⟩, z, rfl, rfl, trivial, _, rfl, ?_⟩
          cases a1 : Txt.isascii z with
          | false =>
            rw [a1] at q'
            exact q'
          | true =>
            rw [a1] at q'
            refine ⟨_, rfl, ⟨_, rfl⟩, z, rfl, rfl, trivial, _, rfl, ?_⟩
            cases a2 : Txt.isalpha z with
            | false =>
              rw [a2] at q'
              exact q'
            | true =>
              rw [a2] at q'
              exact ⟨_, rfl, ⟨_, rfl⟩, z, rfl, rfl, trivial, q'⟩
        · have e4 : decide ((z.length : Int) ≤ 8) = false := e3.trans (decide_eq_false h8)
          rw [e4]
          show Q (.bl false) H
          have e5 : nameB z = false := by
            unfold nameB
            rw [decide_eq_false h8, Bool.and_false, Bool.false_and]
          rw [← e5]
          exact q'
      · have h1 : ¬ 1 ≤ z.cps.size := fun h => e1 (decide_eq_true (by
          have e3 : z.length = z.cps.size := rfl
          omega))
        refine ⟨_, rfl, ?_⟩
        show Q (.bl false) H
        have e5 : nameB z = false := by
          unfold nameB
          rw [decide_eq_false h1, Bool.false_and, Bool.false_and]
        rw [← e5]
        exact q'
    · refine ⟨_, rfl, _, .ty "str", t, .type "str", false, rfl, .ty _, ht, hk, false, rfl, ?_⟩
      rw [nameV_no hn] at q
      exact q
end
end Kl

set_option maxRecDepth 100000
set_option maxHeartbeats 4000000
namespace Kl
open PySem PySem.Spec PyProof.Rows L2 Gx Mx
/-! ### kinds and their makings: the mathematics -/
abbrev Mak := List (Str × List Str)
/-- the names that are drawn -/
def POOL : List Str := ["a", "b", "ab", "c", "leaf", "kind", "z", "zzzzzzzz", "new", "m", "later"]
/-- .. by the law for its kinds -/
def LPOOL : List Str := ["a", "b", "ab", "c", "leaf", "kind", "z", "zzzzzzzz"]
theorem lpool_nd : LPOOL.Nodup := by decide +kernel
theorem lpool_in {z : Str} (h : z ∈ LPOOL) : z ∈ POOL := by
  have e : LPOOL.all (fun z => decide (z ∈ POOL)) = true := by decide +kernel
  exact of_decide_eq_true (List.all_eq_true.mp e z h)
theorem pool_names : POOL.all nameB = true := by decide +kernel
theorem pool_short : POOL.all (fun z => decide (z.length ≤ 8)) = true := by decide +kernel
theorem pool_nd : POOL.Nodup := by decide +kernel
theorem pool_name {z : Str} (h : z ∈ POOL) : nameB z = true := List.all_eq_true.mp pool_names z h
theorem pool_len {z : Str} (h : z ∈ POOL) : z.length ≤ 8 := of_decide_eq_true (List.all_eq_true.mp pool_short z h)
def keysOf (M : Mak) : List Str := M.map (·.1)
/-- these are kinds of drawn names -/
structure Vld (leaf : Str) (M : Mak) : Prop where
  lf : leaf ∈ POOL
  keys : ∀ z ∈ keysOf M, z ∈ POOL
  nd : (keysOf M).Nodup
  parts : ∀ m ∈ M, sortedS m.2 = true ∧ 2 ≤ m.2.length ∧ m.2.length ≤ 3 ∧ ∀ p ∈ m.2, p = leaf ∨ p ∈ keysOf M
  few : ∀ ns : List Str, ns.Nodup → (∀ z ∈ ns, z = leaf ∨ z ∈ keysOf M) → ns.length ≤ 6
theorem Vld.part {leaf : Str} {M : Mak} (v : Vld leaf M) {m : Str × List Str} (hm : m ∈ M) {p : Str} (hp : p ∈ m.2) : p ∈ POOL := by
  rcases (v.parts m hm).2.2.2 p hp with rfl | h
  · exact v.lf
  · exact v.keys p h
theorem Vld.len {leaf : Str} {M : Mak} (v : Vld leaf M) : M.length ≤ 6 := by
  have h := v.few (keysOf M) v.nd fun z hz => .inr hz
  unfold keysOf at h
  rw [List.length_map] at h
  exact h
/-- the ascending names of kinds -/
structure IsNames (leaf : Str) (ks ns : List Str) : Prop where
  srt : sortedS ns = true
  nd : ns.Nodup
  mem : ∀ z, z ∈ ns ↔ z = leaf ∨ z ∈ ks
theorem sorted_same {l m : List Str} (hl : sortedS l = true) (hm : sortedS m = true) (dl : l.Nodup) (dm : m.Nodup) (e : ∀ z, z ∈ l ↔ z ∈ m) : l = m :=
  sortedS_unique ((List.perm_ext_iff_of_nodup dl dm).mpr e) hl hm
theorem IsNames.unique {leaf : Str} {ks ks' ns ms : List Str} (h : IsNames leaf ks ns) (h' : IsNames leaf ks' ms) (e : ∀ z, z ∈ ks ↔ z ∈ ks') : ns = ms :=
  sorted_same h.srt h'.srt h.nd h'.nd fun z => by rw [h.mem, h'.mem, e]
theorem sortedS_sub {l m : List Str} (h : sortedS m = true) (s : l.Sublist m) : sortedS l = true := (sortedS_iff l).mpr (((sortedS_iff m).mp h).sublist s)
/-! ### makings looked up -/
def lookM (M : Mak) (z : Str) : Option (List Str) := (M.find? fun m => decide (m.1 = z)).map (·.2)
theorem lookM_cons (m : Str × List Str) (M : Mak) (z : Str) : lookM (m :: M) z = if m.1 = z then some m.2 else lookM M z := by
  unfold lookM
  rw [List.find?_cons]
  by_cases h : m.1 = z
  · rw [if_pos h, decide_eq_true h]
    rfl
  · rw [if_neg h, decide_eq_false h]
theorem lookM_mem {M : Mak} (nd : (keysOf M).Nodup) {m : Str × List Str} (h : m ∈ M) : lookM M m.1 = some m.2 := by
  induction M with
  | nil => cases h
  | cons x M ih =>
    have nd' : (x.1 :: keysOf M).Nodup := nd
    rw [List.nodup_cons] at nd'
    rw [lookM_cons]
    rcases List.mem_cons.mp h with rfl | h
    · rw [if_pos rfl]
    · rw [if_neg fun e => nd'.1 (by rw [e]; exact List.mem_map.mpr ⟨m, h, rfl⟩)]
      exact ih nd'.2 h
theorem lookM_some {M : Mak} {z : Str} {ps : List Str} (h : lookM M z = some ps) : (z, ps) ∈ M := by
  induction M with
  | nil => cases h
  | cons x M ih =>
    rw [lookM_cons] at h
    by_cases e : x.1 = z
    · rw [if_pos e] at h
      cases h
      rw [← e]
      exact List.mem_cons_self
    · rw [if_neg e] at h
      exact List.mem_cons_of_mem _ (ih h)
theorem lookM_none {M : Mak} {z : Str} : lookM M z = none ↔ z ∉ keysOf M := by
  induction M with
  | nil => exact ⟨(fun _ h => nomatch h), fun _ => rfl⟩
  | cons x M ih =>
    rw [lookM_cons]
    show _ ↔ z ∉ x.1 :: keysOf M
    rw [List.mem_cons, not_or]
    by_cases e : x.1 = z
    · rw [if_pos e]
      exact ⟨(fun h => nomatch h), fun h => absurd e.symm h.1⟩
    · rw [if_neg e, ih]
      exact ⟨fun h => ⟨fun q => e q.symm, h⟩, fun h => h.2⟩
theorem lookM_in {M : Mak} {z : Str} (h : z ∈ keysOf M) : ∃ ps, lookM M z = some ps := by
  cases e : lookM M z with
  | none => exact absurd h (lookM_none.mp e)
  | some ps => exact ⟨ps, rfl⟩
/-- M' is M, ascending by its keys -/
structure OrdOf (M M' : Mak) : Prop where
  srt : sortedS (keysOf M') = true
  nd : (keysOf M').Nodup
  look : ∀ z, lookM M' z = lookM M z
theorem OrdOf.keys {M M' : Mak} (h : OrdOf M M') (z : Str) : z ∈ keysOf M' ↔ z ∈ keysOf M := by
  have e := h.look z
  constructor
  · intro q
    obtain ⟨ps, hp⟩ := lookM_in q
    rw [hp] at e
    cases c : decide (z ∈ keysOf M) with
    | true => exact of_decide_eq_true c
    | false =>
      rw [lookM_none.mpr (of_decide_eq_false c)] at e
      cases e
  · intro q
    obtain ⟨ps, hp⟩ := lookM_in q
    rw [hp] at e
    cases c : decide (z ∈ keysOf M') with
    | true => exact of_decide_eq_true c
    | false =>
      rw [lookM_none.mpr (of_decide_eq_false c)] at e
      cases e
theorem mak_of_keys {M : Mak} (nd : (keysOf M).Nodup) : M = (keysOf M).map fun z => (z, (lookM M z).getD []) := by
  unfold keysOf
  rw [List.map_map]
  refine (List.map_id M).symm.trans (List.map_congr_left fun m hm => ?_)
  show m = (m.1, (lookM M m.1).getD [])
  rw [lookM_mem nd hm]
  rfl
theorem OrdOf.eq {M M' : Mak} (h : OrdOf M M') {ys : List Str} (hs : sortedS ys = true) (hp : ys.Perm (keysOf M)) (nd : (keysOf M).Nodup) : M' = ys.map fun z => (z, (lookM M z).getD []) := by
  have e : keysOf M' = ys := sorted_same h.srt hs h.nd (hp.nodup_iff.mpr nd) fun z => by rw [h.keys, hp.mem_iff]
  rw [mak_of_keys h.nd, e]
  exact List.map_congr_left fun z _ => by rw [h.look]
theorem OrdOf.mk' {M : Mak} {ys : List Str} (hs : sortedS ys = true) (hp : ys.Perm (keysOf M)) (nd : (keysOf M).Nodup) : OrdOf M (ys.map fun z => (z, (lookM M z).getD [])) := by
  have ek : keysOf (ys.map fun z => (z, (lookM M z).getD [])) = ys := by
    unfold keysOf
    rw [List.map_map]
    exact List.map_id ys
  have dy : ys.Nodup := hp.nodup_iff.mpr nd
  refine ⟨by rw [ek]; exact hs, by rw [ek]; exact dy, fun z => ?_⟩
  by_cases h : z ∈ ys
  · have h1 := lookM_mem (M := ys.map fun z => (z, (lookM M z).getD [])) (by rw [ek]; exact dy) (List.mem_map.mpr ⟨z, h, rfl⟩)
    obtain ⟨ps, q⟩ := lookM_in (hp.mem_iff.mp h)
    rw [h1, q]
    rfl
  · rw [lookM_none.mpr (by rw [ek]; exact h), lookM_none.mpr fun q => h (hp.mem_iff.mpr q)]
theorem OrdOf.vld {leaf : Str} {M M' : Mak} (h : OrdOf M M') (v : Vld leaf M) : Vld leaf M' := by
  refine ⟨v.lf, fun z hz => v.keys z ((h.keys z).mp hz), h.nd, fun m hm => ?_, fun ns hn hs => v.few ns hn fun z hz => (hs z hz).imp id (h.keys z).mp⟩
  have e := h.look m.1
  rw [lookM_mem h.nd hm] at e
  obtain ⟨h1, h2, h3, h4⟩ := v.parts (m.1, m.2) (lookM_some e.symm)
  exact ⟨h1, h2, h3, fun p hp => (h4 p hp).imp id (h.keys p).mpr⟩
/-! ### what is told of kinds -/
def lineK (n : Str) (ps : List Str) : Str := (("kind " : Str) ++ n ++ " ") ++ Txt.join "+" ps
def linesK (leaf : Str) (M : Mak) : List Str := (("leaf " : Str) ++ leaf) :: M.map fun m => lineK m.1 m.2
def usersK (M : Mak) (z : Str) : List Str := (M.filter fun m => decide (z ∈ m.2)).map (·.1)
def partedK (ps : List Str) (z : Str) : List Str := ps.take (ps.idxOf z) ++ ps.drop (ps.idxOf z + 1)
/-- the users by the names and the makings in any order -/
theorem users_by {leaf : Str} {M M' : Mak} {ns : List Str} (h : OrdOf M M') (hn : IsNames leaf (keysOf M) ns) (z : Str) : ns.filter (fun u => decide (z ∈ (lookM M u).getD [])) = usersK M' z := by
  have e : usersK M' z = (keysOf M').filter fun u => decide (z ∈ (lookM M u).getD []) := by
    unfold usersK keysOf
    rw [List.filter_map]
    refine congrArg _ (List.filter_congr fun m hm => ?_)
    show decide (z ∈ m.2) = decide (z ∈ (lookM M m.1).getD [])
    rw [← h.look, lookM_mem h.nd hm]
    rfl
  rw [e]
  refine sorted_same (sortedS_sub hn.srt List.filter_sublist) (sortedS_sub h.srt List.filter_sublist) (hn.nd.sublist List.filter_sublist) (h.nd.sublist List.filter_sublist) fun u => ?_
  rw [List.mem_filter, List.mem_filter, hn.mem, h.keys]
  constructor
  · rintro ⟨h1, h2⟩
    refine ⟨?_, h2⟩
    cases c : decide (u ∈ keysOf M) with
    | true => exact of_decide_eq_true c
    | false =>
      rw [lookM_none.mpr (of_decide_eq_false c)] at h2
      exact absurd (of_decide_eq_true h2) (by simp)
  · rintro ⟨h1, h2⟩
    exact ⟨.inr h1, h2⟩
/-! ### makings in the heap -/
/-- a tuple in the heap whose object has no dict of its own -/
def TupZ (H : Hp) (a : Addr) (xs : List V) : Prop := ∃ ob : Obj, ob.dict = none ∧ H a = some (.frz ob (.tup xs))
theorem TupZ.sq {K : PySem.W.Frag} {H : Hp} {a : Addr} {xs : List V} (h : TupZ H a xs) : SqT K H a xs := by
  obtain ⟨ob, _, e⟩ := h
  exact .inl (.inr ⟨ob, e⟩)
theorem TupZ.ty {K : PySem.W.Frag} {H : Hp} {a : Addr} {xs : List V} (h : TupZ H a xs) : TyX K H (.ref a) (.type "tuple") := by
  obtain ⟨ob, _, e⟩ := h
  exact .fTuple e
theorem TupZ.at {H H' : Hp} {a : Addr} {xs : List V} (h : TupZ H a xs) (s : ∀ o, H a = some o → H' a = some o) : TupZ H' a xs := by
  obtain ⟨ob, d, e⟩ := h
  exact ⟨ob, d, s _ e⟩
theorem TupZ.mono {H H' : Hp} {a : Addr} {xs : List V} (h : TupZ H a xs) (s : Same H H') : TupZ H' a xs := h.at fun o e => s _ _ e
theorem TupZ.ne {H : Hp} {a b : Addr} {xs : List V} (h : TupZ H a xs) {o : HO} (e : H b = some o) (n : ∀ ob, o ≠ .frz ob (.tup xs)) : a ≠ b := fun z => by
  obtain ⟨ob, _, q⟩ := h
  rw [z, e] at q
  exact n ob (Option.some.inj q)
def MakAt (H : Hp) (kvs : List (Key × V)) (M : Mak) : Prop := Paired (fun (kv : Key × V) (m : Str × List Str) => kv.1 = Sum.inr m.1 ∧ ∃ a, kv.2 = .ref a ∧ TupZ H a (m.2.map V.str)) kvs M
theorem MakAt.same {H H' : Hp} {kvs : List (Key × V)} {M : Mak} (h : MakAt H kvs M) (s : ∀ a xs, TupZ H a xs → TupZ H' a xs) : MakAt H' kvs M := by
  unfold MakAt at h ⊢
  induction h with
  | nil => exact .nil
  | cons h _ ih =>
    obtain ⟨h1, a, h2, h3⟩ := h
    exact .cons ⟨h1, a, h2, s a _ h3⟩ ih
theorem MakAt.len {H : Hp} {kvs : List (Key × V)} {M : Mak} (h : MakAt H kvs M) : kvs.length = M.length := Paired.length h
theorem MakAt.keys {H : Hp} {kvs : List (Key × V)} {M : Mak} (h : MakAt H kvs M) : kvs.map (·.1) = (keysOf M).map Sum.inr := by
  unfold MakAt at h
  induction h with
  | nil => rfl
  | cons h _ ih =>
    exact congr (congrArg List.cons h.1) ih
theorem MakAt.get {H : Hp} {kvs : List (Key × V)} {M : Mak} (h : MakAt H kvs M) (z : Str) : (lookM M z = none ∧ valV kvs (Sum.inr z) = none) ∨ ∃ ps a, lookM M z = some ps ∧ valV kvs (Sum.inr z) = some (.ref a) ∧ TupZ H a (ps.map V.str) := by
  unfold MakAt at h
  induction h with
  | nil => exact .inl ⟨rfl, rfl⟩
  | @cons kv m kvs M h _ ih =>
    obtain ⟨h1, a, h2, h3⟩ := h
    rw [lookM_cons]
    by_cases e : m.1 = z
    · rw [if_pos e, valV_pos (by rw [h1, e])]
      exact .inr ⟨m.2, a, rfl, by rw [h2], h3⟩
    · rw [if_neg e, valV_neg (by rw [h1]; exact fun q => e (Sum.inr.inj q))]
      exact ih
theorem MakAt.at {H : Hp} {kvs : List (Key × V)} {M : Mak} (h : MakAt H kvs M) {i : Nat} {k : Key} {v : V} (e : kvs[i]? = some (k, v)) : ∃ m a, M[i]? = some m ∧ k = Sum.inr m.1 ∧ v = .ref a ∧ TupZ H a (m.2.map V.str) := by
  unfold MakAt at h
  induction h generalizing i with
  | nil => cases e
  | @cons kv m kvs M h _ ih =>
    cases i with
    | zero =>
      cases e
      obtain ⟨h1, a, h2, h3⟩ := h
      exact ⟨m, a, rfl, h1, h2, h3⟩
    | succ i => exact ih e
theorem MakAt.key {H : Hp} {kvs : List (Key × V)} {M : Mak} (h : MakAt H kvs M) {z : Str} (hz : z ∈ keysOf M) : ∃ ps a, lookM M z = some ps ∧ valV kvs (Sum.inr z) = some (.ref a) ∧ TupZ H a (ps.map V.str) := by
  rcases h.get z with ⟨e, _⟩ | h
  · exact absurd hz (lookM_none.mp e)
  · exact h
/-- kinds with this leaf and these makings stand at x, their dict at md, their names ns -/
def KindsAt (C : Addr) (H : Hp) (x md : Addr) (leaf : Str) (M : Mak) (ns : List Str) : Prop :=
  ∃ dx nt kvs, H x = some (.ins C dx [("_leaf", .str leaf), ("_makings", .ref md), ("_names", .ref nt)]) ∧ H md = some (.dK kvs) ∧ MakAt H kvs M ∧ H nt = some (.tup (ns.map V.str))
theorem KindsAt.keep {C : Addr} {H H' : Hp} {x md e : Addr} {leaf : Str} {M : Mak} {ns : List Str} (h : KindsAt C H x md leaf M ns) (s : ∀ b o, b ≠ e → H b = some o → H' b = some o) (n1 : x ≠ e) (n2 : md ≠ e) (n3 : ∀ xs, H e ≠ some (.tup xs)) (n4 : ∀ xs, ¬ TupZ H e xs) : KindsAt C H' x md leaf M ns := by
  obtain ⟨dx, nt, kvs, h1, h2, h3, h4⟩ := h
  have t : ∀ a xs, H a = some (.tup xs) → H' a = some (.tup xs) := fun a xs q => s a _ (fun z => n3 xs (z ▸ q)) q
  exact ⟨dx, nt, kvs, s _ _ n1 h1, s _ _ n2 h2, h3.same fun a xs q => q.at fun o e' => s _ _ (fun z => n4 xs (z ▸ q)) e', t _ _ h4⟩
theorem KindsAt.same {C : Addr} {H H' : Hp} {x md : Addr} {leaf : Str} {M : Mak} {ns : List Str} (h : KindsAt C H x md leaf M ns) (s : Same H H') : KindsAt C H' x md leaf M ns := by
  obtain ⟨dx, nt, kvs, h1, h2, h3, h4⟩ := h
  exact ⟨dx, nt, kvs, s _ _ h1, s _ _ h2, h3.same fun a xs q => q.mono s, s _ _ h4⟩
end Kl

set_option maxRecDepth 100000
set_option maxHeartbeats 4000000
namespace Gx
open PySem PySem.Spec PyProof.Rows L2
/-- the name x is a def called with n values by position and keywords ks, that keeps sp and raises nothing -/
def CalO (P : Program) (w : World) (K : PySem.W.Frag) (mg : Str → Option Value) (base : Heap) (k : Nat) (x : Str) (ps : List Str) (n : Nat) (ks : List Str) (gV : List V → List V → List V) (sp : Sp) : Prop :=
  ∃ (f : Addr) (fd : FuncData) (g : List Value → List Value → List Value), FnOk P w K mg base CX0 k f fd ps sp ∧ PySem.W.keepIn K (.ref f) = true ∧ KBn K fd ps n ks g gV ∧ mg x = some (.ref f)
section
variable {P : Program} {w : World} {K : PySem.W.Frag} {mg : Str → Option Value} {base : Heap}
theorem DefK.calO {x qual : Str} {st : Stmt} {ps ks : List Str} {n : Nat} (d : DefK K mg x qual st ps n ks) {k : Nat} {sp : Sp} (h : ∀ f fd, Fun K x qual st f fd → FnOk P w K mg base CX0 k f fd ps sp) : CalO P w K mg base k x ps n ks (fun vs zs => vs ++ zs) sp := by
  obtain ⟨f, fd, F, b, g⟩ := d
  exact ⟨f, fd, _, h f fd F, F.kp, b, g⟩
theorem CalO.mono {x : Str} {ps ks : List Str} {n j k : Nat} {gV : List V → List V → List V} {sp : Sp} (c : CalO P w K mg base j x ps n ks gV sp) (h : j ≤ k) : CalO P w K mg base k x ps n ks gV sp := by
  obtain ⟨f, fd, g, F, more⟩ := c
  exact ⟨f, fd, g, F.mono h, more⟩
end
section
variable {X : Cx}
def tClO (n m : Nat) (sp : Sp) (gV : List V → List V → List V) (t tk : TA) : TE := fun σ H Q => t σ H fun vs H1 => tk σ H1 fun zs H2 => vs.length = n ∧ zs.length = m ∧ sp (gV vs zs) H2 Q E0
theorem pe_calO {x : Str} {ps ks : List Str} {n : Nat} {gV : List V → List V → List V} {sp : Sp} {k : Nat} {e : Expr} {es : List Expr} {kws : List Keyword} {t tk : TA} {p pos : Pos} (c : CalO X.prog X.w X.K X.mg X.base k x ps n ks gV sp) (room : Room k X.A) (hg : Gl X x)
    (h : PA X (e :: es) t) (hk : PK X kws tk) (hall : (backToKw pos (keywordEach kws X.env)).all (·.1.isSome) = true := by rfl) (hks : (backToKw pos (keywordEach kws X.env)).filterMap (·.1) = ks := by rfl)
    (hdb : (x == ("__debug__" : Str)) = false := by decide) (hst : starEach (e :: es) X.env = (false, eval e X.env) :: starEach es X.env := by rfl)
    (hpl : ((backTo pos (starEach (e :: es) X.env)).any (·.1) || (backToKw pos (keywordEach kws X.env)).any (·.1.isNone)) = false := by rfl) :
    PE X (.Call (.Name x p) (e :: es) kws pos) (tClO n ks.length sp gV t tk) := by
  obtain ⟨f, fd, gg, F, kp, b, hm⟩ := c
  refine ⟨fun pins s σ H Q I want => wpAny_Call_Name_kw (ld_glob I hg hm ?_ hdb)⟩
  refine PySem.W.callWith_KW (h₀ := X.base) I.ok.mod.kin kp hall (thn (h.run pos pins s σ H _ I want) ?_) hpl hst
  rintro us s1 ⟨vs, H1, I1, r, q⟩
  refine thn (hk.run pos pins s1 σ H1 _ I1 q) ?_
  rintro ws s2 ⟨zs, H2, I2, rz, l1, l2, q2⟩
  refine ⟨I2.kIn, ?_⟩
  rw [hks]
  have rel := b.rel r rz
  have bt := b.to s2 us ws I2.kIn (r.length.symm.trans l1) (rz.length.symm.trans l2)
  refine wpAny_call (codeAny_mono (F.run X.A X.stack s2 H2 ⟨us, ks.zip ws⟩ _ _ Q E0 room I2.env0 bt rel q2) fun res s' hres => ?_)
  match res, hres with
  | .error e, hres => exact hres.elim
  | .ok (.ret u), hres => exact I2.after hres
end
/-! ### rules within comprehensions, the written part named -/
section
variable {X : Cx} {K : PySem.W.Frag}
theorem pi_tupK {tg l : Expr} {tl : TE} (hk : X.K = K) (hl : PE X l tl) : PI X tg l (iTup K tl) := by
  subst hk
  exact pi_tup hl
theorem pi_listK {tg l : Expr} {tl : TE} (hk : X.K = K) (hl : PE X l tl) : PI X tg l (iList K tl) := by
  subst hk
  exact pi_list hl
theorem op_inSeqK (hk : X.K = K) : OpR X (compareOp .In) (rIn K false) := by
  subst hk
  exact op_in_seq
end
/-- a walk's bookkeeping, whatever its turn does -/
theorem walk_in {J : It} {n : Nat} {G : Hp → Prop} {Y : Nat → Hp → V → Hp → Prop} (w : Walk J n G Y) {H0 : Hp} {Qd : Hp → Prop} {body : V → Hp → (Hp → Prop) → Prop} (Pv : Nat → Hp → Prop) (h0 : Pv 0 H0) (hG : ∀ i H, i ≤ n → Pv i H → G H)
    (hs : ∀ i x H H', i < n → Pv i H → Y i H x H' → body x H' (Pv (i + 1))) (hd : ∀ H, Pv n H → Qd H) :
    ∃ W : Nat → Nat → Hp → Prop, (∃ m, W 0 m H0) ∧ ∀ i m H, W i m H → (J.stop i H ∧ Qd H) ∨ (J.go i H ∧ ∃ Nx : Hp → Prop, (∀ H', Nx H' → ∃ m', m' < m ∧ W (i + 1) m' H') ∧ ∀ x H', J.yld i H x H' → body x H' Nx) := by
  refine ⟨fun i m H => m = n - i ∧ i ≤ n ∧ Pv i H, ⟨n, (Nat.sub_zero n).symm, Nat.zero_le _, h0⟩, ?_⟩
  rintro i m H ⟨rfl, hi, p⟩
  have q := hG i H hi p
  rcases Nat.lt_or_ge i n with lt | ge
  · exact .inr ⟨w.goes i H lt q, Pv (i + 1), fun H' p' => ⟨n - (i + 1), by omega, rfl, lt, p'⟩, fun x H' y => hs i x H H' lt p (w.yields i H x H' lt q y)⟩
  · obtain rfl : i = n := Nat.le_antisymm hi ge
    exact .inl ⟨w.stops H q, hd H p⟩
end Gx
namespace Kl
open PySem PySem.Spec PyProof.Rows L2 Gx Mx
section
variable {P : Program} {w : World} {K : PySem.W.Frag} {mg : Str → Option Value} {base : Heap}
/-! ### is_sorted of texts -/
def spSorted (K : PySem.W.Frag) : Sp := fun vs H Q _ => ∃ (p : Addr) (zs : List Str) (M : Int), vs = [.ref p, .int M] ∧ SqT K H p (zs.map V.str) ∧ TyX K H (.ref p) (.type "tuple") ∧ 0 ≤ M ∧ M ≤ 100 ∧ zs.length ≤ 1000 ∧ (∀ z ∈ zs, z.length ≤ 1000) ∧
  ∀ H', Same H H' → Q (.bl (decide ((zs.length : Int) ≤ M) && (zs.all nameB && sortedS zs))) H'
theorem names_low {z : Str} (h : nameB z = true) : PyData.strOk z = true := by
  unfold nameB at h
  rw [Bool.and_eq_true] at h
  show z.cps.all _ = true
  rw [Array.all_eq_true']
  intro c hc
  have := List.all_eq_true.mp h.2 c (Array.mem_toList_iff.mpr hc)
  exact decide_eq_true (Nat.lt_trans (isLow_lt this) (by decide))
theorem ok_sorted {f : Addr} {fd : FuncData} (F : Fun K "is_sorted" "is_sorted" s_is_sorted f fd) (T : Top K mg) : FnOk P w K mg base CX0 3 f fd ["value", "most"] (spSorted K) := by
  have cc : Cal P w K mg base 2 "is_count" ["value"] (spCnt K) := T.d_is_count.cal fun f fd F => ok_cnt F T
  have cn : Cal P w K mg base 2 "is_name" ["value"] (spName K) := (T.d_is_name.cal fun f fd F => ok_name F T).mono (by decide)
  refine F.ok sc_is_sorted (fun vs H Q E h => ?_) (fun cdv A outer s H vs Q E hr h => ?_)
  · obtain ⟨p, zs, M, rfl, _⟩ := h
    rfl
  · obtain ⟨p, zs, M, rfl, hp, hT, hM, hM2, hlen, hz, hq⟩ := h
    refine ⟨_, pss_cons (ps_if (pt_not (pt_val (pe_cal cc hr (by rfl) (pa_cons (pv 1) pa_nil)))) (pss_one ps_never) pss_nil)
      (pss_cons (ps_if (PW.pt (pw_or (pt_not (pt_val (pe_callB call_isi (by rfl) T.b_isinstance (by decide +kernel) (pa_cons (pv 0) (pa_cons (pe_bltn (v := .ty "tuple") (by rfl) T.b_tuple (by decide +kernel) rfl) pa_nil)))))
          (pw_or1 (pt_cmpR op_gt (pe_callB call_len_seq (by rfl) T.b_len PySem.boot_len (pa_cons (pv 0) pa_nil)) (pv 1) (nomark _))))) (pss_one (ps_ret pe_bl)) pss_nil)
      (pss_cons (ps_if (pt_not (pt_val (pe_callB (cr_all rfl) (by rfl) T.b_all (by decide +kernel) (pa_cons (pe_lc (own := [("name", 2)]) (g := gName 2) (tt := tYes) rfl sc_is_sorted.nd (pi_tup (pv 0))
            (blkOk_by (N := ["value", "most", "name"]) (sc := defScope s_is_sorted) (by decide +kernel))
            (fun _ _ _ _ _ => pg_name (i := 2) sc_is_sorted.nd rfl (.inl rfl)) (fun _ _ _ _ _ => pts_nil) (fun _ _ _ _ _ => pe_cal cn hr (by rfl) (pa_cons (pv 2) pa_nil))) pa_nil)))) (pss_one (ps_ret pe_bl)) pss_nil)
      (pss_one (ps_ret (pe_cmpR (op_eqD hr.units) (pe_callTy call_list_of (by rfl) T.b_list (by decide +kernel) (pa_cons (pv 0) pa_nil)) (pe_callB cr_sortedTS (by rfl) T.b_sorted (by decide +kernel) (pa_cons (pv 0) pa_nil)) (nomark _)))))), ?_⟩
    have hc : cntV (.int M) = true := by
      show ((decide (-TEN60 < M) && decide (M < TEN60)) && decide (0 ≤ M)) = true
      rw [decide_eq_true (show -TEN60 < M by unfold TEN60; omega), decide_eq_true (show M < TEN60 by unfold TEN60; omega), decide_eq_true hM]
      rfl
    refine ⟨_, rfl, .int M, rfl, .inl ⟨M, rfl⟩, _, rfl, ?_⟩
    rw [hc]
    refine ⟨_, rfl, _, .ty "tuple", .type "tuple", .type "tuple", true, rfl, .ty _, hT, kit_ty (by decide +kernel), true, rfl, ?_⟩
    refine ⟨_, rfl, p, _, rfl, .inr hp, _, rfl, _, _, rfl, rfl, _, rfl, ite2 (fun e => ?_) (fun e => ?_)⟩
    · have e1 : decide ((zs.length : Int) ≤ M) = false := decide_eq_false (by
        have := of_decide_eq_true e
        rw [List.length_map] at this
        omega)
      rw [e1, Bool.false_and] at hq
      exact hq H (Same.refl H)
    · have e1 : decide ((zs.length : Int) ≤ M) = true := decide_eq_true (by
        have : ¬ (M < ((zs.map V.str).length : Int)) := fun z => e (decide_eq_true z)
        rw [List.length_map] at this
        omega)
      rw [e1, Bool.true_and] at hq
      refine ⟨_, rfl, p, rfl, ⟨_, hp⟩, fun D hD => ?_⟩
      refine lc_tup (xs := zs.map V.str) (fun j H2 => H2 D = some (.lst ((zs.take j).map fun z => V.bl (nameB z))) ∧ Same H H2) ⟨upd_same, fun b u e => by rw [upd_ne (ne_of_none e hD)]; exact e⟩ (fun j H2 _ hP => ?_) (fun j x H2 hj hP => ?_) (fun H2 hP => ?_)
      · rcases hp with (h | ⟨u, h⟩) | h
        · exact .inl (.inl (hP.2 _ _ h))
        · exact .inl (.inr ⟨u, hP.2 _ _ h⟩)
        · exact .inr h
      · obtain ⟨eD, sm⟩ := hP
        obtain ⟨z, hzj, rfl⟩ : ∃ z, zs[j]? = some z ∧ V.str z = x := by
          rw [List.getElem?_map] at hj
          cases e : zs[j]? with
          | none => rw [e] at hj; cases hj
          | some z => rw [e] at hj; exact ⟨z, rfl, by cases hj; rfl⟩
        refine ⟨rfl, _, rfl, _, rfl, .inl ⟨z, rfl, Nat.le_trans (hz z (List.mem_of_getElem? hzj)) (by decide)⟩, _, eD, ?_, ?_, fun b u e => by rw [upd_ne (ne_of_none e hD)]; exact sm b u e⟩
        · rw [List.length_map, List.length_take]
          exact Nat.lt_of_le_of_lt (Nat.le_trans (Nat.min_le_right _ _) hlen) (by decide)
        · rw [upd_same, List.take_add_one, hzj, List.map_append]
          rfl
      · obtain ⟨eD, sm⟩ := hP
        rw [List.length_map, List.take_length] at eD
        refine ⟨D, zs.map nameB, rfl, .inl (.inl (by rw [eD, List.map_map]; rfl)), _, rfl, ?_⟩
        have ea : (zs.map nameB).all id = zs.all nameB := by rw [List.all_map]; rfl
        rw [ea]
        cases hall : zs.all nameB with
        | false =>
          rw [hall, Bool.false_and] at hq
          exact hq _ sm
        | true =>
          rw [hall, Bool.true_and] at hq
          have hok : ∀ z ∈ zs, PyData.strOk z = true := fun z hz => names_low (List.all_eq_true.mp hall z hz)
          have hp2 : SqT K H2 p (zs.map V.str) := by
            rcases hp with (h | ⟨u, h⟩) | h
            · exact .inl (.inl (sm _ _ h))
            · exact .inl (.inr ⟨u, sm _ _ h⟩)
            · exact .inr h
          refine ⟨_, rfl, p, _, rfl, .inr hp2, fun l nl => ?_⟩
          have sm2 : Same H (upd H2 l (.lst (zs.map V.str))) := fun b u e => by rw [upd_ne (ne_of_none (sm b u e) nl)]; exact sm b u e
          have hp3 : SqT K (upd H2 l (.lst (zs.map V.str))) p (zs.map V.str) := by
            rcases hp with (h | ⟨u, h⟩) | h
            · exact .inl (.inl (sm2 _ _ h))
            · exact .inl (.inr ⟨u, sm2 _ _ h⟩)
            · exact .inr h
          refine ⟨_, rfl, p, zs, rfl, hp3, by omega, fun ys l2 hperm hsrt nl2 => ?_⟩
          refine ⟨.list (tD zs), .list (tD ys), ?_, ?_, shaped_texts hok, shaped_texts (fun z hz => hok z (hperm.mem_iff.mp hz)), ?_⟩
          · exact .lst (.inl (.inl (by rw [upd_ne (ne_of_none upd_same nl2), upd_same]))) (dp_texts zs)
          · exact .lst (.inl (.inl upd_same)) (dp_texts ys)
          · rw [PyData.eqv, eqv_texts, eq_sorted_iff hperm hsrt]
            exact hq _ (fun b u e => by rw [upd_ne (ne_of_none (sm2 b u e) nl2)]; exact sm2 b u e)
/-! ### _is_making of a making -/
def spMaking (K : PySem.W.Frag) : Sp := fun vs H Q _ => ∃ (p : Addr) (zs : List Str), vs = [.ref p] ∧ TupZ H p (zs.map V.str) ∧ zs.all nameB = true ∧ sortedS zs = true ∧ 2 ≤ zs.length ∧ zs.length ≤ 3 ∧ (∀ z ∈ zs, z.length ≤ 1000) ∧ ∀ H', Same H H' → Q (.bl true) H'
theorem ok_making {f : Addr} {fd : FuncData} (F : Fun K "_is_making" "_is_making" s_is_making f fd) (T : Top K mg) : FnOk P w K mg base CX0 4 f fd ["value"] (spMaking K) := by
  obtain ⟨tm, gm⟩ := T.g_MAX_PARTS
  have cs : CalO P w K mg base 3 "is_sorted" ["value", "most"] 1 ["most"] (fun vs zs => vs ++ zs) (spSorted K) := T.d_is_sorted.calO fun f fd F => ok_sorted F T
  refine F.ok sc_is_making (fun vs H Q E h => ?_) (fun cdv A outer s H vs Q E hr h => ?_)
  · obtain ⟨p, zs, rfl, _⟩ := h
    rfl
  · obtain ⟨p, zs, rfl, hp, hn, hs, h2, h3, hz, q⟩ := h
    refine ⟨_, pss_one (ps_ret (pe_and (pe_calO cs hr (by rfl) (pa_cons (pv 0) pa_nil) (pk_cons (pe_glob (v := .int 3) (by rfl) gm ⟨_, rfl⟩) pk_nil))
      (pe_one (pe_cmpR op_ge (pe_callB call_len_seq (by rfl) T.b_len PySem.boot_len (pa_cons (pv 0) pa_nil)) pe_int (nomark _))))), ?_⟩
    refine ⟨_, rfl, rfl, rfl, p, zs, 3, rfl, hp.sq, hp.ty, by decide, by decide, by omega, hz, fun H1 s1 => ⟨_, rfl, ?_⟩⟩
    rw [hn, hs, decide_eq_true (show ((zs.length : Int) ≤ 3) by omega)]
    refine ⟨_, rfl, p, _, rfl, .inr (hp.mono s1).sq, _, _, rfl, rfl, ?_⟩
    have e : decide ((2 : Int) ≤ ((zs.map V.str).length : Int)) = true := decide_eq_true (by rw [List.length_map]; omega)
    show Q (.bl (decide ((2 : Int) ≤ ((zs.map V.str).length : Int)))) H1
    rw [e]
    exact q H1 s1
/-! ### _all_names -/
def spNames : Sp := fun vs H Q _ => ∃ (leaf : Str) (md : Addr) (kvs : List (Key × V)) (ks : List Str), vs = [.str leaf, .ref md] ∧ H md = some (.dK kvs) ∧ kvs.map (·.1) = ks.map Sum.inr ∧ ks.length ≤ 100 ∧
  ∀ (ns : List Str) (p : Addr) (H' : Hp), IsNames leaf ks ns → Same H H' → H p = none → H' p = some (.tup (ns.map V.str)) → Q (.ref p) H'
theorem ok_names {f : Addr} {fd : FuncData} (F : Fun K "_all_names" "_all_names" s_all_names f fd) (T : Top K mg) : FnOk P w K mg base CX0 1 f fd ["leaf", "makings"] spNames := by
  refine F.ok sc_all_names (fun vs H Q E h => ?_) (fun cdv A outer s H vs Q E hr h => ?_)
  · obtain ⟨leaf, md, kvs, ks, rfl, _⟩ := h
    rfl
  · obtain ⟨leaf, md, kvs, ks, rfl, hd, hk, hl, q⟩ := h
    refine ⟨_, pss_one (ps_ret (pe_callTy call_tuple_of (by rfl) T.b_tuple (by decide +kernel) (pa_cons (pe_callB (cr_sortedX rfl) (by rfl) T.b_sorted (by decide +kernel) (pa_cons
      (pe_callTy (cr_setX rfl) (by rfl) T.b_set (by decide +kernel) (pa_cons (pe_lst (pa_cons (pv 0) (pa_starD rfl (pv 1) pa_nil))) pa_nil)) pa_nil)) pa_nil))), ?_⟩
    have ek : (kvs.map fun kv => kV kv.1) = ks.map V.str := by
      have e := congrArg (List.map kV) hk
      rw [List.map_map, List.map_map] at e
      exact e
    have lk : kvs.length = ks.length := by
      have e := congrArg List.length hk
      rw [List.length_map, List.length_map] at e
      exact e
    have e1 : [V.str leaf] ++ ((kvs.map fun kv => kV kv.1) ++ []) = ((leaf :: ks).map V.str) := by rw [List.append_nil, ek]; rfl
    refine ⟨_, rfl, _, rfl, md, kvs, rfl, hd, ?_, fun l nl => ?_⟩
    · show (V.str leaf :: ((kvs.map fun kv => kV kv.1) ++ [])).length ≤ sizeLine
      rw [List.length_cons, List.append_nil, List.length_map]
      exact Nat.le_trans (show kvs.length + 1 ≤ 101 by omega) (by decide)
    have s1 : Same H (upd H l (.lst ((leaf :: ks).map V.str))) := fun b u e => by rw [upd_ne (ne_of_none e nl)]; exact e
    have e2 : upd H l (.lst (V.str leaf :: ((kvs.map fun kv => kV kv.1) ++ []))) = upd H l (.lst ((leaf :: ks).map V.str)) := by rw [← e1]; rfl
    rw [e2]
    generalize hH1 : upd H l (.lst ((leaf :: ks).map V.str)) = H1 at s1
    have h1l : H1 l = some (.lst ((leaf :: ks).map V.str)) := by rw [← hH1, upd_same]
    refine ⟨l, leaf :: ks, rfl, .inl (.inl h1l), by show (leaf :: ks).length ≤ 1000; rw [List.length_cons]; omega, fun a na => ?_⟩
    have s2 : Same H (upd H1 a (SetO' P w a (leaf :: ks))) := fun b u e => by rw [upd_ne (ne_of_none (s1 b u e) na)]; exact s1 b u e
    refine ⟨a, leaf :: ks, rfl, upd_same, by show (leaf :: ks).length ≤ 1000; rw [List.length_cons]; omega, fun ys p hs nd hm np => ?_⟩
    have s3 : Same H (upd (upd H1 a (SetO' P w a (leaf :: ks))) p (.lst (ys.map V.str))) := fun b u e => by rw [upd_ne (ne_of_none (s2 b u e) np)]; exact s2 b u e
    refine ⟨p, ys.map V.str, rfl, .inl ⟨.inl (.inl upd_same), fun t nt => ?_⟩⟩
    refine q ys t _ ⟨hs, nd, fun z => (hm z).trans List.mem_cons⟩ (fun b u e => by rw [upd_ne (ne_of_none (s3 b u e) nt)]; exact s3 b u e) ?_ upd_same
    exact s3.free nt
end
end Kl

set_option maxRecDepth 100000
set_option maxHeartbeats 4000000
namespace Kl
open PySem PySem.Spec PyProof.Rows L2 Gx Mx
section
variable {P : Program} {w : World} {K : PySem.W.Frag} {mg : Str → Option Value} {base : Heap}
theorem flat_strs' (zs : List Str) : (zs.map V.str).all flatV = true := by
  rw [List.all_map]
  exact List.all_eq_true.mpr fun _ _ => rfl
theorem inV_strs (z : Str) (zs : List Str) : inV (.str z) (zs.map V.str) = decide (z ∈ zs) := by
  unfold inV
  rw [List.any_map]
  have e : (fun y => eqV y (V.str z)) ∘ V.str = fun y => decide (y = z) := by
    funext y
    show (y == z) = decide (y = z)
    by_cases h : y = z
    · subst h
      rw [decide_eq_true rfl]
      exact beq_self_eq_true y
    · rw [decide_eq_false h]
      exact beq_eq_false_iff_ne.mpr h
  rw [e, Bool.eq_iff_iff, List.any_eq_true, decide_eq_true_eq]
  constructor
  · rintro ⟨y, hy, q⟩
    rw [← of_decide_eq_true q]
    exact hy
  · intro h
    exact ⟨z, h, decide_eq_true rfl⟩
/-! ### _are_kinds of kinds -/
def spAre : Sp := fun vs H Q _ => ∃ (leaf : Str) (md : Addr) (kvs : List (Key × V)) (M : Mak), vs = [.str leaf, .ref md] ∧ H md = some (.dK kvs) ∧ MakAt H kvs M ∧ Vld leaf M ∧ ∀ H', Same H H' → Q (.bl true) H'
theorem all_true (n : Nat) : (List.replicate n true).all id = true := by
  induction n with
  | zero => rfl
  | succ n ih => rw [List.replicate_succ, List.all_cons, ih]; rfl
theorem rep_snoc (j : Nat) : (List.replicate j (V.bl true)) ++ [V.bl true] = List.replicate (j + 1) (V.bl true) := by
  rw [List.replicate_succ', ]
theorem rep_map (n : Nat) : List.replicate n (V.bl true) = (List.replicate n true).map V.bl := by rw [List.map_replicate]
abbrev NA : List Str := ["leaf", "makings", "names", "name", "part"]
theorem ok_are {f : Addr} {fd : FuncData} (F : Fun K "_are_kinds" "_are_kinds" s_are_kinds f fd) (T : Top K mg) : FnOk P w K mg base CX0 5 f fd ["leaf", "makings"] spAre := by
  obtain ⟨tm, gm⟩ := T.g_MAX_KINDS
  have cn : Cal P w K mg base 4 "is_name" ["value"] (spName K) := (T.d_is_name.cal fun f fd F => ok_name F T).mono (by decide)
  have cm : Cal P w K mg base 4 "_is_making" ["value"] (spMaking K) := T.d_is_making.cal fun f fd F => ok_making F T
  have ca : Cal P w K mg base 4 "_all_names" ["leaf", "makings"] spNames := (T.d_all_names.cal fun f fd F => ok_names F T).mono (by decide)
  refine F.ok sc_are_kinds (fun vs H Q E h => ?_) (fun cdv A outer s H vs Q E hr h => ?_)
  · obtain ⟨leaf, md, kvs, M, rfl, _⟩ := h
    rfl
  · obtain ⟨leaf, md, kvs, M, rfl, hd, hM, hV, q⟩ := h
    have hu := hu_of hr
    refine ⟨_, pss_cons (ps_if (PW.pt (pw_or (pt_not (pt_val (pe_cal cn hr (by rfl) (pa_cons (pv 0) pa_nil)))) (pw_or1 (pt_not (pt_val (pe_callB call_isi (by rfl) T.b_isinstance (by decide +kernel) (pa_cons (pv 1) (pa_cons (pe_bltn (v := .ty "dict") (by rfl) T.b_dict (by decide +kernel) rfl) pa_nil))))))))
          (pss_one (ps_ret pe_bl)) pss_nil)
      (pss_cons (ps_if (pt_not (pt_val (pe_callB (cr_all rfl) (by rfl) T.b_all (by decide +kernel) (pa_cons (pe_lock (pe_lc (own := [("name", 3)]) (g := gName 3) (tt := tYes) rfl sc_are_kinds.nd (pi_keys (pv 1))
            (blkOk_by (N := NA) (sc := defScope s_are_kinds) (by decide +kernel)) (fun _ _ _ _ _ => pg_name (i := 3) sc_are_kinds.nd rfl (.inl rfl)) (fun _ _ _ _ _ => pts_nil)
            (fun _ _ _ _ _ => pe_and (pe_cal cn hr (by rfl) (pa_cons (pv 3) pa_nil)) (pe_one (pe_cal cm hr (by rfl) (pa_cons (pe_dget hu (pv 1) (pv 3) (fun _ _ => rfl)) pa_nil)))))) pa_nil)))) (pss_one (ps_ret pe_bl)) pss_nil)
      (pss_cons (ps_set (i := 2) sc_are_kinds.nd rfl (.inr rfl) (pe_cal ca hr (by rfl) (pa_cons (pv 0) (pa_cons (pv 1) pa_nil))))
      (pss_cons (ps_if (pt_cmpR op_gt (pe_callB call_len_seq (by rfl) T.b_len PySem.boot_len (pa_cons (pv 2) pa_nil)) (pe_glob (v := .int 6) (by rfl) gm ⟨_, rfl⟩) (nomark _)) (pss_one (ps_ret pe_bl)) pss_nil)
      (pss_one (ps_ret (pe_callB (cr_all rfl) (by rfl) T.b_all (by decide +kernel) (pa_cons (pe_lock (pe_lc2 (own := [("name", 3), ("part", 4)]) (vs1 := [4]) (g := gName 3) (g1 := gName 4) (tt := tYes) (tt1 := tYes) rfl sc_are_kinds.nd (pi_keys (pv 1))
            (blkOk_by (N := NA) (sc := defScope s_are_kinds) (by decide +kernel)) (by decide) (fun _ _ _ _ _ => pg_name (i := 3) sc_are_kinds.nd rfl (.inl rfl)) (fun _ _ _ _ _ => pts_nil) (fun _ _ _ _ _ => pi_tupK (K := K) (by exact rfl) (pe_dget hu (pv 1) (pv 3) (fun _ _ => rfl)))
            (fun _ _ _ _ _ => pg_name (i := 4) sc_are_kinds.nd rfl (.inl rfl)) (fun _ _ _ _ _ => pts_nil)
            (fun _ _ _ _ _ => pe_cmpR (op_inSeqK (K := K) (by exact rfl)) (pv 4) (pv 2) (by rfl)))) pa_nil))))))), ?_⟩
    have lM := hV.len
    have lk := hM.len
    -- is_name(leaf), isinstance(makings, dict)
    refine ⟨_, rfl, .str leaf, rfl, .inl ⟨leaf, rfl, Nat.le_trans (pool_len hV.lf) (by decide)⟩, _, rfl, ?_⟩
    rw [show nameV (.str leaf) = true from pool_name hV.lf]
    refine ⟨_, rfl, _, .ty "dict", .type "dict", .type "dict", true, rfl, .ty _, .base (.dK hd), kit_ty (by decide +kernel), true, rfl, ?_⟩
    -- all([..])
    refine ⟨md, _, hd, trivial, fun od => ?_⟩
    have dM : ∀ {j : Nat} {m : Str × List Str}, M[j]? = some m → ∀ {H2 : Hp}, Same (upd H md (.frz od (.dK kvs))) H2 → ∃ a, DGet H2 md (.str m.1) (some (.ref a)) ∧ TupZ H2 a (m.2.map V.str) := by
      intro j m hj H2 s2
      obtain ⟨ps, a, e1, e2, e3⟩ := hM.key (z := m.1) (List.mem_map.mpr ⟨m, List.mem_of_getElem? hj, rfl⟩)
      rw [lookM_mem hV.nd (List.mem_of_getElem? hj)] at e1
      cases e1
      have na : a ≠ md := e3.ne hd (fun _ => nofun)
      refine ⟨a, .inl ⟨kvs, Sum.inr m.1, .inr ⟨od, s2 _ _ upd_same⟩, rfl, e2.symm⟩, (e3.at fun o e => by rw [upd_ne na]; exact e).mono s2⟩
    refine ⟨_, rfl, md, od, rfl, .inl ⟨kvs, upd_same, fun D hD => ?_⟩⟩
    refine lc_it walk_keys (fun j H2 => H2 D = some (.lst (List.replicate j (V.bl true))) ∧ Same (upd H md (.frz od (.dK kvs))) H2) ⟨upd_same, fun b u e => by rw [upd_ne (ne_of_none e hD)]; exact e⟩ (fun j H2 _ hP => hP.2 _ _ upd_same) (fun j x H2 H2' hj hP hy => ?_) (fun H2 hP => ?_)
    · obtain ⟨eD, sm⟩ := hP
      obtain ⟨rfl, k, v, hkv, rfl⟩ := hy
      obtain ⟨m, a, hm, rfl, rfl, _⟩ := hM.at hkv
      have hmM := List.mem_of_getElem? hm
      obtain ⟨p1, p2, p3, p4⟩ := hV.parts m hmM
      obtain ⟨a', hg, ha⟩ := dM hm sm
      have hpool : m.1 ∈ POOL := hV.keys _ (List.mem_map.mpr ⟨m, hmM, rfl⟩)
      refine ⟨rfl, _, rfl, .str m.1, rfl, .inl ⟨m.1, rfl, Nat.le_trans (pool_len hpool) (by decide)⟩, _, rfl, ?_⟩
      rw [show nameV (.str m.1) = true from pool_name hpool]
      refine ⟨_, rfl, _, rfl, md, _, rfl, hg, a', m.2, rfl, ha, List.all_eq_true.mpr fun z hz => pool_name (hV.part hmM hz), p1, p2, p3, fun z hz => Nat.le_trans (pool_len (hV.part hmM hz)) (by decide), fun H3 s3 => ?_⟩
      refine ⟨_, s3 _ _ eD, ?_, ?_, fun b u e => by rw [upd_ne (ne_of_none e hD)]; exact s3 _ _ (sm b u e)⟩
      · rw [List.length_replicate]
        exact Nat.lt_of_le_of_lt (show j ≤ 6 by omega) (by decide)
      · rw [upd_same, rep_snoc]
    obtain ⟨eD, sm⟩ := hP
    have s1 := same_unlock hd sm
    refine ⟨sm _ _ upd_same, D, List.replicate kvs.length true, rfl, .inl (.inl ?_), _, rfl, ?_⟩
    · have nD : D ≠ md := fun z => by
        rw [z, upd_same] at hD
        cases hD
      rw [upd_ne nD, eD, rep_map]
    rw [all_true]
    generalize upd H2 md (.dK kvs) = H3 at s1
    have hd3 := s1 _ _ hd
    have hM3 : MakAt H3 kvs M := hM.same fun a xs e => e.mono s1
    -- names
    refine ⟨_, rfl, _, rfl, leaf, md, kvs, keysOf M, rfl, hd3, hM3.keys, by unfold keysOf; rw [List.length_map]; omega, fun ns p H4 hns s4 np hp => ?_⟩
    refine ⟨_, rfl, p, _, rfl, .inr (.inl (.inl hp)), _, _, rfl, rfl, _, rfl, ?_⟩
    have few : ns.length ≤ 6 := hV.few ns hns.nd fun z hz => (hns.mem z).mp hz
    refine ite2 (fun e => ?_) (fun _ => ?_)
    · exfalso
      have e := of_decide_eq_true e
      rw [List.length_map] at e
      omega
    have hd4 := s4 _ _ hd3
    have hM4 : MakAt H4 kvs M := hM3.same fun a xs e => e.mono s4
    have s14 : Same H H4 := fun b u e => s4 _ _ (s1 _ _ e)
    clear hd hM hd3 hM3 s1 s4 hD eD sm dM
    refine ⟨md, _, hd4, trivial, fun od => ?_⟩
    have npm : p ≠ md := fun z => by
      rw [z, hd4] at hp
      cases hp
    refine ⟨_, rfl, md, od, rfl, .inl ⟨kvs, upd_same, fun D hD => ?_⟩⟩
    refine walk_in walk_keys (fun j H2 => ∃ n, H2 D = some (.lst (List.replicate n (V.bl true))) ∧ n ≤ 3 * j ∧ Same (upd H4 md (.frz od (.dK kvs))) H2) ⟨0, upd_same, Nat.zero_le _, fun b u e => by rw [upd_ne (ne_of_none e hD)]; exact e⟩ (fun j H2 _ hP => by obtain ⟨_, _, _, s5⟩ := hP; exact s5 _ _ upd_same) (fun j x H2 H2' hj hP hy => ?_) (fun H2 hP => ?_)
    · obtain ⟨n, eD, ln, sm⟩ := hP
      obtain ⟨rfl, k, v, hkv, rfl⟩ := hy
      obtain ⟨m, a, hm, rfl, rfl, ha⟩ := hM4.at hkv
      have hmM := List.mem_of_getElem? hm
      obtain ⟨p1, p2, p3, p4⟩ := hV.parts m hmM
      have na : a ≠ md := ha.ne hd4 (fun _ => nofun)
      have ha1 : TupZ (upd H4 md (.frz od (.dK kvs))) a (m.2.map V.str) := ha.at fun o e => by rw [upd_ne na]; exact e
      have hv : valV kvs (Sum.inr m.1) = some (.ref a) := by
        obtain ⟨ps, a', e1, e2, e3⟩ := hM4.key (z := m.1) (List.mem_map.mpr ⟨m, hmM, rfl⟩)
        have e4 : (kvs.map (·.1)).Nodup := by
          rw [hM4.keys]
          exact List.Pairwise.map Sum.inr (fun a b h q => h (Sum.inr.inj q)) hV.nd
        have e5 := val_nodup e4 (Sum.inr m.1, .ref a) (List.mem_of_getElem? hkv)
        exact e5
      refine ⟨rfl, ?_⟩
      refine ⟨_, rfl, _, rfl, md, .ref a, rfl, .inl ⟨kvs, Sum.inr m.1, .inr ⟨od, sm _ _ upd_same⟩, rfl, hv.symm⟩, a, rfl, ⟨_, (ha1.mono sm).sq⟩, ?_⟩
      refine walk_in (walk_tup (K := K) (a := a) (xs := m.2.map V.str)) (fun i H3 => H3 D = some (.lst (List.replicate (n + i) (V.bl true))) ∧ Same (upd H4 md (.frz od (.dK kvs))) H3) ⟨eD, sm⟩ (fun i H3 _ hP => (ha1.mono hP.2).sq) (fun i x H3 H3' hi hP hy => ?_) (fun H3 hP => ?_)
      · obtain ⟨eD3, sm3⟩ := hP
        obtain ⟨rfl, hx⟩ := hy
        obtain ⟨z, hz, rfl⟩ : ∃ z, m.2[i]? = some z ∧ V.str z = x := by
          rw [List.getElem?_map] at hx
          cases e : m.2[i]? with
          | none => rw [e] at hx; cases hx
          | some z => rw [e] at hx; exact ⟨z, rfl, by cases hx; rfl⟩
        have hin : z ∈ ns := (hns.mem z).mpr (p4 z (List.mem_of_getElem? hz))
        refine ⟨rfl, _, rfl, _, rfl, p, ns.map V.str, rfl, .inr (.inl (.inl (sm3 _ _ (by rw [upd_ne npm]; exact hp)))), rfl, flat_strs' ns, ?_⟩
        show ∃ acc, _
        rw [List.length_map] at hi
        refine ⟨_, eD3, ?_, ?_, fun b u e => by rw [upd_ne (ne_of_none e hD)]; exact sm3 b u e⟩
        · rw [List.length_replicate]
          exact Nat.lt_of_le_of_lt (show n + i ≤ 100 by omega) (by decide)
        · rw [upd_same]
          have e : inV (V.str z) (ns.map V.str) = true := by rw [inV_strs, decide_eq_true hin]
          simp only [e, Bool.false_eq_true, if_false]
          rw [rep_snoc, Nat.add_assoc]
      · obtain ⟨eD3, sm3⟩ := hP
        rw [List.length_map] at eD3
        exact ⟨_, eD3, by omega, sm3⟩
    · obtain ⟨n, eD, ln, sm⟩ := hP
      have s1 := same_unlock hd4 sm
      refine ⟨sm _ _ upd_same, D, List.replicate n true, rfl, .inl (.inl ?_), ?_⟩
      · have nD : D ≠ md := fun z => by
          rw [z, upd_same] at hD
          cases hD
        rw [upd_ne nD, eD, rep_map]
      rw [all_true]
      exact q _ fun b u e => s1 _ _ (s14 _ _ e)
end
end Kl

set_option maxRecDepth 100000
set_option maxHeartbeats 4000000
namespace Kl
open PySem PySem.Spec PyProof.Rows L2 Gx Mx
section
variable {P : Program} {w : World} {K : PySem.W.Frag} {mg : Str → Option Value} {base : Heap}
theorem kLM : ("_leaf" : Str) ≠ "_makings" := by decide +kernel
theorem kLN : ("_leaf" : Str) ≠ "_names" := by decide +kernel
theorem kMN : ("_makings" : Str) ≠ "_names" := by decide +kernel
theorem putF_app {k : Str} {v : V} : ∀ fs : List (Str × V), (∀ p ∈ fs, p.1 ≠ k) → putF k v fs = fs ++ [(k, v)]
  | [], _ => rfl
  | p :: fs, h => by
    have ih := putF_app (v := v) fs fun q hq => h q (List.mem_cons_of_mem _ hq)
    obtain ⟨a, b⟩ := p
    show (if a = k then (a, v) :: fs else (a, b) :: putF k v fs) = _
    rw [if_neg (h (a, b) List.mem_cons_self), ih]
    rfl
theorem same_new {H H1 : Hp} {p : Addr} {o : HO} (s : Same H H1) (n : H1 p = none) : Same H (upd H1 p o) := fun b u e => by
  rw [upd_ne (ne_of_none (s b u e) n)]
  exact s b u e
theorem at_texts {zs : List Str} {j : Nat} {x : V} (hj : (zs.map V.str)[j]? = some x) : ∃ z, zs[j]? = some z ∧ V.str z = x := by
  rw [List.getElem?_map] at hj
  cases e : zs[j]? with
  | none => rw [e] at hj; cases hj
  | some z => rw [e] at hj; exact ⟨z, rfl, by cases hj; rfl⟩
/-- the pairs of a dict, for some of its keys -/
def pairsOf' (kvs : List (Key × V)) (ys : List Str) : List (Key × V) := ys.map fun z => (Sum.inr z, (valV kvs (Sum.inr z)).getD .non)
theorem pairs_none {kvs : List (Key × V)} {ys : List Str} {z : Str} (h : z ∉ ys) : valV (pairsOf' kvs ys) (Sum.inr z) = none := by
  induction ys with
  | nil => rfl
  | cons y ys ih =>
    rw [List.mem_cons, not_or] at h
    show valV ((Sum.inr y, _) :: pairsOf' kvs ys) (Sum.inr z) = none
    rw [valV_neg (fun q => h.1 (Sum.inr.inj q).symm)]
    exact ih h.2
theorem mak_pairs {H : Hp} {kvs : List (Key × V)} {M : Mak} (h : MakAt H kvs M) : ∀ {ys : List Str}, (∀ z ∈ ys, z ∈ keysOf M) → MakAt H (pairsOf' kvs ys) (ys.map fun z => (z, (lookM M z).getD []))
  | [], _ => .nil
  | y :: ys, hy => by
    obtain ⟨ps, a, e1, e2, e3⟩ := h.key (hy y List.mem_cons_self)
    refine .cons ⟨rfl, a, ?_, ?_⟩ (mak_pairs h fun z hz => hy z (List.mem_cons_of_mem _ hz))
    · show (valV kvs (Sum.inr y)).getD .non = .ref a
      rw [e2]
      rfl
    · show TupZ H a (((lookM M y).getD []).map V.str)
      rw [e1]
      exact e3
/-! ### Kinds.__init__ -/
def spInit (C : Addr) : Sp := fun vs H Q _ => ∃ (x dx : Addr) (leaf : Str) (pd : Addr) (kvs : List (Key × V)) (M : Mak), vs = [.ref x, .str leaf, .ref pd] ∧ H x = some (.ins C dx []) ∧ H pd = some (.dK kvs) ∧ MakAt H kvs M ∧ Vld leaf M ∧
  ∀ (H' : Hp) (md : Addr) (M' : Mak) (ns : List Str), KindsAt C H' x md leaf M' ns → OrdOf M M' → IsNames leaf (keysOf M) ns → H md = none → (∀ b o, b ≠ x → H b = some o → H' b = some o) → Q .non H'
abbrev NI : List Str := ["self", "leaf", "makings", "name"]
theorem ok_init {C f : Addr} {fd : FuncData} (F : Fun K "__init__" "Kinds.__init__" s_Kinds_init f fd) (T : Top K mg) (TC : Cl_Kinds K mg C) : FnOk P w K mg base CX0 6 f fd ["self", "leaf", "makings"] (spInit C) := by
  have ca : Cal P w K mg base 5 "_are_kinds" ["leaf", "makings"] spAre := T.d_are_kinds.cal fun f fd F => ok_are F T
  have cn : Cal P w K mg base 5 "_all_names" ["leaf", "makings"] spNames := (T.d_all_names.cal fun f fd F => ok_names F T).mono (by decide)
  refine F.ok sc_Kinds_init (fun vs H Q E h => ?_) (fun cdv A outer s H vs Q E hr h => ?_)
  · obtain ⟨x, dx, leaf, pd, kvs, M, rfl, _⟩ := h
    rfl
  · obtain ⟨x, dx, leaf, pd, kvs, M, rfl, hx, hd, hM, hV, q⟩ := h
    have hu := hu_of hr
    refine ⟨_, pss_cons (ps_if (pt_not (pt_val (pe_cal ca hr (by rfl) (pa_cons (pv 1) (pa_cons (pv 2) pa_nil))))) (pss_one ps_never) pss_nil)
      (pss_cons (ps_fld (pv 0) (pv 1) rfl)
      (pss_cons (ps_fld (pv 0) (pe_dc (own := [("name", 3)]) (g := gName 3) (tt := tYes) rfl sc_Kinds_init.nd (pi_list (pe_callB (call_sortedD rfl) (by rfl) T.b_sorted (by decide +kernel) (pa_cons (pv 2) pa_nil)))
          (blkOk_by (N := NI) (sc := defScope s_Kinds_init) (by decide +kernel)) (fun _ _ _ _ _ => pg_name (i := 3) sc_Kinds_init.nd rfl (.inl rfl)) (fun _ _ _ _ _ => pts_nil) (fun _ _ _ _ _ => pv 3) (fun _ _ _ _ _ => pe_dget hu (pv 2) (pv 3) (fun _ _ => rfl))) rfl)
      (pss_one (ps_fld (pv 0) (pe_cal cn hr (by rfl) (pa_cons (pv 1) (pa_cons (pv 2) pa_nil))) rfl)))), ?_⟩
    have lM := hV.len
    have lk := hM.len
    refine ⟨_, rfl, _, rfl, leaf, pd, kvs, M, rfl, hd, hM, hV, fun H1 s1 => ⟨_, rfl, ?_⟩⟩
    -- self._leaf = leaf
    have hx1 := s1 _ _ hx
    refine ⟨_, rfl, _, rfl, x, C, dx, [], rfl, hx1, TC.cl, TC.n_leaf, by decide, ?_⟩
    have npx : pd ≠ x := fun z => by
      rw [z, hx] at hd
      cases hd
    have tupx : ∀ {H2 : Hp}, (∀ b o, b ≠ x → H b = some o → H2 b = some o) → MakAt H2 kvs M := fun {H2} s2 => hM.same fun a xs e => e.at fun o => s2 _ _ (e.ne hx (fun _ => nofun))
    have k1 : ∀ b o, b ≠ x → H b = some o → (upd H1 x (.ins C dx (putF "_leaf" (.str leaf) []))) b = some o := fun b o n e => by
      rw [upd_ne n]
      exact s1 b o e
    have x1 : (upd H1 x (.ins C dx (putF "_leaf" (.str leaf) []))) x = some (.ins C dx [("_leaf", .str leaf)]) := by
      rw [upd_same]
      rfl
    have f1 : ∀ b, (upd H1 x (.ins C dx (putF "_leaf" (.str leaf) []))) b = none → H b = none := fun b e => by
      have n : b ≠ x := fun z => by
        rw [z, upd_same] at e
        cases e
      rw [upd_ne n] at e
      exact s1.free e
    generalize upd H1 x (.ins C dx (putF "_leaf" (.str leaf) [])) = H2 at k1 x1 f1
    clear s1 hx1
    have hd2 := k1 _ _ npx hd
    have hM2 := tupx k1
    -- self._makings
    refine ⟨_, rfl, pd, kvs, keysOf M, rfl, .inl hd2, hM.keys, by unfold keysOf; rw [List.length_map]; omega, fun ys p hperm hsrt np => ?_⟩
    have nd : (keysOf M).Nodup := hV.nd
    have ndY : ys.Nodup := hperm.nodup_iff.mpr nd
    have lY : ys.length ≤ 6 := by
      rw [hperm.length_eq]
      unfold keysOf
      rw [List.length_map]
      exact lM
    refine ⟨p, rfl, ⟨_, .inl (.inl upd_same)⟩, fun D hD => ?_⟩
    have s2 : Same H2 (upd H2 p (.lst (ys.map V.str))) := same_new (Same.refl H2) np
    refine walk_in (walk_list (K := K) (a := p) (xs := ys.map V.str)) (fun j G => G D = some (.dK (pairsOf' kvs (ys.take j))) ∧ Same (upd H2 p (.lst (ys.map V.str))) G) ⟨upd_same, same_new (Same.refl _) hD⟩ (fun j G _ hP => .inl (.inl (hP.2 _ _ upd_same))) (fun j v G G' hj hP hy => ?_) (fun G hP => ?_)
    · obtain ⟨eD, sm⟩ := hP
      obtain ⟨rfl, hv⟩ := hy
      obtain ⟨z, hz, rfl⟩ := at_texts hv
      have hzM : z ∈ keysOf M := hperm.mem_iff.mp (List.mem_of_getElem? hz)
      obtain ⟨ps, a, e1, e2, e3⟩ := hM2.key hzM
      refine ⟨rfl, _, rfl, _, rfl, _, rfl, pd, .ref a, rfl, .inl ⟨kvs, Sum.inr z, .inl (sm _ _ (s2 _ _ hd2)), rfl, e2.symm⟩, pairsOf' kvs (ys.take j), Sum.inr z, rfl, eD, ?_, ?_, fun b u e => by rw [upd_ne (ne_of_none e hD)]; exact sm b u e⟩
      · unfold pairsOf'
        rw [List.length_map, List.length_take]
        exact Nat.lt_of_le_of_lt (Nat.le_trans (Nat.min_le_right _ _) lY) (by decide)
      · have hnot : z ∉ ys.take j := by
          intro hin
          obtain ⟨i, hi⟩ := List.mem_iff_getElem?.mp hin
          rw [List.getElem?_take] at hi
          by_cases c : i < j
          · rw [if_pos c] at hi
            have h1 := (List.getElem?_eq_some_iff.mp hi)
            have h2 := (List.getElem?_eq_some_iff.mp hz)
            have h3 := (List.getElem_inj (h₀ := h1.1) (h₁ := h2.1) ndY).mp (h1.2.trans h2.2.symm)
            omega
          · rw [if_neg c] at hi
            cases hi
        rw [upd_same, putK_new _ (pairs_none hnot), List.take_add_one, hz]
        unfold pairsOf'
        rw [List.map_append]
        show some (HO.dK (_ ++ [(Sum.inr z, V.ref a)])) = some (HO.dK (_ ++ [(Sum.inr z, (valV kvs (Sum.inr z)).getD .non)]))
        rw [e2]
        rfl
    obtain ⟨eD, sm⟩ := hP
    rw [List.length_map, List.take_length] at eD
    have s3 : Same H2 G := fun b u e => sm _ _ (s2 _ _ e)
    have fD : H2 D = none := s2.free hD
    have hx3 := s3 _ _ x1
    have nDx : D ≠ x := fun z => by
      rw [z, x1] at fD
      cases fD
    refine ⟨_, rfl, x, C, dx, _, rfl, hx3, TC.cl, TC.n_makings, by show 1 < 1000; decide, ?_⟩
    have e4 : putF "_makings" (.ref D) [("_leaf", .str leaf)] = [(("_leaf" : Str), V.str leaf), ("_makings", .ref D)] := putF_app _ fun p hp => by
      simp only [List.mem_cons, List.not_mem_nil, or_false] at hp
      subst hp
      exact kLM
    rw [e4]
    have k3 : ∀ b o, b ≠ x → H b = some o → (upd G x (.ins C dx [("_leaf", .str leaf), ("_makings", .ref D)])) b = some o := fun b o n e => by
      rw [upd_ne n]
      exact s3 _ _ (k1 b o n e)
    have x3 : (upd G x (.ins C dx [("_leaf", .str leaf), ("_makings", .ref D)])) x = some (.ins C dx [("_leaf", .str leaf), ("_makings", .ref D)]) := upd_same
    have d3 : (upd G x (.ins C dx [("_leaf", .str leaf), ("_makings", .ref D)])) D = some (.dK (pairsOf' kvs ys)) := by
      rw [upd_ne nDx]
      exact eD
    generalize upd G x (.ins C dx [("_leaf", .str leaf), ("_makings", .ref D)]) = H3 at k3 x3 d3
    clear sm eD s3 hx3 s2 x1 hM2 hd2
    have hM3 := tupx k3
    -- self._names
    refine ⟨_, rfl, _, rfl, leaf, pd, kvs, keysOf M, rfl, k3 _ _ npx hd, hM3.keys, by unfold keysOf; rw [List.length_map]; omega, fun ns t H4 hns s4 nt ht => ?_⟩
    refine ⟨_, rfl, x, C, dx, _, rfl, s4 _ _ x3, TC.cl, TC.n_names, by show 2 < 1000; decide, ?_⟩
    have e5 : putF "_names" (.ref t) [("_leaf", .str leaf), ("_makings", .ref D)] = [(("_leaf" : Str), V.str leaf), ("_makings", .ref D), ("_names", .ref t)] := putF_app _ fun p hp => by
      simp only [List.mem_cons, List.not_mem_nil, or_false] at hp
      rcases hp with rfl | rfl
      · exact kLN
      · exact kMN
    rw [e5]
    have k4 : ∀ b o, b ≠ x → H b = some o → (upd H4 x (.ins C dx [("_leaf", .str leaf), ("_makings", .ref D), ("_names", .ref t)])) b = some o := fun b o n e => by
      rw [upd_ne n]
      exact s4 _ _ (k3 b o n e)
    have ntx : t ≠ x := fun z => by
      rw [z, x3] at nt
      cases nt
    refine q _ D (ys.map fun z => (z, (lookM M z).getD [])) ns ⟨dx, t, pairsOf' kvs ys, upd_same, ?_, mak_pairs (tupx k4) fun z hz => hperm.mem_iff.mp hz, ?_⟩ (OrdOf.mk' hsrt hperm nd) hns (f1 _ fD) k4
    · rw [upd_ne nDx]
      exact s4 _ _ d3
    · rw [upd_ne ntx]
      exact ht
end
end Kl

set_option maxRecDepth 100000
set_option maxHeartbeats 4000000
namespace Gx
open PySem PySem.Spec PyProof.Rows L2
section
variable {X : Cx} {K : PySem.W.Frag} {e o : Expr} {f : Str} {te to : TE} {pos apos : Pos}
theorem pe_fldK (hk : X.K = K) (he : PE X e te) (hb : attributeBase e f X.env (eval e X.env) = eval e X.env := by rfl) : PE X (.Attribute e f pos) (tFld K te f) := by
  subst hk
  exact pe_fld he hb
/-- f'..' of two parts or more, told by a name -/
def tJoined (ts : List TE) : TE := fun σ H Q => tJs ts Str.empty σ H fun out H1 => Q (.str out) H1
theorem pe_joinedN {v1 v2 : Expr} {rest : List Expr} {ts : List TE} {pos : Pos} (h : PJ X (v1 :: v2 :: rest) ts) : PE X (.JoinedStr (v1 :: v2 :: rest) pos) (tJoined ts) := pe_joined h
/-- sep.join(xs) -/
def rJoin (K : PySem.W.Frag) : V → List V → Hp → VK → Prop := fun x xs H Q => ∃ a p, ∃ ys : List Str, x = .str a ∧ xs = [.ref p] ∧ (SqL K H p (ys.map V.str) ∨ SqT K H p (ys.map V.str)) ∧ (ys.map (·.length)).sum + ys.length * a.length ≤ 16777216 ∧ Q (.str (Txt.join a ys)) H
theorem pe_joinK (hk : X.K = K) (ho : PE X o to) (he : PE X e te) (hs : starEach [e] X.env = [(false, eval e X.env)] := by rfl) (hbase : attributeBase o "join" X.env (eval o X.env) = eval o X.env := by rfl) (hline : (apos.endLine == pos.line) = true := by rfl) :
    PE X (.Call (.Attribute o "join" apos) [e] [] pos) (tM1 (rJoin K) to te) := by
  subst hk
  exact pe_join ho he hs hbase hline
end
end Gx
namespace Kl
open PySem PySem.Spec PyProof.Rows L2 Gx Mx
section
variable {P : Program} {w : World} {K : PySem.W.Frag} {mg : Str → Option Value} {base : Heap}
/-! ### what Kinds tells: leaf, makings, names, lines -/
abbrev kf (leaf : Str) (md nt : Addr) : List (Str × V) := [("_leaf", .str leaf), ("_makings", .ref md), ("_names", .ref nt)]
theorem kf_leaf (leaf : Str) (md nt : Addr) : List.lookup ("_leaf" : Str) (kf leaf md nt) = some (.str leaf) := by simp [List.lookup]
theorem kf_mak (leaf : Str) (md nt : Addr) : List.lookup ("_makings" : Str) (kf leaf md nt) = some (.ref md) := by
  have h : (("_makings" : Str) == "_leaf") = false := beq_eq_false_iff_ne.mpr (Ne.symm kLM)
  simp [List.lookup, h]
theorem kf_names (leaf : Str) (md nt : Addr) : List.lookup ("_names" : Str) (kf leaf md nt) = some (.ref nt) := by
  have h : (("_names" : Str) == "_leaf") = false := beq_eq_false_iff_ne.mpr (Ne.symm kLN)
  have h2 : (("_names" : Str) == "_makings") = false := beq_eq_false_iff_ne.mpr (Ne.symm kMN)
  simp [List.lookup, h, h2]
theorem kf_no (leaf : Str) (md nt : Addr) {m : Str} (h1 : m ≠ "_leaf") (h2 : m ≠ "_makings") (h3 : m ≠ "_names") : (kf leaf md nt).lookup m = none := by
  have e1 : (m == "_leaf") = false := beq_eq_false_iff_ne.mpr h1
  have e2 : (m == "_makings") = false := beq_eq_false_iff_ne.mpr h2
  have e3 : (m == "_names") = false := beq_eq_false_iff_ne.mpr h3
  simp [List.lookup, e1, e2, e3]
def spKLeaf (C : Addr) : Sp := fun vs H Q _ => ∃ x md leaf M ns, vs = [.ref x] ∧ KindsAt C H x md leaf M ns ∧ Q (.str leaf) H
theorem ok_kleaf {C f : Addr} {fd : FuncData} (F : Fun K "leaf" "Kinds.leaf" s_Kinds_leaf f fd) (TC : Cl_Kinds K mg C) : FnOk P w K mg base CX0 1 f fd ["self"] (spKLeaf C) := by
  refine F.ok sc_Kinds_leaf (fun vs H Q E h => ?_) (fun cdv A outer s H vs Q E hr h => ?_)
  · obtain ⟨x, md, leaf, M, ns, rfl, _⟩ := h
    rfl
  · obtain ⟨x, md, leaf, M, ns, rfl, ⟨dx, nt, kvs, hx, hd, hM, hn⟩, q⟩ := h
    refine ⟨_, pss_one (ps_ret (pe_fld (pv 0) rfl)), ?_⟩
    exact ⟨_, rfl, x, C, dx, _, _, rfl, hx, TC.cl, TC.n_leaf, kf_leaf _ _ _, q⟩
def spKMak (C : Addr) : Sp := fun vs H Q _ => ∃ x md leaf M ns, vs = [.ref x] ∧ KindsAt C H x md leaf M ns ∧ ∀ p kvs, H p = none → MakAt H kvs M → Q (.ref p) (upd H p (.dK kvs))
theorem ok_kmak {C f : Addr} {fd : FuncData} (F : Fun K "makings" "Kinds.makings" s_Kinds_makings f fd) (T : Top K mg) (TC : Cl_Kinds K mg C) : FnOk P w K mg base CX0 1 f fd ["self"] (spKMak C) := by
  refine F.ok sc_Kinds_makings (fun vs H Q E h => ?_) (fun cdv A outer s H vs Q E hr h => ?_)
  · obtain ⟨x, md, leaf, M, ns, rfl, _⟩ := h
    rfl
  · obtain ⟨x, md, leaf, M, ns, rfl, ⟨dx, nt, kvs, hx, hd, hM, hn⟩, q⟩ := h
    refine ⟨_, pss_one (ps_ret (pe_callTy call_dictD (by rfl) T.b_dict (by decide +kernel) (pa_cons (pe_fld (pv 0) rfl) pa_nil))), ?_⟩
    exact ⟨_, rfl, x, C, dx, _, _, rfl, hx, TC.cl, TC.n_makings, kf_mak _ _ _, md, kvs, rfl, .inl hd, fun p np => q p kvs np hM⟩
def spKNam (C : Addr) : Sp := fun vs H Q _ => ∃ x md leaf M ns, vs = [.ref x] ∧ KindsAt C H x md leaf M ns ∧ ∀ p, H p = some (.tup (ns.map V.str)) → Q (.ref p) H
theorem ok_knam {C f : Addr} {fd : FuncData} (F : Fun K "names" "Kinds.names" s_Kinds_names f fd) (TC : Cl_Kinds K mg C) : FnOk P w K mg base CX0 1 f fd ["self"] (spKNam C) := by
  refine F.ok sc_Kinds_names (fun vs H Q E h => ?_) (fun cdv A outer s H vs Q E hr h => ?_)
  · obtain ⟨x, md, leaf, M, ns, rfl, _⟩ := h
    rfl
  · obtain ⟨x, md, leaf, M, ns, rfl, ⟨dx, nt, kvs, hx, hd, hM, hn⟩, q⟩ := h
    refine ⟨_, pss_one (ps_ret (pe_fld (pv 0) rfl)), ?_⟩
    exact ⟨_, rfl, x, C, dx, _, _, rfl, hx, TC.cl, TC.n_names, kf_names _ _ _, q nt hn⟩
/-! ### lines -/
theorem empty_app (a : Str) : Str.empty ++ a = a := by
  show (⟨#[] ++ a.cps⟩ : Str) = a
  rw [Array.empty_append]
theorem len_app (a b : Str) : (a ++ b).length = a.length + b.length := by
  show (a.cps ++ b.cps).size = _
  rw [Array.size_append]
  rfl
theorem join_short {e : Str} (he : e.length = 1) {zs : List Str} (h : ∀ z ∈ zs, z.length ≤ 8) : (Txt.join e zs).length ≤ 9 * zs.length := by
  rw [TL.join_eq]
  induction zs with
  | nil => exact Nat.zero_le _
  | cons x r ih =>
    have hx := h x List.mem_cons_self
    cases r with
    | nil =>
      show x.length ≤ _
      rw [List.length_cons]
      omega
    | cons y r =>
      have i := ih fun z hz => h z (List.mem_cons_of_mem _ hz)
      show (x ++ e ++ Str.join e (y :: r)).length ≤ _
      rw [len_app, len_app, he, List.length_cons (a := x)]
      omega
theorem join_sum {zs : List Str} (h : ∀ z ∈ zs, z.length ≤ 8) : (zs.map (·.length)).sum ≤ 8 * zs.length := by
  induction zs with
  | nil => exact Nat.zero_le _
  | cons x r ih =>
    have hx := h x List.mem_cons_self
    have i := ih fun z hz => h z (List.mem_cons_of_mem _ hz)
    rw [List.map_cons, List.sum_cons, List.length_cons]
    omega
/-- text_of names -/
def spText (K : PySem.W.Frag) : Sp := fun vs H Q _ => ∃ (p : Addr) (ps : List Str), vs = [V.ref p] ∧ SqT K H p (ps.map V.str) ∧ ps ≠ [] ∧ ps.length ≤ 3 ∧ (∀ z ∈ ps, z.length ≤ 8) ∧ Q (.str (Txt.join "+" ps)) H
theorem ok_text {f : Addr} {fd : FuncData} (F : Fun K "text_of" "text_of" s_text_of f fd) (T : Top K mg) : FnOk P w K mg base CX0 1 f fd ["names"] (spText K) := by
  refine F.ok sc_text_of (fun vs H Q E h => ?_) (fun cdv A outer s H vs Q E hr h => ?_)
  · obtain ⟨p, ps, rfl, _⟩ := h
    rfl
  · obtain ⟨p, ps, rfl, hp, hn, l3, l8, q⟩ := h
    refine ⟨_, pss_one (ps_ret (pe_ifExp (pt_truth (pv 0) (fun _ => rfl)) (pe_join pe_str (pv 0)) pe_str)), ?_⟩
    obtain ⟨z, r, rfl⟩ : ∃ z r, ps = z :: r := by
      cases ps with
      | nil => exact absurd rfl hn
      | cons z r => exact ⟨z, r, rfl⟩
    refine ⟨_, rfl, true, .inr (.inl ⟨_, hp, rfl⟩), ?_⟩
    show (if true = true then _ else _)
    rw [if_pos rfl]
    have ls := join_sum l8
    have e1 : ("+" : Str).length = 1 := rfl
    exact ⟨⟨_, rfl⟩, _, rfl, _, p, _, rfl, rfl, .inr hp, by rw [e1]; omega, q⟩
def spKLin (C : Addr) : Sp := fun vs H Q _ => ∃ x md leaf M ns, vs = [.ref x] ∧ KindsAt C H x md leaf M ns ∧ Vld leaf M ∧ ∀ p H', Same H H' → H' p = some (.tup ((linesK leaf M).map V.str)) → Q (.ref p) H'
abbrev NL : List Str := ["self", "made", "name"]
theorem ok_klin {C f : Addr} {fd : FuncData} (F : Fun K "lines" "Kinds.lines" s_Kinds_lines f fd) (T : Top K mg) (TC : Cl_Kinds K mg C) : FnOk P w K mg base CX0 2 f fd ["self"] (spKLin C) := by
  have ct : Cal P w K mg base 1 "text_of" ["names"] (spText K) := T.d_text_of.cal fun f fd F => ok_text F T
  refine F.ok sc_Kinds_lines (fun vs H Q E h => ?_) (fun cdv A outer s H vs Q E hr h => ?_)
  · obtain ⟨x, md, leaf, M, ns, rfl, _⟩ := h
    rfl
  · obtain ⟨x, md, leaf, M, ns, rfl, ⟨dx, nt, kvs, hx, hd, hM, hn⟩, hV, q⟩ := h
    have hu := hu_of hr
    refine ⟨_, pss_cons (ps_lock (ps_setLc (i := 1) (own := [("name", 2)]) (g := gName 2) (tt := tYes) (by rfl) sc_Kinds_lines.nd rfl rfl (sw_true rfl rfl rfl (by decide +kernel)) (pi_keys (pe_fld (pv 0) rfl))
          (blkOk_by (N := NL) (sc := defScope s_Kinds_lines) (by decide +kernel)) (fun _ _ _ _ _ => pg_name (i := 2) sc_Kinds_lines.nd rfl (.inl rfl)) (fun _ _ _ _ _ => pts_nil)
          (fun _ _ _ _ _ => pe_joinedN (.cons pe_str (.cons (pe_fmt (pv 2)) (.cons pe_str (.cons (pe_fmt (pe_cal ct hr (by rfl) (pa_cons (pe_dget hu (pe_fldK (K := K) (by exact rfl) (pv 0)) (pv 2) (fun _ _ => rfl)) pa_nil))) .nil)))))))
      (pss_one (ps_ret (pe_tup (pa_cons (pe_joinedN (.cons pe_str (.cons (pe_fmt (pe_fld (pv 0) rfl)) .nil))) (StX.pa_star (pv 1) pa_nil))))), ?_⟩
    have lM := hV.len
    have lk := hM.len
    refine ⟨md, _, hd, trivial, fun od => ?_⟩
    have nxm : x ≠ md := fun z => by
      rw [z, hd] at hx
      cases hx
    have hx1 : upd H md (.frz od (.dK kvs)) x = some (.ins C dx (kf leaf md nt)) := by
      rw [upd_ne nxm]
      exact hx
    refine ⟨_, rfl, x, C, dx, _, _, rfl, hx1, TC.cl, TC.n_makings, kf_mak _ _ _, md, od, rfl, .inl ⟨kvs, upd_same, fun D hD => ?_⟩⟩
    refine lc_it (g := gName 2) (tt := tYes) (vs := [2]) (σ := L2.start NL [.ref x]) walk_keys (fun j G => G D = some (.lst (((M.take j).map fun m => lineK m.1 m.2).map V.str)) ∧ Same (upd H md (.frz od (.dK kvs))) G) ⟨upd_same, same_new (Same.refl _) hD⟩ (fun j G _ hP => hP.2 _ _ upd_same) (fun j v G G' hj hP hy => ?_) (fun G hP => ?_)
    · obtain ⟨eD, sm⟩ := hP
      obtain ⟨rfl, k, v, hkv, rfl⟩ := hy
      obtain ⟨m, a, hm, rfl, rfl, ha⟩ := hM.at hkv
      have hmM := List.mem_of_getElem? hm
      obtain ⟨p1, p2, p3, p4⟩ := hV.parts m hmM
      have hpool : m.1 ∈ POOL := hV.keys _ (List.mem_map.mpr ⟨m, hmM, rfl⟩)
      have short : ∀ z ∈ m.2, z.length ≤ 8 := fun z hz => pool_len (hV.part hmM hz)
      have l1 := pool_len hpool
      have na : a ≠ md := ha.ne hd (fun _ => nofun)
      have ha1 : TupZ (upd H md (.frz od (.dK kvs))) a (m.2.map V.str) := ha.at fun o e => by rw [upd_ne na]; exact e
      have hv : valV kvs (Sum.inr m.1) = some (.ref a) := by
        have e4 : (kvs.map (·.1)).Nodup := by
          rw [hM.keys]
          exact List.Pairwise.map Sum.inr (fun a b h q => h (Sum.inr.inj q)) hV.nd
        exact val_nodup e4 (Sum.inr m.1, .ref a) (List.mem_of_getElem? hkv)
      have lj := join_short (e := "+") rfl short
      have ls := join_sum short
      refine ⟨rfl, ?_⟩
      have k5 : ("kind " : Str).length = 5 := rfl
      have k1 : (" " : Str).length = 1 := rfl
      have big : 1000 ≤ sizeLine := by decide
      refine ⟨_, rfl, by rw [empty_app]; omega, _, rfl, .inl ⟨m.1, rfl, by omega, _, rfl, by rw [empty_app, len_app]; omega, _, rfl, by rw [empty_app, len_app, len_app]; omega, ?_⟩⟩
      refine ⟨_, rfl, x, C, dx, _, _, rfl, sm _ _ hx1, TC.cl, TC.n_makings, kf_mak _ _ _, _, rfl, md, _, rfl, .inl ⟨kvs, Sum.inr m.1, .inr ⟨od, sm _ _ upd_same⟩, rfl, hv.symm⟩, a, m.2, rfl, (ha1.mono sm).sq, (fun q => by rw [q] at p2; exact absurd p2 (by decide)), p3, short, ?_⟩
      refine .inl ⟨_, rfl, by omega, _, rfl, by rw [empty_app, len_app, len_app, len_app]; omega, ?_⟩
      refine ⟨_, eD, ?_, ?_, fun b u e => by rw [upd_ne (ne_of_none e hD)]; exact sm b u e⟩
      · rw [List.length_map, List.length_map, List.length_take]
        exact Nat.lt_of_le_of_lt (Nat.le_trans (Nat.min_le_right _ _) lM) (by decide)
      · rw [upd_same, List.take_add_one, hm, List.map_append, List.map_append, empty_app]
        rfl
    obtain ⟨eD, sm⟩ := hP
    rw [lk, List.take_length] at eD
    have s1 := same_unlock hd sm
    have nD : D ≠ md := fun z => by
      rw [z, upd_same] at hD
      cases hD
    refine ⟨sm _ _ upd_same, ?_⟩
    have eD2 : upd G md (.dK kvs) D = some (.lst ((M.map fun m => lineK m.1 m.2).map V.str)) := by
      rw [upd_ne nD]
      exact eD
    generalize upd G md (.dK kvs) = H2 at s1 eD2
    have l5 : ("leaf " : Str).length = 5 := rfl
    have ll := pool_len hV.lf
    have big : 1000 ≤ sizeLine := by decide
    refine ⟨_, rfl, by rw [empty_app]; omega, _, rfl, x, C, dx, _, _, rfl, s1 _ _ hx, TC.cl, TC.n_leaf, kf_leaf _ _ _, .inl ⟨leaf, rfl, by omega, _, rfl, by rw [empty_app, len_app]; omega, ?_⟩⟩
    refine ⟨_, rfl, D, _, rfl, .inr (.inl (.inl eD2)), ?_, fun p np => ?_⟩
    · show (_ :: (_ ++ [])).length ≤ sizeLine
      rw [List.append_nil, List.length_cons, List.length_map, List.length_map]
      exact Nat.le_trans (show M.length + 1 ≤ 7 by omega) (by decide)
    refine q p _ (same_new s1 np) ?_
    rw [upd_same, List.append_nil, empty_app]
    rfl
end
end Kl

set_option maxRecDepth 100000
set_option maxHeartbeats 4000000
namespace Gx
open PySem PySem.Spec PyProof.Rows L2 SeqAt Mx
open AutoSeq1 (wpAny_loadPart')
/-! ### a dict is no text; data and dicts in a tuple -/
theorem str_eq_dict (b : Str) (u : Tok) (l : Addr) (dd : Option Addr) (sl : Array (Option Value)) (es : Array DictEntry) (ep : Nat) :
    Meets (Builtin.«str.__eq__» ⟨[.str b u, .ref l], []⟩) (fun _ R s => s.heap.get? l = some { cls := .type "dict", dict := dd, data := .dict es ep, slots := sl } ∧ R (.ok (.ret .notImplemented)) s) :=
  .of_wp fun prog w A R s h => by obtain ⟨hp, g, d, tk, os⟩ := s; obtain ⟨hl, h⟩ := h; wp_walk using wpAny_loadPart' hl, wpAny_load hl; exact ⟨_, rfl, h⟩
theorem dict_eq_str {prog : Program} {w : World} {A : Around} {E : Value → Shared → Prop} {s : Shared} {Q : Value → Shared → Prop} {a : Addr} {b : Str} {u : Tok} (da : s.TypeIs (.ref a) "dict") (h : Q .notImplemented s) :
    wpAny (model prog w) A (call (.builtin "dict.__eq__") [.ref a, .str b u]) Q E s := by
  refine wpAny_call_entry PySem.F.slot_dict_eq da PySem.F.entry_dict_eq ?_ (PySem.F.args_dict_eq_2 _ _)
  show wpAny _ _ (Builtin.Dict.dictSlotArgs "__eq__" ⟨[.ref a, .str b u], []⟩ >>= _) _ _ s
  refine wpAny_bind ?_
  unfold Builtin.Dict.dictSlotArgs
  refine wpAny_bind (wpAny_notOrdered_dict da ?_)
  show wpAny _ _ (pure (Value.ref a, Value.str b u)) _ _ s
  refine wpAny_pure ?_
  refine wpAny_bind (wpAny_isInstance (T := "str") (typeIs_str s b u) PySem.F.sub_str_dict ?_)
  simp only [Bool.not_false, if_true]
  exact wpAny_bind (wpAny_rule (wpAny_bind (wpAny_pure (wpAny_pure ⟨_, rfl, h⟩))))
section
variable {A : Around} {s : Shared}
theorem eqAt_str_dict {l : Addr} {ob : Obj} (b : Str) (u : Tok) (hl : s.heap.get? l = some ob) (hc : ob.cls = .type "dict") {es : Array DictEntry} {ep : Nat} (hde : ob.data = .dict es ep) (hu : A.units < cLine) : EqAt A s (.str b u) (.ref l) false := fun prog w E Q h => by
  unfold eqBool
  refine wpAny_holding ?_
  refine wpAny_ite_split (fun hab => absurd (eq_of_beq hab) nofun) (fun _ => ?_)
  obtain ⟨cls2, dd2, data2, sl2⟩ := ob
  simp only at hc hde
  subst hc hde
  refine wpAny_bind ?_
  exact rc_eq_decline_or (k := false) (typeIs_str s b u) ⟨_, hl, rfl⟩ (by decide) F.sub_dict_str F.slot_str_eq F.slot_dict_eq_refl
    (fun _ hq => call_meets F.slot_str_eq (typeIs_str s b u) F.entry_str_eq (F.args_str_eq_2 _ _) (str_eq_dict b u l dd2 sl2 es ep) ⟨hl, hq⟩)
    (fun _ hq => dict_eq_str ⟨_, hl, rfl⟩ hq)
    (fun _ hq => wpAny_of_eq (rfl : isSame (.str b u) (.ref l) = pure false) hq) (.inr hu) (wpAny_truthy_bool h)
end
section
variable {X : Cx}
theorem vals_mem : ∀ {zs : List Str} {its : List Value} {y : Value}, Vals (zs.map V.str) its → y ∈ its → ∃ z t, y = .str z t
  | [], _, _, .nil, h => nomatch h
  | z :: zs, _, y, .cons r t, h => by
    rcases List.mem_cons.mp h with rfl | h
    · obtain ⟨tk, e⟩ := r
      exact ⟨z, tk, e⟩
    · exact vals_mem t h
/-- x in a tuple of texts: data that are not deep, or a dict -/
def rInTx (K : PySem.W.Frag) : R2 := fun x y H Q => ∃ (p : Addr) (zs : List Str), y = .ref p ∧ SqT K H p (zs.map V.str) ∧ (∀ z ∈ zs, PyData.strOk z = true) ∧
  ((∃ d, Dp K H x d ∧ d.canLay0 = true ∧ d.depth ≤ 10 ∧ Q (.bl ((tD zs).any fun z => PyData.eqv z d)) H) ∨ ∃ a kvs, x = .ref a ∧ H a = some (.dK kvs) ∧ Q (.bl false) H)
theorem op_inTx (hu : X.A.units + 64 < cLine) : OpR X (compareOp .In) (rInTx X.K) := by
  intro pins s σ H x y v u Q I rx ry h
  obtain ⟨p, zs, rfl, hp, ok, h⟩ := h
  rcases h with ⟨d, hd, sd, dp, q⟩ | ⟨a, kvs, rfl, ea, q⟩
  · obtain ⟨as, r1⟩ := Dp.reads I d x v hd rx
    obtain ⟨bs, r2⟩ := Dp.reads I (.tuple (tD zs)) (.ref p) u (.tup hp (dp_texts zs)) ry
    exact SeqAt.in_tuple_reads r2 r1 (canLay_texts zs ok) sd (by omega) ⟨.bl _, H, I, rfl, q⟩
  · cases rx
    cases ry
    obtain ⟨its, rv, pl, hz⟩ := I.tuple hp
    obtain ⟨_, _, vs, _, hd⟩ := dk_of I.hok ea
    obtain ⟨ob, hb, hD⟩ := Heap.dictOf_iff.mp hd
    obtain ⟨es, ep, ex, ed, _⟩ := hD
    have hcb : ob.cls = .type "dict" := ex.1
    refine SeqAt.in_tupleAt (fun _ => false) pl (fun y hy => ?_) ⟨.bl false, H, I, ?_, q⟩
    · rw [List.mem_toArray] at hy
      obtain ⟨z, t, rfl⟩ := vals_mem rv hy
      exact eqAt_str_dict z t hb hcb ed (by show X.A.units + 1 < cLine; omega)
    · show Value.bool _ = Value.bool false
      rw [Array.any_eq_false' |>.mpr (fun _ _ => by simp)]
end
end Gx

set_option maxRecDepth 100000
set_option maxHeartbeats 4000000
namespace Kl
open PySem PySem.Spec PyProof.Rows L2 Gx Mx
section
variable {X : Cx}
/-! ### tuple(list): a tuple whose object is known; its index -/
theorem call_tupleZ : CallR X (.type "tuple") (fun xs H Q => ∃ p ys, xs = [.ref p] ∧ SqL X.K H p ys ∧ ∀ l H', TupZ H' l ys → H l = none → (∀ b, b ≠ l → H' b = H b) → Q (.ref l) H') := by
  intro pins s σ H xs us Q I r h
  obtain ⟨p, ys, rfl, hq, q⟩ := h
  obtain ⟨u, rfl, rx⟩ := vals1 r
  cases rx
  obtain ⟨its, r', pl, hz⟩ := I.list hq
  have hlen := r'.length
  refine call_tuple_list pl.isList (fun h' kp => ?_) (by simp only [List.size_toArray] <;> omega)
  have I1 : Inv X pins σ H { s with heap := h' } := I.kept (t' := s.toks) kp
  have I2 : Inv X pins σ (upd H h'.objs.size (.frz { cls := .type "tuple", data := .seq its.toArray } (.tup ys))) { s with heap := h'.push { cls := .type "tuple", data := .seq its.toArray } } :=
    I1.laid (t' := s.toks) (fun b o e => Heap.get?_push_of_some _ e) (Nat.le_refl _) (show ObjOk X.prog X.w _ _ _ (.frz _ (.tup ys)) from ⟨Heap.get?_push_size _ rfl, hz, its, r', IsTup.new _ _⟩)
  exact ⟨.ref h'.objs.size, _, I2, rfl, q _ _ ⟨_, rfl, upd_same⟩ (I1.hok.fresh (Nat.le_refl _)) (fun b n => upd_ne n)⟩
def tyTupZ (x : V) (H : Hp) : Prop := ∃ a xs, x = .ref a ∧ TupZ H a xs
theorem ty_tupZ : TyOk X "tuple" tyTupZ := by
  intro pins σ H s x v I r ty
  obtain ⟨a, xs, rfl, ob, hd, e⟩ := ty
  cases r
  obtain ⟨e1, hz, its, rv, o2, e2, hc, _⟩ := I.hok a _ e
  rw [e1] at e2
  cases e2
  refine ⟨⟨_, e1, hc⟩, fun b q => ?_⟩
  cases q
  exact ⟨_, e1, hd⟩
end
section
variable {P : Program} {w : World} {K : PySem.W.Frag} {mg : Str → Option Value} {base : Heap}
/-! ### users -/
def spKUse (C : Addr) : Sp := fun vs H Q _ => ∃ x md leaf M ns z, vs = [.ref x, .str z] ∧ KindsAt C H x md leaf M ns ∧ Vld leaf M ∧ z ∈ ns ∧ ∀ p H', Same H H' → H' p = some (.tup ((usersK M z).map V.str)) → Q (.ref p) H'
abbrev NU : List Str := ["self", "name", "user"]
theorem ok_kuse {C f : Addr} {fd : FuncData} (F : Fun K "users" "Kinds.users" s_Kinds_users f fd) (T : Top K mg) (TC : Cl_Kinds K mg C) : FnOk P w K mg base CX0 1 f fd ["self", "name"] (spKUse C) := by
  refine F.ok sc_Kinds_users (fun vs H Q E h => ?_) (fun cdv A outer s H vs Q E hr h => ?_)
  · obtain ⟨x, md, leaf, M, ns, z, rfl, _⟩ := h
    rfl
  · obtain ⟨x, md, leaf, M, ns, n, rfl, ⟨dx, nt, kvs, hx, hd, hM, hn⟩, hV, hin, q⟩ := h
    have hu := hu_of hr
    refine ⟨_, pss_cons (ps_if (pt_cmpR op_notIn_seq (pv 1) (pe_fld (pv 0) rfl) (by rfl)) (pss_one ps_never) pss_nil)
      (pss_one (ps_ret (pe_callTy call_tuple_of (by rfl) T.b_tuple (by decide +kernel) (pa_cons (pe_lock (pe_lc (own := [("user", 2)]) (g := gName 2) rfl sc_Kinds_users.nd (pi_keys (pe_fld (pv 0) rfl))
          (blkOk_by (N := NU) (sc := defScope s_Kinds_users) (by decide +kernel)) (fun _ _ _ _ _ => pg_name (i := 2) sc_Kinds_users.nd rfl (.inl rfl))
          (fun _ _ _ _ _ => pts_one (pt_cmpR (op_inSeqK (K := K) (by exact rfl)) (pv 1) (pe_dget hu (pe_fldK (K := K) (by exact rfl) (pv 0)) (pv 2) (fun _ _ => rfl)) (by rfl)))
          (fun _ _ _ _ _ => pv 2))) pa_nil)))), ?_⟩
    have lM := hV.len
    have lk := hM.len
    refine ⟨_, rfl, _, rfl, x, C, dx, _, _, rfl, hx, TC.cl, TC.n_names, kf_names _ _ _, nt, _, rfl, .inr (.inl (.inl hn)), rfl, flat_strs' ns, _, rfl, ?_⟩
    have e : inV (V.str n) (ns.map V.str) = true := by rw [inV_strs, decide_eq_true hin]
    simp only [e, if_true, Bool.not_true, Bool.false_eq_true, if_false]
    refine ⟨md, _, hd, trivial, fun od => ?_⟩
    have nxm : x ≠ md := fun z => by
      rw [z, hd] at hx
      cases hx
    have hx1 : upd H md (.frz od (.dK kvs)) x = some (.ins C dx (kf leaf md nt)) := by
      rw [upd_ne nxm]
      exact hx
    refine ⟨_, rfl, x, C, dx, _, _, rfl, hx1, TC.cl, TC.n_makings, kf_mak _ _ _, md, od, rfl, .inl ⟨kvs, upd_same, fun D hD => ?_⟩⟩
    refine lc_it (g := gName 2) (vs := [2]) (σ := L2.start NU [.ref x, .str n]) walk_keys (fun j G => G D = some (.lst ((usersK (M.take j) n).map V.str)) ∧ Same (upd H md (.frz od (.dK kvs))) G) ⟨upd_same, same_new (Same.refl _) hD⟩ (fun j G _ hP => hP.2 _ _ upd_same) (fun j v G G' hj hP hy => ?_) (fun G hP => ?_)
    · obtain ⟨eD, sm⟩ := hP
      obtain ⟨rfl, k, v, hkv, rfl⟩ := hy
      obtain ⟨m, a, hm, rfl, rfl, ha⟩ := hM.at hkv
      have hmM := List.mem_of_getElem? hm
      have na : a ≠ md := ha.ne hd (fun _ => nofun)
      have ha1 : TupZ (upd H md (.frz od (.dK kvs))) a (m.2.map V.str) := ha.at fun o e => by rw [upd_ne na]; exact e
      have hv : valV kvs (Sum.inr m.1) = some (.ref a) := by
        have e4 : (kvs.map (·.1)).Nodup := by
          rw [hM.keys]
          exact List.Pairwise.map Sum.inr (fun a b h q => h (Sum.inr.inj q)) hV.nd
        exact val_nodup e4 (Sum.inr m.1, .ref a) (List.mem_of_getElem? hkv)
      refine ⟨rfl, _, rfl, _, rfl, x, C, dx, _, _, rfl, sm _ _ hx1, TC.cl, TC.n_makings, kf_mak _ _ _, _, rfl, md, _, rfl, .inl ⟨kvs, Sum.inr m.1, .inr ⟨od, sm _ _ upd_same⟩, rfl, hv.symm⟩, a, _, rfl, .inr (ha1.mono sm).sq, rfl, flat_strs' m.2, _, rfl, ?_⟩
      have et : M.take (j + 1) = M.take j ++ [m] := by
        rw [List.take_add_one, hm]
        rfl
      have eu : usersK (M.take (j + 1)) n = usersK (M.take j) n ++ (if n ∈ m.2 then [m.1] else []) := by
        unfold usersK
        rw [et, List.filter_append, List.map_append]
        by_cases c : n ∈ m.2
        · simp [c]
        · simp [c]
      have e2 : inV (V.str n) (m.2.map V.str) = decide (n ∈ m.2) := inV_strs n m.2
      by_cases c : n ∈ m.2
      · rw [if_pos c] at eu
        simp only [e2, decide_eq_true c, Bool.false_eq_true, if_false, if_true]
        refine ⟨_, rfl, _, eD, ?_, ?_, fun b u e => by rw [upd_ne (ne_of_none e hD)]; exact sm b u e⟩
        · rw [List.length_map]
          unfold usersK
          rw [List.length_map]
          exact Nat.lt_of_le_of_lt (Nat.le_trans (List.length_filter_le _ _) (by rw [List.length_take]; omega)) (show 7 < sizeLine by decide)
        · rw [upd_same, eu, List.map_append]
          rfl
      · rw [if_neg c, List.append_nil] at eu
        simp only [e2, decide_eq_false c, Bool.false_eq_true, if_false]
        rw [eu]
        exact ⟨eD, sm⟩
    obtain ⟨eD, sm⟩ := hP
    rw [lk, List.take_length] at eD
    have s1 := same_unlock hd sm
    have nD : D ≠ md := fun z => by
      rw [z, upd_same] at hD
      cases hD
    refine ⟨sm _ _ upd_same, D, _, rfl, .inl ⟨.inl (.inl (by rw [upd_ne nD]; exact eD)), fun l nl => ?_⟩⟩
    exact q l _ (same_new s1 nl) upd_same
/-! ### in, [..], len, str -/
def spKHas (K : PySem.W.Frag) (C : Addr) : Sp := fun vs H Q _ => ∃ (x md : Addr) (leaf : Str) (M : Mak) (ns : List Str) (v : V), vs = [V.ref x, v] ∧ KindsAt C H x md leaf M ns ∧ (∀ z ∈ ns, PyData.strOk z = true) ∧
  ((∃ d, Dp K H v d ∧ d.canLay0 = true ∧ d.depth ≤ 10 ∧ Q (.bl ((tD ns).any fun z => PyData.eqv z d)) H) ∨ ∃ a kvs, v = .ref a ∧ H a = some (.dK kvs) ∧ Q (.bl false) H)
theorem ok_khas {C f : Addr} {fd : FuncData} (F : Fun K "__contains__" "Kinds.__contains__" s_Kinds_contains f fd) (T : Top K mg) (TC : Cl_Kinds K mg C) : FnOk P w K mg base CX0 1 f fd ["self", "value"] (spKHas K C) := by
  refine F.ok sc_Kinds_contains (fun vs H Q E h => ?_) (fun cdv A outer s H vs Q E hr h => ?_)
  · obtain ⟨x, md, leaf, M, ns, v, rfl, _⟩ := h
    rfl
  · obtain ⟨x, md, leaf, M, ns, v, rfl, ⟨dx, nt, kvs, hx, hd, hM, hn⟩, ok, q⟩ := h
    have hu := hu_of hr
    refine ⟨_, pss_one (ps_ret (pe_cmpR (op_inTx hr.units) (pv 1) (pe_fld (pv 0) rfl) (by rfl))), ?_⟩
    exact ⟨_, rfl, _, rfl, x, C, dx, _, _, rfl, hx, TC.cl, TC.n_names, kf_names _ _ _, nt, ns, rfl, .inl (.inl hn), ok, q⟩
def spKGet (C : Addr) : Sp := fun vs H Q _ => ∃ (x md : Addr) (leaf : Str) (M : Mak) (ns : List Str) (z : Str), vs = [V.ref x, .str z] ∧ KindsAt C H x md leaf M ns ∧ z ∈ ns ∧
  ∀ p H', Same H H' → ((∃ ps, lookM M z = some ps ∧ TupZ H' p (ps.map V.str)) ∨ (lookM M z = none ∧ H' p = some (.tup []))) → Q (.ref p) H'
theorem ok_kget {C f : Addr} {fd : FuncData} (F : Fun K "__getitem__" "Kinds.__getitem__" s_Kinds_getitem f fd) (T : Top K mg) (TC : Cl_Kinds K mg C) : FnOk P w K mg base CX0 1 f fd ["self", "name"] (spKGet C) := by
  refine F.ok sc_Kinds_getitem (fun vs H Q E h => ?_) (fun cdv A outer s H vs Q E hr h => ?_)
  · obtain ⟨x, md, leaf, M, ns, z, rfl, _⟩ := h
    rfl
  · obtain ⟨x, md, leaf, M, ns, z, rfl, ⟨dx, nt, kvs, hx, hd, hM, hn⟩, hz, q⟩ := h
    have hu := hu_of hr
    refine ⟨_, pss_cons (ps_if (pt_cmpR op_notIn_seq (pv 1) (pe_fld (pv 0) rfl) (by rfl)) (pss_one ps_never) pss_nil)
      (pss_one (ps_ret (pe_dget2 hu (pe_fld (pv 0) rfl) (pv 1) (pe_tup pa_nil) (by constructor <;> rfl)))), ?_⟩
    refine ⟨_, rfl, _, rfl, x, C, dx, _, _, rfl, hx, TC.cl, TC.n_names, kf_names _ _ _, nt, _, rfl, .inr (.inl (.inl hn)), rfl, flat_strs' ns, _, rfl, ?_⟩
    have e : inV (V.str z) (ns.map V.str) = true := by rw [inV_strs, decide_eq_true hz]
    simp only [e, if_true, Bool.not_true, Bool.false_eq_true, if_false]
    refine ⟨_, rfl, x, C, dx, _, _, rfl, hx, TC.cl, TC.n_makings, kf_mak _ _ _, md, rfl, .inl ⟨kvs, .inl hd⟩, _, rfl, Nat.zero_le _, fun p np => ?_⟩
    have s1 : Same H (upd H p (.tup [])) := same_new (Same.refl H) np
    have hd1 := s1 _ _ hd
    rcases hM.get z with ⟨e1, e2⟩ | ⟨ps, a, e1, e2, e3⟩
    · refine ⟨none, .inl ⟨kvs, Sum.inr z, .inl hd1, rfl, e2.symm⟩, ?_⟩
      exact q p _ s1 (.inr ⟨e1, upd_same⟩)
    · refine ⟨some (.ref a), .inl ⟨kvs, Sum.inr z, .inl hd1, rfl, e2.symm⟩, ?_⟩
      exact q a _ s1 (.inl ⟨ps, e1, e3.mono s1⟩)
def spKLen (C : Addr) : Sp := fun vs H Q _ => ∃ (x md : Addr) (leaf : Str) (M : Mak) (ns : List Str), vs = [V.ref x] ∧ KindsAt C H x md leaf M ns ∧ Q (.int (ns.length : Nat)) H
theorem ok_klen {C f : Addr} {fd : FuncData} (F : Fun K "__len__" "Kinds.__len__" s_Kinds_len f fd) (T : Top K mg) (TC : Cl_Kinds K mg C) : FnOk P w K mg base CX0 1 f fd ["self"] (spKLen C) := by
  refine F.ok sc_Kinds_len (fun vs H Q E h => ?_) (fun cdv A outer s H vs Q E hr h => ?_)
  · obtain ⟨x, md, leaf, M, ns, rfl, _⟩ := h
    rfl
  · obtain ⟨x, md, leaf, M, ns, rfl, ⟨dx, nt, kvs, hx, hd, hM, hn⟩, q⟩ := h
    refine ⟨_, pss_one (ps_ret (pe_callB call_len_seq (by rfl) T.b_len PySem.boot_len (pa_cons (pe_fld (pv 0) rfl) pa_nil))), ?_⟩
    refine ⟨_, rfl, x, C, dx, _, _, rfl, hx, TC.cl, TC.n_names, kf_names _ _ _, nt, _, rfl, .inr (.inl (.inl hn)), ?_⟩
    rw [List.length_map]
    exact q
def strK (n : Nat) (leaf : Str) : Str := ((toString (n : Int) : Str) ++ " kinds, leaf ") ++ leaf
theorem strK_len {n : Nat} (h : n ≤ 6) : ((toString (n : Int) : Str)).length ≤ 8 := by
  have e : (List.range 7).all (fun n => decide (((toString (n : Int) : Str)).length ≤ 8)) = true := by decide +kernel
  exact of_decide_eq_true (List.all_eq_true.mp e n (List.mem_range.mpr (by omega)))
theorem log_six {n : Nat} (h : n ≤ 6) : ((n : Int)).natAbs.log2 < 1920 := by
  have e : (List.range 7).all (fun n => decide (((n : Int)).natAbs.log2 < 1920)) = true := by decide +kernel
  exact of_decide_eq_true (List.all_eq_true.mp e n (List.mem_range.mpr (by omega)))
def spKStr (C : Addr) : Sp := fun vs H Q _ => ∃ (x md : Addr) (leaf : Str) (M : Mak) (ns : List Str), vs = [V.ref x] ∧ KindsAt C H x md leaf M ns ∧ ns.length ≤ 6 ∧ leaf.length ≤ 8 ∧ Q (.str (strK ns.length leaf)) H
theorem ok_kstr {C f : Addr} {fd : FuncData} (F : Fun K "__str__" "Kinds.__str__" s_Kinds_str f fd) (T : Top K mg) (TC : Cl_Kinds K mg C) : FnOk P w K mg base CX0 1 f fd ["self"] (spKStr C) := by
  refine F.ok sc_Kinds_str (fun vs H Q E h => ?_) (fun cdv A outer s H vs Q E hr h => ?_)
  · obtain ⟨x, md, leaf, M, ns, rfl, _⟩ := h
    rfl
  · obtain ⟨x, md, leaf, M, ns, rfl, ⟨dx, nt, kvs, hx, hd, hM, hn⟩, l6, l8, q⟩ := h
    refine ⟨_, pss_one (ps_ret (pe_joinedN (.cons (pe_fmt (pe_callB call_len_seq (by rfl) T.b_len PySem.boot_len (pa_cons (pe_fld (pv 0) rfl) pa_nil))) (.cons pe_str (.cons (pe_fmt (pe_fld (pv 0) rfl)) .nil))))), ?_⟩
    refine ⟨_, rfl, x, C, dx, _, _, rfl, hx, TC.cl, TC.n_names, kf_names _ _ _, nt, _, rfl, .inr (.inl (.inl hn)), .inr ⟨(ns.length : Int), by rw [List.length_map], log_six l6, ?_⟩⟩
    have k14 : (" kinds, leaf " : Str).length = 13 := rfl
    have big : 1000 ≤ sizeLine := by decide
    have e8 := strK_len l6
    refine ⟨_, rfl, by rw [empty_app]; omega, _, rfl, by rw [empty_app, len_app]; omega, _, rfl, x, C, dx, _, _, rfl, hx, TC.cl, TC.n_leaf, kf_leaf _ _ _, .inl ⟨leaf, rfl, by omega, _, rfl, by rw [empty_app, len_app, len_app]; omega, ?_⟩⟩
    rw [empty_app]
    exact q
end
end Kl

set_option maxRecDepth 100000
set_option maxHeartbeats 4000000
namespace Kl
open PySem PySem.Spec PyProof.Rows L2 Gx Mx
/-! ### equal makings -/
def eqB (M N : Mak) : Bool := M.length == N.length && M.all fun m => decide (lookM N m.1 = some m.2)
theorem sub_back : ∀ {xs ys : List Str}, xs.Nodup → (∀ z ∈ xs, z ∈ ys) → ys.length ≤ xs.length → ∀ z ∈ ys, z ∈ xs
  | [], ys, _, _, hl, z, hz => by
    have e : ys = [] := List.eq_nil_of_length_eq_zero (Nat.le_zero.mp hl)
    rw [e] at hz
    exact hz
  | x :: xs, ys, nd, hs, hl, z, hz => by
    have nd' := List.nodup_cons.mp nd
    have hx : x ∈ ys := hs x List.mem_cons_self
    by_cases e : z = x
    · rw [e]
      exact List.mem_cons_self
    · refine List.mem_cons_of_mem _ (sub_back nd'.2 (ys := ys.erase x) (fun y hy => ?_) ?_ z ((List.mem_erase_of_ne e).mpr hz))
      · exact (List.mem_erase_of_ne (fun q => nd'.1 (by rw [← q]; exact hy))).mpr (hs y (List.mem_cons_of_mem _ hy))
      · rw [List.length_erase_of_mem hx]
        rw [List.length_cons] at hl
        omega
theorem eqB_iff {M N : Mak} (hM : (keysOf M).Nodup) (hN : (keysOf N).Nodup) : eqB M N = true ↔ ∀ z, lookM M z = lookM N z := by
  unfold eqB
  rw [Bool.and_eq_true, beq_iff_eq, List.all_eq_true]
  constructor
  · rintro ⟨hl, ha⟩ z
    have sub : ∀ z ∈ keysOf M, z ∈ keysOf N := fun z hz => by
      obtain ⟨m, hm, rfl⟩ := List.mem_map.mp hz
      exact List.mem_map.mpr ⟨(m.1, m.2), lookM_some (of_decide_eq_true (ha m hm)), rfl⟩
    have back := sub_back hM sub (by unfold keysOf; rw [List.length_map, List.length_map]; omega)
    by_cases hz : z ∈ keysOf M
    · obtain ⟨m, hm, rfl⟩ := List.mem_map.mp hz
      rw [lookM_mem hM hm, of_decide_eq_true (ha m hm)]
    · rw [lookM_none.mpr hz, lookM_none.mpr fun q => hz (back z q)]
  · intro h
    have k : ∀ z, z ∈ keysOf M ↔ z ∈ keysOf N := fun z => by
      constructor
      · intro q
        obtain ⟨ps, e⟩ := lookM_in q
        rw [h] at e
        exact List.mem_map.mpr ⟨_, lookM_some e, rfl⟩
      · intro q
        obtain ⟨ps, e⟩ := lookM_in q
        rw [← h] at e
        exact List.mem_map.mpr ⟨_, lookM_some e, rfl⟩
    refine ⟨?_, fun m hm => decide_eq_true ((h m.1).symm.trans (lookM_mem hM hm))⟩
    have := ((List.perm_ext_iff_of_nodup hM hN).mpr k).length_eq
    unfold keysOf at this
    rwa [List.length_map, List.length_map] at this
theorem eqB_ord {M M' N N' : Mak} (hM : (keysOf M).Nodup) (hN : (keysOf N).Nodup) (o : OrdOf M M') (o' : OrdOf N N') : eqB M' N' = eqB M N := by
  rw [Bool.eq_iff_iff, eqB_iff o.nd o'.nd, eqB_iff hM hN]
  constructor
  · intro h z
    rw [← o.look, ← o'.look]
    exact h z
  · intro h z
    rw [o.look, o'.look]
    exact h z
theorem hits {K : PySem.W.Frag} {H : Hp} {ls : List (Key × V)} {N : Mak} (hN : MakAt H ls N) : ∀ {ks : List (Key × V)} {M : Mak}, MakAt H ks M → M.length ≤ 1000 → (∀ m ∈ M, SeqAt.shaped (.tuple (tD m.2)) = true) → (∀ m ∈ N, SeqAt.shaped (.tuple (tD m.2)) = true) →
    HitsV K H ls ks (M.all fun m => decide (lookM N m.1 = some m.2))
  | _, _, .nil, _, _, _ => .nil
  | kv :: ks, m :: M, .cons h t, hl, hs, hs' => by
    obtain ⟨h1, a, h2, h3⟩ := h
    have ih := hits (K := K) hN t (by rw [List.length_cons] at hl; omega) (fun m hm => hs m (List.mem_cons_of_mem _ hm)) hs'
    rw [List.all_cons]
    rcases hN.get m.1 with ⟨e1, e2⟩ | ⟨ps, b, e1, e2, e3⟩
    · rw [e1, show decide ((none : Option (List Str)) = some m.2) = false from rfl, Bool.false_and]
      exact .miss (by rw [h1]; exact e2)
    · have e : decide (lookM N m.1 = some m.2) = PyData.eqv (.tuple (tD m.2)) (.tuple (tD ps)) := by
        rw [PyData.eqv, eqv_texts, e1, Bool.eq_iff_iff, decide_eq_true_eq, decide_eq_true_eq]
        constructor
        · intro q
          exact (Option.some.inj q).symm
        · intro q
          rw [q]
      rw [e]
      exact .hit (by rw [h1]; exact e2) (by rw [h2]; exact .tup h3.sq (dp_texts _)) (.tup e3.sq (dp_texts _)) (hs m List.mem_cons_self) (hs' (m.1, ps) (lookM_some e1)) ih
section
variable {P : Program} {w : World} {K : PySem.W.Frag} {mg : Str → Option Value} {base : Heap}
/-! ### losers -/
theorem parted_run {H : Hp} {p : Addr} {ps : List Str} {t : Str} {Q : VK} (hp : SqT K H p (ps.map V.str)) (ht : t ∈ ps) (l3 : ps.length ≤ 1000) (q : ∀ r H', Same H H' → SqT K H' r ((partedK ps t).map V.str) → Q (.ref r) H') :
    rSlA K (.ref p) none (some (ps.idxOf t : Nat)) H fun x H1 => ∀ H2, Same H1 H2 → rSlA K (.ref p) (some (((ps.idxOf t : Nat) : Int) + 1)) none H2 fun y H3 => rCatA K x y H3 Q := by
  have hj : ps.idxOf t < ps.length := List.idxOf_lt_length_of_mem ht
  have ln : (ps.map V.str).length = ps.length := List.length_map _
  have big : 1000 < sizeLine := by decide
  generalize hjj : ps.idxOf t = j at hj
  have e1 : HT.sIx (ps.map V.str).length (ps.map V.str).length (some (j : Int)) = j := by
    rw [HT.sIx_nat, ln]
    omega
  have e2 : HT.sIx (ps.map V.str).length 0 (some ((j : Int) + 1)) = j + 1 := by
    rw [show ((j : Int) + 1) = ((j + 1 : Nat) : Int) by omega, HT.sIx_nat, ln]
    omega
  have c1 : cutV (ps.map V.str) none (some (j : Int)) = (ps.take j).map V.str := by
    unfold cutV
    rw [e1, HT.sIx_none, List.drop_zero, List.map_take]
    rfl
  have c2 : cutV (ps.map V.str) (some ((j : Int) + 1)) none = (ps.drop (j + 1)).map V.str := by
    unfold cutV
    rw [e2, HT.sIx_none, List.map_drop]
    exact List.take_of_length_le (by rw [List.length_drop]; omega)
  have hpt : partedK ps t = ps.take j ++ ps.drop (j + 1) := by
    unfold partedK
    rw [hjj]
  refine ⟨p, _, rfl, hp, fun h => ?_, fun _ p1 n1 => ?_⟩
  · rw [e1, ln] at h
    omega
  rw [c1]
  intro H2 s2
  have s1 : Same H H2 := fun b u e => s2 _ _ (same_new (Same.refl H) n1 b u e)
  have x1 : H2 p1 = some (.tup ((ps.take j).map V.str)) := s2 _ _ upd_same
  have hp2 : SqT K H2 p (ps.map V.str) := by
    rcases hp with (h | ⟨o, h⟩) | h
    · exact .inl (.inl (s1 _ _ h))
    · exact .inl (.inr ⟨o, s1 _ _ h⟩)
    · exact .inr h
  refine ⟨p, _, rfl, hp2, fun h => ?_, fun _ p2 n2 => ?_⟩
  · rw [e2] at h
    omega
  rw [c2]
  have s3 : Same H (upd H2 p2 (.tup ((ps.drop (j + 1)).map V.str))) := same_new s1 n2
  have x2 : (upd H2 p2 (.tup ((ps.drop (j + 1)).map V.str))) p1 = some (.tup ((ps.take j).map V.str)) := by
    rw [upd_ne (ne_of_none x1 n2)]
    exact x1
  refine ⟨p1, p2, _, _, rfl, rfl, .inl (.inl x2), .inl (.inl upd_same), ?_, fun h => ?_, fun h h' => ?_, fun h h' p3 n3 => ?_⟩
  · rw [List.length_map, List.length_map, List.length_take, List.length_drop]
    omega
  · have e4 : (partedK ps t).map V.str = (ps.drop (j + 1)).map V.str := by rw [hpt, List.map_append, h, List.nil_append]
    refine q _ _ s3 ?_
    rw [e4]
    exact .inl (.inl upd_same)
  · have e4 : (partedK ps t).map V.str = (ps.take j).map V.str := by rw [hpt, List.map_append, h', List.append_nil]
    refine q _ _ s3 ?_
    rw [e4]
    exact .inl (.inl x2)
  · refine q _ _ (same_new s3 n3) ?_
    rw [hpt, List.map_append]
    exact .inl (.inl upd_same)
theorem slA_mono {H : Hp} {x : V} {lo hi : Option Int} {Q Q' : VK} (h : rSlA K x lo hi H Q) (m : ∀ y H', Q y H' → Q' y H') : rSlA K x lo hi H Q' := by
  obtain ⟨a, xs, rfl, hs, h1, h2⟩ := h
  exact ⟨a, xs, rfl, hs, fun e => m _ _ (h1 e), fun e p n => m _ _ (h2 e p n)⟩
/-- .index of a text that is there -/
theorem idx_no {ps : List Str} {t : Str} {m : Nat} (h : m < ps.idxOf t) : ps[m]? ≠ some t := by
  intro e
  obtain ⟨hm, e⟩ := List.getElem?_eq_some_iff.mp e
  have n : (ps[m] == t) = false := List.not_of_lt_findIdx (p := (· == t)) h
  rw [e, beq_self_eq_true] at n
  cases n
theorem idx_at {ps : List Str} {t : Str} (h : t ∈ ps) : ps[ps.idxOf t]? = some t := by
  have hl := List.idxOf_lt_length_of_mem h
  rw [List.getElem?_eq_getElem hl]
  exact congrArg some (List.getElem_idxOf hl)
def spKLos (K : PySem.W.Frag) (C : Addr) : Sp := fun vs H Q _ => ∃ (x md : Addr) (leaf : Str) (M : Mak) (ns : List Str) (z t : Str) (ps : List Str), vs = [V.ref x, .str z, .str t] ∧ KindsAt C H x md leaf M ns ∧ z ∈ ns ∧ lookM M z = some ps ∧ t ∈ ps ∧ ps.length ≤ 3 ∧
  ∀ p H', Same H H' → SqT K H' p ((partedK ps t).map V.str) → Q (.ref p) H'
theorem ok_klos {C f : Addr} {fd : FuncData} (F : Fun K "losers" "Kinds.losers" s_Kinds_losers f fd) (T : Top K mg) (TC : Cl_Kinds K mg C) : FnOk P w K mg base CX0 3 f fd ["self", "name", "winner"] (spKLos K C) := by
  have cg : CalM P w K mg base C "__getitem__" 1 ["self", "name"] (spKGet C) := TC.m_getitem.cal fun f fd F => ok_kget F T TC
  refine F.ok sc_Kinds_losers (fun vs H Q E h => ?_) (fun cdv A outer s H vs Q E hr h => ?_)
  · obtain ⟨x, md, leaf, M, ns, z, t, ps, rfl, _⟩ := h
    rfl
  · obtain ⟨x, md, leaf, M, ns, z, t, ps, rfl, hK, hz, hl, ht, l3, q⟩ := h
    refine ⟨_, pss_cons (ps_set (i := 3) sc_Kinds_losers.nd rfl (.inl rfl) (pe_ixM cg hr (pv 0) (pv 1) (fun _ _ => rfl)))
      (pss_cons (ps_if (pt_cmpR op_notIn_seq (pv 2) (pv 3) (by rfl)) (pss_one ps_never) pss_nil)
      (pss_cons (ps_set (i := 4) sc_Kinds_losers.nd rfl (.inl rfl) (pe_mG ty_tupZ PySem.F.plainAttrs_tuple PySem.F.slot_tuple_index PySem.F.type_tuple_index mt_tup_index (pv 3) (pa_cons (pv 2) pa_nil)))
      (pss_one (ps_ret (pe_op op_catA (pe_slice sl_tupA (pv 3) po_none (po_some (pv 4))) (pe_slice sl_tupA (pv 3) (po_some (pe_op op_add (pv 4) pe_int)) po_none)))))), ?_⟩
    obtain ⟨dx, nt, kvs, hx, hd, hM, hn⟩ := id hK
    refine ⟨_, rfl, _, rfl, x, dx, _, rfl, hx, x, md, leaf, M, ns, z, rfl, hK, hz, fun p H1 s1 hp => ?_⟩
    have hp : TupZ H1 p (ps.map V.str) := by
      rcases hp with ⟨ps', e, hp⟩ | ⟨e, _⟩
      · rw [hl] at e
        cases e
        exact hp
      · rw [hl] at e
        cases e
    have e : inV (V.str t) (ps.map V.str) = true := by rw [inV_strs, decide_eq_true ht]
    refine ⟨_, rfl, _, rfl, p, _, rfl, .inr hp.sq, rfl, flat_strs' ps, _, rfl, ?_⟩
    simp only [e, if_true, Bool.not_true, Bool.false_eq_true, if_false]
    refine ⟨_, rfl, ⟨p, _, rfl, hp⟩, _, rfl, p, ps, t, ps.idxOf t, rfl, rfl, hp.sq, idx_at ht, fun m hm => idx_no hm, ?_⟩
    have r := parted_run (Q := Q) hp.sq ht (by omega) (fun r H' s' hr' => q r H' (fun b u e => s' _ _ (s1 _ _ e)) hr')
    refine ⟨_, rfl, _, rfl, _, rfl, slA_mono r fun y H2 h => ?_⟩
    exact ⟨_, rfl, _, rfl, _, _, rfl, rfl, _, rfl, h H2 (Same.refl H2)⟩
/-! ### == -/
theorem hu66_of {A : Around} {k : Nat} (hr : Room k A) : A.units + 66 < cLine := by
  have := hr.un
  omega
theorem texts_shaped : ∀ (zs : List Str), (∀ z ∈ zs, z ∈ POOL) → zs.length ≤ 3 → SeqAt.shaped (.tuple (tD zs)) = true
  | [], _, _ => by decide +kernel
  | [a], h, _ => by
    have e : POOL.all (fun a => SeqAt.shaped (.tuple (tD [a]))) = true := by decide +kernel
    exact List.all_eq_true.mp e a (h a List.mem_cons_self)
  | [a, b], h, _ => by
    have e : POOL.all (fun a => POOL.all fun b => SeqAt.shaped (.tuple (tD [a, b]))) = true := by decide +kernel
    exact List.all_eq_true.mp (List.all_eq_true.mp e a (h a (by simp))) b (h b (by simp))
  | [a, b, c], h, _ => by
    have e : POOL.all (fun a => POOL.all fun b => POOL.all fun c => SeqAt.shaped (.tuple (tD [a, b, c]))) = true := by decide +kernel
    exact List.all_eq_true.mp (List.all_eq_true.mp (List.all_eq_true.mp e a (h a (by simp))) b (h b (by simp))) c (h c (by simp))
  | a :: b :: c :: d :: r, _, hl => by simp at hl
theorem Vld.shaped {leaf : Str} {M : Mak} (v : Vld leaf M) : ∀ m ∈ M, SeqAt.shaped (.tuple (tD m.2)) = true := fun m hm =>
  texts_shaped m.2 (fun z hz => v.part hm hz) (v.parts m hm).2.2.1
def spKEq (K : PySem.W.Frag) (C : Addr) : Sp := fun vs H Q _ => ∃ (x md : Addr) (leaf : Str) (M : Mak) (ns : List Str) (y : V), vs = [V.ref x, y] ∧ KindsAt C H x md leaf M ns ∧ Vld leaf M ∧
  ((∃ (x' md' : Addr) (leaf' : Str) (N : Mak) (ns' : List Str), y = .ref x' ∧ KindsAt C H x' md' leaf' N ns' ∧ Vld leaf' N ∧ Q (.bl (decide (leaf = leaf') && eqB M N)) H) ∨
    ∃ t, TyX K H y t ∧ PySem.W.kitOne K t (.ref C) = some false ∧ Q (.bl false) H)
theorem ok_keq {C f : Addr} {fd : FuncData} (F : Fun K "__eq__" "Kinds.__eq__" s_Kinds_eq f fd) (T : Top K mg) (TC : Cl_Kinds K mg C) : FnOk P w K mg base CX0 1 f fd ["self", "other"] (spKEq K C) := by
  refine F.ok sc_Kinds_eq (fun vs H Q E h => ?_) (fun cdv A outer s H vs Q E hr h => ?_)
  · obtain ⟨x, md, leaf, M, ns, y, rfl, _⟩ := h
    rfl
  · obtain ⟨x, md, leaf, M, ns, y, rfl, ⟨dx, nt, kvs, hx, hd, hM, hn⟩, hV, q⟩ := h
    have hu := hu_of hr
    refine ⟨_, pss_one (ps_ret (pe_and (pe_callB call_isi (by rfl) T.b_isinstance (by decide +kernel) (pa_cons (pv 1) (pa_cons (pe_glob (v := .ref C) (by rfl) TC.gC rfl) pa_nil)))
      (pe_and (pe_cmpR op_eq (pe_fld (pv 0) rfl) (pe_fld (pv 1) rfl) (nomark _)) (pe_one (pe_cmpR (op_eqDX (hu66_of hr)) (pe_fld (pv 0) rfl) (pe_fld (pv 1) rfl) (nomark _)))))), ?_⟩
    rcases q with ⟨x', md', leaf', N, ns', rfl, ⟨dx', nt', kvs', hx', hd', hN, hn'⟩, hV', q⟩ | ⟨t, ty, kt, q⟩
    · refine ⟨_, rfl, _, _, .ref C, .ref C, true, rfl, .own C, .base (.ins hx' TC.cl TC.ca TC.cg TC.ct TC.ob), TC.kit, true, rfl, ?_⟩
      rw [if_pos rfl]
      refine ⟨_, rfl, x, C, dx, _, _, rfl, hx, TC.cl, TC.n_leaf, kf_leaf _ _ _, _, rfl, x', C, dx', _, _, rfl, hx', TC.cl, TC.n_leaf, kf_leaf _ _ _, rfl, _, rfl, ?_⟩
      have ed : decide (V.str leaf = V.str leaf') = decide (leaf = leaf') := by
        rw [Bool.eq_iff_iff, decide_eq_true_eq, decide_eq_true_eq]
        exact ⟨fun q => V.str.inj q, fun q => by rw [q]⟩
      rw [ed]
      by_cases e : leaf = leaf'
      · rw [decide_eq_true e, if_pos rfl]
        rw [decide_eq_true e, Bool.true_and] at q
        refine ⟨_, rfl, x, C, dx, _, _, rfl, hx, TC.cl, TC.n_makings, kf_mak _ _ _, _, rfl, x', C, dx', _, _, rfl, hx', TC.cl, TC.n_makings, kf_mak _ _ _, md, md', kvs, kvs', _, rfl, rfl, hd, hd', fun _ => hits hN hM (by have := hV.len; omega) hV.shaped hV'.shaped, ?_⟩
        rw [hM.len, hN.len]
        exact q
      · rw [decide_eq_false e] at q ⊢
        rw [if_neg (by decide)]
        exact q
    · refine ⟨_, rfl, _, _, t, .ref C, false, rfl, .own C, ty, kt, false, rfl, ?_⟩
      rw [if_neg (by decide)]
      exact q
end
end Kl

set_option maxRecDepth 100000
set_option maxHeartbeats 4000000
/-! several clauses, each with the name of the error -/
namespace Gx
open PySem PySem.Spec PyProof.Rows L2
/-- what the clauses (all of one name, slot i) wish of an error of the body -/
def wMA (K : PySem.W.Frag) (i : Nat) (Wo : WX) (D : Ends) : List (Value × (Addr → Value → Option Addr → TS)) → WX
  | [] => Wo
  | (c, ts) :: r => fun ec ed σ H => ∃ b, PySem.W.exmOne K ec c = some b ∧ (b = true → ∀ ea, H ea = none → ts ea ec ed { nx := fun σ1 H1 => D.nx (σ1.set i none) H1, rt := D.rt, bk := fun σ1 H1 => D.bk (σ1.set i none) H1, ct := fun σ1 H1 => D.ct (σ1.set i none) H1 } (σ.set i (some (.ref ea))) H) ∧ (b = false → wMA K i Wo D r ec ed σ H)
inductive HdsA (X : Cx) (n : Str) : List ExceptHandler → List (Value × (Addr → Value → Option Addr → TS)) → Prop
  | nil : HdsA X n [] []
  | cons {x : Str} {c : Value} {ts : Addr → Value → Option Addr → TS} {b₀ : Stmt} {bs : List Stmt} {np ps : Pos} {hds : List ExceptHandler} {l : List (Value × (Addr → Value → Option Addr → TS))} (nm : Names X x c)
      (su : ∀ (ea : Addr) (eo : Obj) (ec : Value) (ed : Option Addr) (pn : List (Addr × Obj)), Zc ec ed eo → (∃ vs, eo.data = .fields vs) → PSs (X.suite ea ((ea, eo) :: pn)) (b₀ :: bs) (ts ea ec ed)) (r : HdsA X n hds l) :
      HdsA X n (.ExceptHandler (some (.Name x np)) (some n) (b₀ :: bs) ps :: hds) ((c, ts) :: l)
section
variable {X : Cx} {n : Str} {i : Nat} {body : List Stmt} {h0 : ExceptHandler} {hds : List ExceptHandler} {l : List (Value × (Addr → Value → Option Addr → TS))} {pos : Pos} {tb : WX → TS} {Wo : WX}
theorem ps_try_ma (st : X.stack = X.env :: X.outer) (fr : X.env.frame = some X.env.locals) (nd : X.N.Nodup) (at_ : X.N[i]? = some n) (kl : X.env.kindOf n = some .local) (tk : Takes X Wo)
    (hb : ∀ (W : WX) (pn : List (Addr × Obj)) (xe : Value → Shared → Prop), Takes (X.tr pn xe) W → PassesOwn (model X.prog X.w) X.A X.env xe → PSs (X.tr pn xe) body (tb W))
    (hh : HdsA X n (h0 :: hds) l) : PS X (.Try body (h0 :: hds) [] [] pos) (fun D σ H => tb (wMA X.K i Wo D l) D σ H) := by
  refine ⟨fun pn0 s σ H D I0 wish => ?_⟩
  have okX := I0.ok
  have frs0 : X.A.frames = some (X.env :: X.outer) := by rw [okX.frames, st]
  have lc : Loc X.env.scope n := .inl kl
  refine wpAny_Try_except ?_
  refine wpAny_mono ((hb (wMA X.K i Wo D l) (X.pn ++ pn0) (fun e sa => wpAny (model X.prog X.w) X.A (noteFrame e X.env) (fun _ sb => wpAny (model X.prog X.w) X.A (setFlight e none) (fun _ sc =>
    wpAny (model X.prog X.w) X.A (handleBy e X.env (h0 :: hds)) (SP X pn0 D) X.xe sc) X.xe sb) X.xe sa) (fun u sz fly => ?_) PassesOwn.looking).run [] s σ H D (I0.toTry _) wish) (fun fl sz got => ?_) (fun _ _ z => z)
  · obtain ⟨ea, gb, si, pn1, σ1, H1, ec, ed, rfl, J0, nb, up, sky, na, eos, bare, w⟩ := fly
    have J1 : Inv X pn0 σ1 H1 si := J0.ofTry okX
    have sky1 : Sky gb (X.env :: X.outer) ea (Zc ec ed) X.env.locals sz.heap := by rw [← st]; exact sky
    show wpAny (model X.prog X.w) X.A (noteFrame (.ref ea) X.env) _ _ _
    refine Sky.land Zc.steady frs0 fr sky1 fun ha fa upa => ?_
    have Ja : Inv X pn0 σ1 H1 { sz with heap := ha } := J1.landed nb fa.1 (up.trans upa) eos bare
    obtain ⟨eo, ev, there, ze, de⟩ := fa.there
    have noFrame : ∀ {h : Heap} {o : Obj} {vs : Array Value}, h.FunFrames gb (X.env :: X.outer) → h.get? ea = some o → o.data = .fields vs → ea ∉ frs (X.env :: X.outer) := fun {h o vs} ff e dd hm => by
      obtain ⟨_, o1, e1, z⟩ := ff.mem hm
      rw [e] at e1
      cases e1
      exact z _ dd
    have nf := noFrame fa.2.2.1 there de
    have nL : ea ≠ X.env.locals := fun z => nf (List.mem_filterMap.mpr ⟨X.env, List.mem_cons_self, by rw [fr, z]⟩)
    have nF : ea ∉ X.fs := fun hm => by
      obtain ⟨e1, m1, q1⟩ := List.mem_filterMap.mp hm
      exact nf (List.mem_filterMap.mpr ⟨e1, List.mem_cons_of_mem _ m1, q1⟩)
    have Sa := Ja.suite there de na nL nF
    have each : ∀ {hs1 : List ExceptHandler} {l1 : List (Value × (Addr → Value → Option Addr → TS))}, HdsA X n hs1 l1 → wMA X.K i Wo D l1 ec ed σ1 H1 →
        wpAny (model X.prog X.w) X.A (handleBy (.ref ea) X.env hs1) (SP X pn0 D) X.xe { sz with heap := ha } := by
      intro hs1 l1 hk
      induction hk with
      | nil =>
        intro w1
        refine wpAny_handleBy_nil ?_
        obtain ⟨_, _, _, oe, vs, T, oT, ts1, he, hz, hd, h1, hr⟩ := id fa
        unfold PySem.passOn
        refine wpAny_bind (wpAny_field he hd h1 ?_)
        rw [if_neg (by simp : ¬ ((Value.ref T == Value.none) = true))]
        have on : wpAny (model X.prog X.w) X.A (setFlight (.ref ea) X.env.frame) (fun _ sd => wpAny (model X.prog X.w) X.A (throw (.ref ea) : Sem Flow) (SP X pn0 D) X.xe sd) X.xe { sz with heap := ha } := by
          rw [fr]
          refine HandSPX.setFlight_upZ fa fun hc fc upc => wpAny_throw (tk _ _ ?_)
          exact ⟨ea, gb, si, pn0, σ1, H1, ec, ed, rfl, J1, nb, (up.trans upa).trans upc, .inr (.inr (by rw [st]; exact fc)), na, eos, bare, w1⟩
        first | exact wpAny_bind (wpAny_pure (wpAny_bind on)) | exact wpAny_bind on
      | @cons x c ts b₀ bs np ps hds2 l2 nm su r ih =>
        intro w1
        obtain ⟨b, eb, yes, no⟩ := w1
        refine wpAny_handleBy_cons (codeAny_handlers_test ?_) (by intro q; cases q)
        have ty : PySem.W.Looks (model X.prog X.w) ha (typeOf (.ref ea)) ec := fun A Q E s k q => wpAny_typeOf_ref (k _ _ there) (by rw [ze.1]; exact q)
        have fits := PySem.W.exm_one (M := model X.prog X.w) (Ja.kIn) ty eb
        have named : ∀ {Q : Value → Shared → Prop} {E : Value → Shared → Prop}, Q c { sz with heap := ha } → wpAny (model X.prog X.w) (X.A.mark (some (.ref ea))) (eval (.Name x np) X.env) Q E { sz with heap := ha } := fun {Q E} q => by
          obtain ⟨g1, g2, m1 | ⟨m1, m2, m3⟩⟩ := nm
          · exact ld_glob (X := X.suite ea ((ea, eo) :: (X.pn ++ pn0))) Sa g1 m1 q g2
          · exact ld_blt (X := X.suite ea ((ea, eo) :: (X.pn ++ pn0))) Sa g1 m1 m2 q m3 g2
        refine named (fits.here ?_)
        cases b with
        | false =>
          show wpAny _ X.A (handleBy (.ref ea) X.env hds2) _ _ _
          exact ih (no rfl)
        | true =>
          refine codeAny_handlers_suite_as ?_
          refine HandSPX.lands_againZ fa fun hc fc upc => ?_
          have Jc : Inv X pn0 σ1 H1 { sz with heap := hc } := J1.landed nb fc.1 ((up.trans upa).trans upc) eos bare
          obtain ⟨eo2, ev2, there2, ze2, de2⟩ := fc.there
          have Sc := Jc.suite there2 de2 na nL nF
          refine store_ok (X := X.suite ea ((ea, eo2) :: (X.pn ++ pn0))) (v := .ref ea) Sc nd at_ lc rfl (fun se Se => ?_) (.inr kl)
          refine wpAny_mono ((su ea eo2 ec ed (X.pn ++ pn0) ze2 ⟨_, de2⟩).run [] se _ H1 _ Se (yes rfl ea na)) (fun fl sg got => ?_) (fun _ _ z => False.elim z)
          have gone : ∀ {σ6 : L2.St} {H6 : Hp} {Q : Shared → Prop}, Inv (X.suite ea ((ea, eo2) :: (X.pn ++ pn0))) [] σ6 H6 sg → (∀ s7, Inv X pn0 (σ6.set i none) H6 s7 → Q s7) →
              wpAny (model X.prog X.w) X.A (do bindName X.env n .none; unbindBehindTheSuite X.env n ps) (fun _ s7 => Q s7) X.xe sg := fun {σ6 H6 Q} S6 hq => gone_ok (S6.unsuite okX) nd at_ kl hq
          cases fl with
          | ret u =>
            obtain ⟨v6, σ6, H6, S6, r6, q6⟩ := got
            exact gone S6 fun _ J7 => ⟨_, _, _, J7, r6, q6⟩
          | next =>
            obtain ⟨σ6, H6, S6, q6⟩ := got
            exact gone S6 fun _ J7 => ⟨_, _, J7, q6⟩
          | brk =>
            obtain ⟨σ6, H6, S6, q6⟩ := got
            exact gone S6 fun _ J7 => ⟨_, _, J7, q6⟩
          | cont =>
            obtain ⟨σ6, H6, S6, q6⟩ := got
            exact gone S6 fun _ J7 => ⟨_, _, J7, q6⟩
    exact each hh w
  · cases fl with
    | ret u =>
      obtain ⟨v, σ1, H1, J1, r, q⟩ := got
      exact ⟨v, σ1, H1, J1.ofTry okX, r, q⟩
    | next =>
      obtain ⟨σ1, H1, J1, q⟩ := got
      exact wpAny_execs_nil ⟨σ1, H1, J1.ofTry okX, q⟩
    | brk =>
      obtain ⟨σ1, H1, J1, q⟩ := got
      exact ⟨σ1, H1, J1.ofTry okX, q⟩
    | cont =>
      obtain ⟨σ1, H1, J1, q⟩ := got
      exact ⟨σ1, H1, J1.ofTry okX, q⟩
end
end Gx

set_option maxRecDepth 100000
set_option maxHeartbeats 4000000
/-! a def that is called in the suite of a clause, with the error that it holds -/
namespace Gx
open PySem PySem.Spec PyProof.Rows L2
/-- a promise about the held error: where it stands, its class, its dict -/
abbrev SpE := Addr → Value → Option Addr → Sp
structure FnE (P : Program) (w : World) (K : PySem.W.Frag) (mg : Str → Option Value) (base : Heap) (k : Nat) (f : Addr) (fd : FuncData) (ps : List Str) (sp : SpE) : Prop where
  len : ∀ ea ec ed vs H Q E, sp ea ec ed vs H Q E → vs.length = ps.length
  run : ∀ (A : Around) (outer : List Env) (s : Shared) (H : Hp) (args : Args) (us : List Value) (vs : List V) (Q : VK) (E : XK) (p : Addr × Obj) (ec : Value) (ed : Option Addr),
    L2H.RoomH k A → L2H.PinOk outer H s p → Zc ec ed p.2 → (∃ fs, p.2.data = .fields fs) → Env0 P w K mg base A outer s H → BindsTo s fd args (ps.zip us) → Vals vs us → sp p.1 ec ed vs H Q E →
      codeAny (model P w) A (.call (.ref f) args) (CR CX0 outer P w H s Q E) s
theorem fnE_body {P : Program} {w : World} {K : PySem.W.Frag} {mg : Str → Option Value} {base : Heap} {k : Nat} {f : Addr} {nm ql : Str} {prm : Arguments} {bd : List Stmt} {sc : Scope}
    {dv kv dc pm cd ct oc : Value} {an od : Option Addr} {sl : Array (Option Value)} {N ps : List Str} {sp : SpE}
    (look : K.lookup f = some ⟨oc, od, .func (PySem.W.fnOf nm ql prm bd sc dv kv dc pm an cd ct), sl⟩) (hcode : PySem.W.codeIn K cd ql = true) (S : FnScope N ps sc)
    (hlen : ∀ ea ec ed vs H Q E, sp ea ec ed vs H Q E → vs.length = ps.length)
    (hb : ∀ (A : Around) (outer : List Env) (s : Shared) (H : Hp) (vs : List V) (Q : VK) (E : XK) (p : Addr × Obj) (ec : Value) (ed : Option Addr), Zc ec ed p.2 → (∃ fs, p.2.data = .fields fs) → L2H.RoomH k (A.deeper (envOfC ql sc s.heap.objs.size f cd)) → sp p.1 ec ed vs H Q E →
      ∃ t, PSs (L2H.cxH CX0 P w K mg base N ql sc f cd A outer s H E p) bd t ∧ t { nx := fun _ H' => Q .non H', rt := Q } (start N vs) H) :
    FnE P w K mg base (k + 1) f (PySem.W.fnOf nm ql prm bd sc dv kv dc pm an cd ct) ps sp := by
  constructor
  · exact hlen
  · intro A outer s H args us vs Q E p ec ed room pin hz hf env bind rel want
    have inS : K.In s.heap := env.mod.kin.keeps fun b o e => (env.bs b o e).1
    have noLim : s.heap.NoLimit := env.mod.nolimit.keeps fun b o e => (env.bs b o e).1
    have kinds : ∀ y ∈ ps.zip us, sc.names.lookup y.1 = some .local ∨ (sc.names.lookup y.1 = some .cell ∧ ((cellsFrom (s.heap.objs.size + 1) sc.names []).lookup y.1).isSome = true) := by
      rintro ⟨n, v⟩ hy
      rcases S.par n (List.of_mem_zip hy).1 with q | q
      · exact Or.inl q
      · exact Or.inr ⟨q, PySem.W.cellsFrom_some _ _ _ (Or.inl q)⟩
    refine codeAny_call_function room.depth (inS _ _ look) rfl S.co S.gen rfl (PySem.W.codeRec_of inS hcode)
      (bind _ _ _ _ (wpAny_newFunctionEnv_cells S.kind kinds fun env' he s1 made => ?_))
    subst he
    refine ⟨noLim.keeps made.toInCall.keep, codeAny_func ?_⟩
    obtain ⟨t, ht, hq⟩ := hb A outer s H vs Q E p ec ed hz hf (room.deeper _) want
    have I0 : Inv (L2H.cxH CX0 P w K mg base N ql sc f cd A outer s H E p) [] (start N vs) H s1 := L2H.inv_startH S pin env (hlen _ _ _ _ _ _ _ want) rel made
    refine wpAny_mono (ht.run [] s1 (start N vs) H _ I0 hq) ?_ (fun e s' hs => hs)
    intro fl s' hs
    cases fl with
    | brk =>
      obtain ⟨_, _, _, no⟩ := hs
      exact no.elim
    | cont =>
      obtain ⟨_, _, _, no⟩ := hs
      exact no.elim
    | next =>
      obtain ⟨σ', H', J, q⟩ := hs
      exact ⟨V.non, H', J.os, J.bare, J.base, J.hok, rfl, q⟩
    | ret u =>
      obtain ⟨v, σ', H', J, rv, q⟩ := hs
      exact ⟨v, H', J.os, J.bare, J.base, J.hok, rv, q⟩
section
variable {P : Program} {w : World} {K : PySem.W.Frag} {mg : Str → Option Value} {base : Heap}
/-- the name x is a def that keeps sp of the held error -/
def CalE (P : Program) (w : World) (K : PySem.W.Frag) (mg : Str → Option Value) (base : Heap) (k : Nat) (x : Str) (ps : List Str) (sp : SpE) : Prop :=
  ∃ (f : Addr) (fd : FuncData), FnE P w K mg base k f fd ps sp ∧ PySem.W.keepIn K (.ref f) = true ∧ Binds K fd ps [] ∧ mg x = some (.ref f)
theorem Def.calE {x qual : Str} {st : Stmt} {ps : List Str} (d : Def K mg x qual st ps) {k : Nat} {sp : SpE} (h : ∀ f fd, Fun K x qual st f fd → FnE P w K mg base k f fd ps sp) : CalE P w K mg base k x ps sp := by
  obtain ⟨f, fd, F, b, g⟩ := d
  exact ⟨f, fd, h f fd F, F.kp, b, g⟩
theorem okE {x qual : Str} {st : Stmt} {f : Addr} {fd : FuncData} {N ps : List Str} {k : Nat} {sp : SpE} (F : Fun K x qual st f fd) (S : FnScope N ps (defScope st)) (hlen : ∀ ea ec ed vs H Q E, sp ea ec ed vs H Q E → vs.length = ps.length)
    (hb : ∀ (cdv : Value) (A : Around) (outer : List Env) (s : Shared) (H : Hp) (vs : List V) (Q : VK) (E : XK) (p : Addr × Obj) (ec : Value) (ed : Option Addr), Zc ec ed p.2 → (∃ fs, p.2.data = .fields fs) → L2H.RoomH k (A.deeper (envOfC qual (defScope st) s.heap.objs.size f cdv)) → sp p.1 ec ed vs H Q E →
      ∃ t, PSs (L2H.cxH CX0 P w K mg base N qual (defScope st) f cdv A outer s H E p) (defBody st) t ∧ t { nx := fun _ H' => Q .non H', rt := Q } (start N vs) H) : FnE P w K mg base (k + 1) f fd ps sp := by
  obtain ⟨oc, od, kV, doc, pm, an, cdv, ct, osl, rfl, lk, hcd⟩ := F.ex
  exact fnE_body lk hcd S hlen fun A outer s H vs Q E p ec ed hz hf hr want => hb cdv A outer s H vs Q E p ec ed hz hf hr want
end
section
variable {X : Cx} {ea : Addr} {eo : Obj} {ec : Value} {ed : Option Addr} {pn : List (Addr × Obj)}
def tClE (sp : SpE) (ea : Addr) (ec : Value) (ed : Option Addr) (t : TA) : TE := fun σ H Q => t σ H fun vs H1 => sp ea ec ed vs H1 Q E0
theorem pe_calE {x : Str} {ps : List Str} {sp : SpE} {k : Nat} {e : Expr} {es : List Expr} {t : TA} {p pos : Pos} (c : CalE X.prog X.w X.K X.mg X.base k x ps sp) (room : Room k X.A) (hz : Zc ec ed eo) (hf : ∃ fs, eo.data = .fields fs) (hg : Gl (X.suite ea ((ea, eo) :: pn)) x)
    (h : PA (X.suite ea ((ea, eo) :: pn)) (e :: es) t) (hdb : (x == ("__debug__" : Str)) = false := by decide) (hst : starEach (e :: es) X.env = (false, eval e X.env) :: starEach es X.env := by rfl) (hpl : (backTo pos (starEach es X.env)).any (·.1) = false := by rfl) :
    PE (X.suite ea ((ea, eo) :: pn)) (.Call (.Name x p) (e :: es) [] pos) (tClE sp ea ec ed t) := by
  obtain ⟨f, fd, F, kp, b, hm⟩ := c
  refine ⟨fun pins s σ H Q I want => wpAny_Call_Name_kw (ld_glob I hg hm ?_ hdb)⟩
  refine PySem.W.callWith_K (h₀ := X.base) I.ok.mod.kin kp (thn (h.run pos pins s σ H _ I want) fun us s1 ⟨vs, H1, I1, r, q⟩ => ⟨I1.kIn, ?_⟩) hst hpl
  have hl : us.length = ps.length := r.length.symm.trans (F.len _ _ _ _ _ _ _ q)
  have b1 := b s1 us I1.kIn (by rw [List.append_nil]; exact hl)
  rw [List.append_nil] at b1
  obtain ⟨g1, g2, g3, g4, g5⟩ := I1.pin (ea, eo) (List.mem_append_left _ List.mem_cons_self)
  have pin : L2H.PinOk (X.suite ea ((ea, eo) :: pn)).stack H1 s1 (ea, eo) := ⟨g1, g2, fun hm => (List.mem_cons.mp (I1.stkSub ea hm)).elim g3 g4, g5⟩
  have room' : L2H.RoomH k (X.suite ea ((ea, eo) :: pn)).A := ⟨room.dp, room.un⟩
  refine wpAny_call (codeAny_mono (F.run _ _ s1 H1 ⟨us, []⟩ us vs Q E0 (ea, eo) ec ed room' pin hz hf I1.env0 b1 r q) fun res s2 hres => ?_)
  match res, hres with
  | .error e, hres => exact hres.elim
  | .ok (.ret u), hres => exact I1.after hres
end
section
variable {X : Cx} {p : Addr × Obj} {ec : Value}
/-- isinstance(e, c), e the error that is held (without a dict) -/
def rIsP (K : PySem.W.Frag) (ea : Addr) (ec : Value) : List V → Hp → VK → Prop := fun xs H Q => ∃ (C : Addr) (c : V) (u : Value) (b : Bool), xs = [.ref ea, c] ∧ ec = .ref C ∧ XCls K C ∧ ClsV c u ∧ PySem.W.kitOne K (.ref C) u = some b ∧ Q (.bl b) H
theorem call_isP (hp : p ∈ X.pn) (hz : Zc ec none p.2) (hf : ∃ fs, p.2.data = .fields fs) : CallR X (.builtin "isinstance") (rIsP X.K p.1 ec) := by
  intro pins s σ H xs us Q I r h
  obtain ⟨C, c, u, b, rfl, rfl, T, k, hb, q⟩ := h
  obtain ⟨u1, u2, rfl, r1, r2⟩ := vals2 r
  have e2 := k.eq r2
  subst e2
  cases (show u1 = Value.ref p.1 from r1)
  obtain ⟨fs, hf⟩ := hf
  have J : PySem.W.InstAt s.heap p.1 p.2 C none := ⟨(I.pin p (List.mem_append_left _ hp)).1, hz.1, by unfold PySem.W.notCls; rw [hf] <;> rfl, by rw [hz.2]; trivial⟩
  exact PySem.W.kia_one (PySem.W.kitx_exc (ox := p.2) (od := none) T.isC T.ga T.gg T.ex T.cl T.sp T.ta T.ob) I.kIn J hb (fun z => nomatch z) fun tk => ⟨.bl b, H, I.tok tk, rfl, q⟩
end
end Gx

set_option maxRecDepth 100000
set_option maxHeartbeats 4000000
/-! repr of data with a dict in them; lists that are not the table of modules -/
namespace Gx
open PySem PySem.Spec PyProof.Rows L2
/-- what repr shows: data without dicts, or the dict {7: 7} -/
inductive Shw (K : PySem.W.Frag) (H : Hp) : V → PyData → Prop
  | dp {v : V} {d : PyData} (h : Dp K H v d) (nd : d.hasDict = false) : Shw K H v d
  | d7 {a : Addr} (e : H a = some (.dK [(Sum.inl 7, .int 7)])) : Shw K H (.ref a) (.dict [(.int 7, .int 7)])
section
variable {X : Cx} {pins : List (Addr × Obj)} {σ : L2.St} {H : Hp} {s : Shared}
theorem far (I : Inv X pins σ H s) : 1 < s.heap.objs.size := by
  obtain ⟨o, es, ep, e, _⟩ := I.ok.mod.glob
  have h := Heap.lt_size (I.bk _ _ e)
  exact Nat.lt_trans (by decide) h
theorem d7_reads {a : Addr} (I : Inv X pins σ H s) (e : H a = some (.dK [(Sum.inl 7, .int 7)])) : Reads s.heap (.ref a) (.dict [(.int 7, .int 7)]) [a] ∧ a ≠ sysModules := by
  obtain ⟨_, hs, vs, kv, hd⟩ := dk_of I.hok e
  obtain ⟨o, ho, es, ep, ex, hdat, _, pr, _⟩ := Heap.dictOf_iff.mp hd
  obtain ⟨en, t1, t2, h1, h2, h3⟩ : ∃ (en : DictEntry) (t1 t2 : Tok), es.toList = [en] ∧ en.key = .int 7 t1 ∧ en.val = .int 7 t2 := by
    unfold KV at kv
    cases kv with
    | @cons p q ps qs h r =>
      cases r
      obtain ⟨k1, v1⟩ := q
      obtain ⟨rfl, t2, hv⟩ := h
      generalize hes : es.toList = l at pr
      cases pr with
      | @cons en kv1 es1 kvs1 hk hv1 r1 =>
        cases r1
        rcases keyIs_shape (show keyIs (Sum.inl 7) en.key = true from hk) with ⟨i, t, e1, e2⟩ | ⟨x, t, e1, e2⟩
        · cases e1
          exact ⟨en, t, t2, rfl, e2, hv1.trans hv⟩
        · cases e1
  refine ⟨?_, fun h => by rw [h] at hs; exact absurd hs (by decide)⟩
  have r := Reads.dict (kvs := [(.int 7, .int 7)]) (as := []) (bs := []) ho ex.1 hdat
    (by rw [h1]; show ReadsAll s.heap [en.key] [.int 7] []; rw [h2]; exact ReadsAll.cons (as := []) (bs := []) (Reads.int 7 t1) ReadsAll.nil)
    (by rw [h1]; show ReadsAll s.heap [en.val] [.int 7] []; rw [h3]; exact ReadsAll.cons (as := []) (bs := []) (Reads.int 7 t2) ReadsAll.nil)
  exact r
end
section
variable {X : Cx}
def rReprX (K : PySem.W.Frag) : List V → Hp → VK → Prop := fun xs H Q => ∃ (x : V) (d : PyData), xs = [x] ∧ Shw K H x d ∧ d.showable = true ∧ d.depth ≤ 60 ∧ d.shown.length ≤ sizeLine ∧ Q (.str d.shown) H
theorem call_reprX (g : Gd X.A) (hu : X.A.units + 64 < cLine) : CallR X (.builtin "repr") (rReprX X.K) := by
  intro pins s σ H xs us Q I r h
  obtain ⟨x, d, rfl, hd, h1, h3, h4, q⟩ := h
  cases hd with
  | dp hd nd => exact call_reprD g hu pins s σ H _ us Q I r ⟨x, d, rfl, hd, h1, nd, h3, h4, q⟩
  | d7 e =>
    obtain ⟨u, rfl, rx⟩ := vals1 r
    cases (show u = Value.ref _ from rx)
    obtain ⟨hr, hn⟩ := d7_reads I e
    exact repr_ref hr h1 (fun _ hm => hn (List.mem_singleton.mp hm).symm) h4 g (by omega) fun h' u tk hk => ⟨.str _, H, I.kept (t' := tk) hk, ⟨_, rfl⟩, q⟩
end
/-! ### repr of a list of tuples of a text and a value -/
/-- values that hold no list -/
inductive Shs (K : PySem.W.Frag) (H : Hp) : V → PyData → Prop
  | non : Shs K H .non .none
  | bl (b : Bool) : Shs K H (.bl b) (.bool b)
  | int (i : Int) : Shs K H (.int i) (.int i)
  | str (x : Str) : Shs K H (.str x) (.str x)
  | d7 {a : Addr} (e : H a = some (.dK [(Sum.inl 7, .int 7)])) : Shs K H (.ref a) (.dict [(.int 7, .int 7)])
def zipT : List (Str × V) → List PyData → List PyData
  | p :: l, d :: ds => .tuple [.str p.1, d] :: zipT l ds
  | _, _ => []
def PrsAt (H : Hp) (ts : List Addr) (l : List (Str × V)) : Prop := Paired (fun t (p : Str × V) => H t = some (.tup [.str p.1, p.2])) ts l
section
variable {X : Cx} {pins : List (Addr × Obj)} {σ : L2.St} {H : Hp} {s : Shared}
theorem shs_reads (I : Inv X pins σ H s) {v : V} {d : PyData} {u : Value} (h : Shs X.K H v d) (r : RelV v u) : ∃ as, Reads s.heap u d as ∧ sysModules ∉ as := by
  cases h with
  | non => cases (show u = Value.none from r); exact ⟨_, Reads.none, by simp⟩
  | bl b => cases (show u = Value.bool b from r); exact ⟨_, Reads.bool b, by simp⟩
  | int i => obtain ⟨t, rfl⟩ := (show ∃ t, u = Value.int i t from r); exact ⟨_, Reads.int i t, by simp⟩
  | str x => obtain ⟨t, rfl⟩ := (show ∃ t, u = Value.str x t from r); exact ⟨_, Reads.str x t, by simp⟩
  | d7 e =>
    cases (show u = Value.ref _ from r)
    obtain ⟨hr, hn⟩ := d7_reads I e
    exact ⟨_, hr, fun hm => hn (List.mem_singleton.mp hm).symm⟩
theorem prs_reads (I : Inv X pins σ H s) : ∀ {ts : List Addr} {l : List (Str × V)} {ds : List PyData}, PrsAt H ts l → Paired (fun (p : Str × V) d => Shs X.K H p.2 d) l ds → ∃ as, ReadsAll s.heap (ts.map Value.ref) (zipT l ds) as ∧ sysModules ∉ as
  | _, _, _, .nil, .nil => ⟨_, ReadsAll.nil, by simp⟩
  | t :: ts, p :: l, d :: ds, .cons ht rt, .cons hd rd => by
    obtain ⟨as, h1, n1⟩ := prs_reads I rt rd
    obtain ⟨_, its, rv, o, ho, hc, n, hdat⟩ := (show ObjOk X.prog X.w H s.heap t (.tup [.str p.1, p.2]) from I.hok t _ ht)
    cases rv with
    | cons r1 rr =>
      cases rr with
      | cons r2 rr =>
        cases rr
        obtain ⟨tk, rfl⟩ := (show ∃ t, _ = Value.str p.1 t from r1)
        obtain ⟨bs, h2, n2⟩ := shs_reads I hd r2
        refine ⟨_, ReadsAll.cons (Reads.tuple ho hc hdat (ReadsAll.cons (Reads.str _ _) (ReadsAll.cons h2 ReadsAll.nil))) h1, ?_⟩
        simp only [List.nil_append, List.append_nil, List.mem_append, not_or]
        exact ⟨n2, n1⟩
end
theorem prs_dp {K : PySem.W.Frag} {H : Hp} : ∀ {ts : List Addr} {l : List (Str × V)} {ds : List PyData}, PrsAt H ts l → Paired (fun (p : Str × V) d => Dp K H p.2 d) l ds → DpAll K H (ts.map V.ref) (zipT l ds)
  | _, _, _, .nil, .nil => .nil
  | _ :: _, _ :: _, _ :: _, .cons ht rt, .cons hd rd => .cons (.tup (.inl (.inl ht)) (.cons (.str _) (.cons hd .nil))) (prs_dp rt rd)
section
variable {X : Cx}
def rReprL (K : PySem.W.Frag) : List V → Hp → VK → Prop := fun xs H Q => ∃ (L : Addr) (ts : List Addr) (l : List (Str × V)) (ds : List PyData), xs = [.ref L] ∧ H L = some (.lst (ts.map V.ref)) ∧ L ≠ sysModules ∧ PrsAt H ts l ∧
  ((Paired (fun (p : Str × V) d => Dp K H p.2 d) l ds ∧ (PyData.list (zipT l ds)).hasDict = false) ∨ Paired (fun (p : Str × V) d => Shs K H p.2 d) l ds) ∧ (PyData.list (zipT l ds)).showable = true ∧ (PyData.list (zipT l ds)).depth ≤ 60 ∧ (PyData.list (zipT l ds)).shown.length ≤ sizeLine ∧ Q (.str (PyData.list (zipT l ds)).shown) H
theorem call_reprL (g : Gd X.A) (hu : X.A.units + 64 < cLine) : CallR X (.builtin "repr") (rReprL X.K) := by
  intro pins s σ H xs us Q I r h
  obtain ⟨L, ts, l, ds, rfl, eL, nL, hp, hd, h1, h3, h4, q⟩ := h
  rcases hd with ⟨hd, nd⟩ | hd
  · exact call_reprD g hu pins s σ H _ us Q I r ⟨.ref L, _, rfl, .lst (.inl (.inl eL)) (prs_dp hp hd), h1, nd, h3, h4, q⟩
  · obtain ⟨u, rfl, rx⟩ := vals1 r
    cases (show u = Value.ref L from rx)
    obtain ⟨_, its, n, rv, e⟩ := (show ObjOk X.prog X.w H s.heap L (.lst (ts.map V.ref)) from I.hok L _ eL)
    have ei := refs_at rv
    subst ei
    obtain ⟨as, hr, nr⟩ := prs_reads I hp hd
    refine repr_ref (Reads.list e rfl rfl (by rw [List.toList_toArray]; exact hr)) h1 (fun _ hm => ?_) h4 g (by omega) fun h' u tk hk => ⟨.str _, H, I.kept (t' := tk) hk, ⟨_, rfl⟩, q⟩
    rcases List.mem_cons.mp hm with h | h
    · exact nL h.symm
    · exact nr h
/-- list + list, the sum far from the table of modules -/
def rCatN : R2 := fun x y H Q => ∃ l b xs zs, x = .ref l ∧ y = .ref b ∧ H l = some (.lst xs) ∧ H b = some (.lst zs) ∧ xs.length + zs.length ≤ sizeLine ∧ ∀ p, H p = none → p ≠ sysModules → Q (.ref p) (upd H p (.lst (xs ++ zs)))
theorem op_catN : OpR X (binaryOp .Add) rCatN := by
  intro pins s σ H x y v u Q I rx ry h
  obtain ⟨l, b, xs, zs, rfl, rfl, el, eb, hz, q⟩ := h
  cases rx
  cases ry
  obtain ⟨za, ia, na, ra, la, ea⟩ := I.lstM el
  obtain ⟨zb, ib, nb, rb, lb, eb'⟩ := I.lstM eb
  refine PySem.P.add_list ea eb' ?_ (by rw [List.size_toArray, List.size_toArray]; omega)
  have e : ia.toArray ++ ib.toArray = (ia ++ ib).toArray := by simp
  rw [e]
  exact ⟨.ref _, _, I.lnew (t' := s.toks) (ra.append rb) (by rw [List.length_append]; omega), rfl, q _ I.fresh (Nat.ne_of_gt (far I))⟩
end
end Gx

set_option maxRecDepth 100000
set_option maxHeartbeats 4000000
/-! ### own rules: o[x] that may raise -/
namespace Gx
open PySem PySem.Spec PyProof.Rows L2 Mx Kl
section
variable {X : Cx} {C : Addr} {k : Nat} {ps : List Str} {sp : Sp} {E : L2.St → XK}
theorem runX_below {f : Addr} {fd : FuncData} {A : Around} {pins : List (Addr × Obj)} {σ : L2.St} {H : Hp} {s : Shared} {us : List Value} {vs : List V} {Q : VK} (F : FnOk X.prog X.w X.K X.mg X.base (L2.CX X.prog X.w) k f fd ps sp) (room : Room k A) (fr : A.frames = X.A.frames) (b : Binds X.K fd ps [])
    (hx : PassesAt (L2.CX X.prog X.w) X σ (E σ)) (I : Inv X pins σ H s) (r : Vals vs us) (want : sp vs H Q (E σ)) : wpAny (model X.prog X.w) A (call (.ref f) us) (EP X pins σ Q) X.xe s := by
  have e0 : Env0 X.prog X.w X.K X.mg X.base A X.stack s H := by
    have e := I.env0
    exact ⟨by rw [fr]; exact e.frames, e.mod, e.bs, e.bsz, e.funs, e.frf, e.hok, e.bare⟩
  have hl : us.length = ps.length := r.length.symm.trans (F.len _ _ _ _ want)
  have bt : BindsTo s fd ⟨us, []⟩ (ps.zip us) := by
    have q := b s us I.kIn (by rw [List.append_nil]; exact hl)
    rw [List.append_nil] at q
    exact q
  refine wpAny_call (codeAny_mono (F.run A X.stack s H ⟨us, []⟩ us vs Q (E σ) room e0 bt r want) fun res s' hres => ?_)
  match res, hres with
  | .error e, hres => exact hx pins H s e s' I hres
  | .ok (.ret u), hres => exact I.after hres
/-- the class at C has a method m that keeps sp, may raise, and may stand behind o[x] -/
def CalMY (P : Program) (w : World) (K : PySem.W.Frag) (mg : Str → Option Value) (base : Heap) (C : Addr) (m : Str) (k : Nat) (ps : List Str) (sp : Sp) : Prop :=
  ∃ (f : Addr) (fd : FuncData), FnOk P w K mg base (L2.CX P w) k f fd ps sp ∧ Meth K C m f ∧ Binds K fd ps [] ∧ PySem.W.fnIn K f = true
theorem DefM.calY {P : Program} {w : World} {K : PySem.W.Frag} {mg : Str → Option Value} {base : Heap} {C : Addr} {m qual : Str} {st : Stmt} {k : Nat} {ps : List Str} {sp : Sp} (d : DefM K C m qual st ps)
    (h : ∀ f fd, Fun K m qual st f fd → FnOk P w K mg base (L2.CX P w) k f fd ps sp) : CalMY P w K mg base C m k ps sp := by
  obtain ⟨f, fd, F, me, b, fi⟩ := d
  exact ⟨f, fd, h f fd F, me, b, fi⟩
theorem CalMY.up {P : Program} {w : World} {K : PySem.W.Frag} {mg : Str → Option Value} {base : Heap} {C : Addr} {m : Str} {j k : Nat} {ps : List Str} {sp : Sp} (c : CalMY P w K mg base C m j ps sp) (h : j ≤ k) : CalMY P w K mg base C m k ps sp := by
  obtain ⟨f, fd, F, r⟩ := c
  exact ⟨f, fd, F.mono h, r⟩
def tIxMX (C : Addr) (sp : Sp) (E : L2.St → XK) (ta tb : TE) : TE := fun σ => tOp (fun x y H Q => ∃ a dx fs, x = .ref a ∧ H a = some (.ins C dx fs) ∧ sp [.ref a, y] H Q (E σ)) ta tb σ
theorem pe_ixMX {a b : Expr} {ta tb : TE} {pos : Pos} (c : CalMY X.prog X.w X.K X.mg X.base C "__getitem__" k ps sp) (hr : Room (k + 1) X.A) (hx : ∀ σ, PassesAt (L2.CX X.prog X.w) X σ (E σ)) (ha : PE X a ta) (hb : PE X b tb)
    (hs : ∀ v u, subscripted b true v u = runValue (.builtin "lifetime.subscript" ⟨[v, u], []⟩)) : PE X (.Subscript a b pos) (tIxMX C sp E ta tb) := by
  obtain ⟨f, fd, F, me, bi, fi⟩ := c
  refine ⟨fun pins s σ H Q I h => ?_⟩
  refine Subscript_ (binT ha hb I h fun v u s2 x y H2 I2 rx ry q => ?_)
  obtain ⟨p, dx, fs, rfl, ea, q⟩ := q
  obtain rfl : v = Value.ref p := rx
  obtain ⟨mA, O, _⟩ := ins_get I2.hok ea
  obtain ⟨od, J, _⟩ := O.look
  obtain ⟨mm, hF⟩ := I2.fr
  exact PySem.W.sub_K hF I2.ok.mod.kin J me.at_ fi me.fn (runX_below F hr.in1 rfl bi (hx σ) I2 (.cons (rel_ref _) (.cons ry .nil)) q) (hs _ _)
/-- o.m(..), which may raise, whatever is under way -/
theorem pe_methXo {m : Str} {o e : Expr} {es : List Expr} {ta : TE} {t : TA} {pos apos : Pos} {pl : Sem Bool} (he : PE X o ta) (cl : Cls X.K C) (c : CalMY X.prog X.w X.K X.mg X.base C m k ps sp) (room : Room k X.A) (hx : ∀ σ, PassesAt (L2.CX X.prog X.w) X σ (E σ)) (ha : PA X (e :: es) t)
    (hst : starEach (e :: es) X.env = (false, eval e X.env) :: starEach es X.env := by rfl) (hpl : (backTo pos (starEach es X.env)).any (·.1) = false := by rfl)
    (ht : eval (.Call (.Attribute o m apos) (e :: es) [] pos) X.env = (do
      let ov ← eval o X.env
      standAt apos.atName
      let (f, first) ← holding [ov] (getMethod ov m pl)
      callWith pos f first (backTo pos (starEach (e :: es) X.env)) (backToKw pos (keywordEach [] X.env))) := by rfl) :
    PE X (.Call (.Attribute o m apos) (e :: es) [] pos) (tMethX C m sp E ta t) := by
  obtain ⟨f, fd, F, hm, b, _⟩ := c
  refine ⟨fun pins s σ H Q I h => ?_⟩
  refine PySem.W.methodCall_KW (pl := pl) (thn (he.run pins s σ H _ I h) fun u s1 ⟨x, H1, I1, rx, a, dx, fs, ex, ea, l, q⟩ => ?_) ht
  subst ex
  obtain rfl : u = Value.ref a := rx
  refine getmeth_ok I1 ea cl hm l ?_
  refine PySem.W.callWith_K (first := [.ref a]) (h₀ := X.base) I.ok.mod.kin hm.kp (thn (ha.run pos pins s1 σ H1 _ I1 q) fun us s2 ⟨vs, H2, I2, r, q2⟩ => ⟨I2.kIn, ?_⟩) hst hpl
  exact runX_below (us := .ref a :: us) (vs := .ref a :: vs) F room rfl b (hx σ) I2 (.cons rfl r) q2
/-- x not in a tuple of texts -/
def rNiTx (K : PySem.W.Frag) : R2 := fun x y H Q => ∃ (p : Addr) (zs : List Str), y = .ref p ∧ SqT K H p (zs.map V.str) ∧ (∀ z ∈ zs, PyData.strOk z = true) ∧
  ((∃ d, Dp K H x d ∧ d.canLay0 = true ∧ d.depth ≤ 10 ∧ Q (.bl (!(tD zs).any fun z => PyData.eqv z d)) H) ∨ ∃ a kvs, x = .ref a ∧ H a = some (.dK kvs) ∧ Q (.bl true) H)
theorem op_notInTx (hu : X.A.units + 64 < cLine) : OpR X (compareOp .NotIn) (rNiTx X.K) := by
  intro pins s σ H x y v u Q I rx ry h
  obtain ⟨p, zs, rfl, hp, ok, h⟩ := h
  rcases h with ⟨d, hd, sd, dp, q⟩ | ⟨a, kvs, rfl, ea, q⟩
  · obtain ⟨as, r1⟩ := Dp.reads I d x v hd rx
    obtain ⟨bs, r2⟩ := Dp.reads I (.tuple (tD zs)) (.ref p) u (.tup hp (dp_texts zs)) ry
    exact SeqAt.notIn_tuple_reads r2 r1 (canLay_texts zs ok) sd (by omega) ⟨.bl _, H, I, rfl, q⟩
  · cases rx
    cases ry
    obtain ⟨its, rv, pl, hz⟩ := I.tuple hp
    obtain ⟨_, _, vs, _, hd⟩ := dk_of I.hok ea
    obtain ⟨ob, hb, hD⟩ := Heap.dictOf_iff.mp hd
    obtain ⟨es, ep, ex, ed, _⟩ := hD
    have hcb : ob.cls = .type "dict" := ex.1
    refine SeqAt.notIn_tupleAt (fun _ => false) pl (fun y hy => ?_) ⟨.bl true, H, I, ?_, q⟩
    · rw [List.mem_toArray] at hy
      obtain ⟨z, t, rfl⟩ := vals_mem rv hy
      exact eqAt_str_dict z t hb hcb ed (by show X.A.units + 1 < cLine; omega)
    · show Value.bool _ = Value.bool true
      rw [Array.any_eq_false' |>.mpr (fun _ _ => by simp)]
      rfl
end
end Gx

set_option maxRecDepth 100000
set_option maxHeartbeats 4000000
/-! ### own end: a law whose promise holds where no repr is under way, and whose defs make lambdas -/
namespace Gx
open PySem PySem.Spec PyProof.Rows L2
/-- the abstract heap at the law's call: the script and the empty tables of the defs that make lambdas -/
def H0T (a : Addr) (o : Obj) (ns : List Int) (own : Bool) (ts : List Addr) : Hp := fun b => if b ∈ ts then some (.tbl #[]) else H00 a o ns own b
theorem h0t_in {a b : Addr} {o : Obj} {ns : List Int} {own : Bool} {ts : List Addr} (h : b ∈ ts) : H0T a o ns own ts b = some (.tbl #[]) := by
  unfold H0T
  rw [if_pos h]
theorem h0t_out {a b : Addr} {o : Obj} {ns : List Int} {own : Bool} {ts : List Addr} (h : b ∉ ts) : H0T a o ns own ts b = H00 a o ns own b := by
  unfold H0T
  rw [if_neg h]
theorem h0t_some {a b : Addr} {o : Obj} {ns : List Int} {own : Bool} {ts : List Addr} {u : HO} (h : H0T a o ns own ts b = some u) : (b ∈ ts ∧ u = .tbl #[]) ∨ (b ∉ ts ∧ own = false ∧ b = a ∧ u = .frz o (.lst (ns.map V.int))) := by
  by_cases c : b ∈ ts
  · rw [h0t_in c] at h
    cases h
    exact .inl ⟨c, rfl⟩
  · rw [h0t_out c] at h
    exact .inr ⟨c, h00_some h⟩
/-- the tables cs stand in the heap, and the module does not name them -/
structure TabsHere (K : PySem.W.Frag) (h : Heap) (cs : List (Addr × Addr)) : Prop where
  hd : ∀ c ∈ cs, PySem.W.CodeHd h c.1 c.2
  at_ : ∀ c ∈ cs, h.get? c.2 = some (PySem.W.tabObj #[])
  free : ∀ c ∈ cs, K.lookup c.2 = none
theorem lawGT {P : Program} {w : World} {K : PySem.W.Frag} {mg mb : Str → Option Value} {CX : CXT} {k : Nat} {fa a : Addr} {fd : FuncData} {x : Str} {sp : Sp} {t : Shared} {vs : List Value} {ns : List Int} {cs : List (Addr × Addr)}
    (inK : K.In t.heap) (glob : t.heap.Ns mainGlobals mg) (blt : t.heap.Ns builtinsNs mb) (boot : ∀ y : Str, y ≠ "__name__" → mb y = bootBuiltins y) (noLim : t.heap.NoLimit) (gens : t.gens = #[]) (tabs : TabsHere K t.heap cs)
    (bmod : ∃ (bm : Addr) (ob : Obj), mg "__builtins__" = some (.ref bm) ∧ bm ≠ builtinsNs ∧ t.heap.get? bm = some ob ∧ ob.cls = .type "module" ∧ ob.dict = some builtinsNs ∧ ob.data = .plain)
    (scr : t.heap.get? a = some { cls := .type "list", data := .seq vs.toArray }) (hints : IntsAre vs ns) (short : ns.length ≤ sizeLine) (room : Room k callerA)
    (F : ∀ base : Heap, K.In base → base.Ns mainGlobals mg → (∀ c ∈ cs, LamX.TabB base mg c.1 c.2) → FnG P w K mg base CX k fa fd [x] sp) (bind : ∀ (s : Shared) (u : Value), BindsTo s fd ⟨[u], []⟩ [(x, u)])
    (want : ∀ H : Hp, (∀ c ∈ cs, H c.2 = some (.tbl #[])) → SqL K H a (ns.map V.int) → sp [.ref a] H (fun v _ => v = .bl true) fun _ _ _ => False)
    (noErr : ∀ H e s', CX [] H t (fun _ _ _ => False) e s' → False) :
    codeAny (model P w) callerA (.call (.ref fa) ⟨[.ref a], []⟩) (fun r s' => r = .ok (.ret (.bool true)) ∧ OldK t.heap s'.heap ∧ s'.os = t.os ∧ AllBare s'.gens) t := by
  have hv : Vals (ns.map V.int) vs := vals_ints hints
  have hlv : vs.length = ns.length := hints.length
  obtain ⟨own, hown⟩ : ∃ own : Bool, own = (K.lookup a).isSome := ⟨_, rfl⟩
  obtain ⟨ts, hts⟩ : ∃ ts : List Addr, ts = cs.map (·.2) := ⟨_, rfl⟩
  have tin : ∀ {c : Addr × Addr}, c ∈ cs → c.2 ∈ ts := fun h => by
    rw [hts]
    exact List.mem_map.mpr ⟨_, h, rfl⟩
  have tout : ∀ {b : Addr}, b ∈ ts → ∃ c ∈ cs, c.2 = b := fun h => by
    rw [hts] at h
    exact List.mem_map.mp h
  have tget : ∀ {b : Addr}, b ∈ ts → t.heap.get? b = some (PySem.W.tabObj #[]) := fun h => by
    obtain ⟨c, hc, rfl⟩ := tout h
    exact tabs.at_ c hc
  have na : a ∉ ts := fun h => by
    have e := tget h
    rw [scr] at e
    have e2 := congrArg Obj.data (Option.some.inj e)
    cases e2
  let o : Obj := { cls := .type "list", data := .seq vs.toArray }
  let H0 : Hp := H0T a o ns own ts
  have hOk : HOk P w H0 t.heap := by
    intro b u e
    rcases h0t_some e with ⟨h, rfl⟩ | ⟨_, _, rfl, rfl⟩
    · exact tget h
    · exact ⟨scr, by rw [List.length_map]; exact short, vs, _, hv, scr⟩
  have none0 : ∀ {b : Addr}, b ∉ ts → own = true ∨ b ≠ a → H0 b = none := fun h1 h2 => (h0t_out h1).trans (h00_none h2)
  have keepT : ∀ {b : Addr} {ob : Obj}, t.heap.get? b = some ob → b ∉ ts → own = true ∨ b ≠ a → (hidT t.heap H0).get? b = some ob := fun e n1 n2 => hidT_get e (none0 n1 n2)
  -- what is neither the script nor a table
  have other : ∀ {b : Addr} {ob : Obj}, t.heap.get? b = some ob → (∀ xs n, ob.data ≠ .seq xs n) → ob.data ≠ .fields #[] → b ∉ ts ∧ b ≠ a := by
    intro b ob e n1 n2
    refine ⟨fun h => ?_, fun h => ?_⟩
    · rw [tget h] at e
      cases e
      exact n2 rfl
    · rw [h, scr] at e
      cases e
      exact n1 _ _ rfl
  have nsKeep : ∀ {b : Addr} {m : Str → Option Value}, t.heap.Ns b m → (hidT t.heap H0).Ns b m := by
    rintro b m ⟨ob, es, ep, e, dd, r⟩
    obtain ⟨n1, n2⟩ := other e (fun xs n z => by rw [dd] at z; cases z) (fun z => by rw [dd] at z; cases z)
    exact ⟨ob, es, ep, keepT e n1 (.inr n2), dd, r⟩
  have inK' : K.In (hidT t.heap H0) := by
    intro b ob e
    have nt : b ∉ ts := fun h => by
      obtain ⟨c, hc, rfl⟩ := tout h
      rw [tabs.free c hc] at e
      cases e
    refine keepT (inK b ob e) nt ?_
    by_cases hb : b = a
    · subst hb
      left
      rw [hown, e]
      rfl
    · exact .inr hb
  have noLim' : (hidT t.heap H0).NoLimit := by
    obtain ⟨mc, h1, h2⟩ := noLim
    exact ⟨mc, nsKeep h1, h2⟩
  have tabB : ∀ c ∈ cs, LamX.TabB (hidT t.heap H0) mg c.1 c.2 := by
    intro c hc
    have hP := tabs.at_ c hc
    constructor
    · obtain ⟨oc, us, file, tf, flags, tg, inF, text, tt, e, r1, r2, r3, r4⟩ := tabs.hd c hc
      obtain ⟨n1, n2⟩ := other e (fun xs n z => by rw [r2] at z; cases z) (fun z => by
        rw [r2] at z
        cases z
        cases r3)
      exact ⟨oc, us, file, tf, flags, tg, inF, text, tt, keepT e n1 (.inr n2), r1, r2, r3, r4⟩
    · obtain ⟨bm, ob, b1, b2, b3, b4, b5, b6⟩ := bmod
      obtain ⟨n1, n2⟩ := other b3 (fun xs n z => by rw [b6] at z; cases z) (fun z => by rw [b6] at z; cases z)
      refine ⟨bm, ob, b1, b2, ?_, fun z => n1 (z ▸ tin hc), keepT b3 n1 (.inr n2), b4, b5, b6⟩
      rintro rfl
      obtain ⟨og, es, ep, e, dd, _⟩ := glob
      rw [b3] at e
      cases e
      rw [b6] at dd
      cases dd
    · rintro z
      obtain ⟨og, es, ep, e, dd, _⟩ := glob
      rw [z, hP] at e
      cases e
      cases dd
  have env : Env0 P w K mg (hidT t.heap H0) callerA [] t H0 := by
    refine ⟨rfl, ⟨inK', nsKeep glob, ⟨mb, nsKeep blt, boot⟩, noLim'⟩, fun b ob e => of_hidT e, Nat.le_of_eq (hidT_size _ _), trivial, ?_, hOk, .of_eq gens⟩
    intro b hb
    exact absurd (show b ∈ ([] : List Addr) from hb) List.not_mem_nil
  have hS : SqL K H0 a (ns.map V.int) := by
    cases own with
    | false =>
      refine .inl (.inr ⟨o, ?_⟩)
      show H0T a o ns false ts a = _
      rw [h0t_out na]
      unfold H00
      rw [if_pos ⟨rfl, rfl⟩]
    | true =>
      obtain ⟨ob, e⟩ := Option.isSome_iff_exists.mp hown.symm
      have e2 := inK a ob e
      rw [scr] at e2
      cases e2
      exact .inr ⟨_, vs.toArray, _, e, rfl, rfl, rfl, by rw [List.size_toArray, hlv]; exact short, by simpa using hv⟩
  have runs := (F _ inK' (nsKeep glob) tabB).run callerA [] t H0 ⟨[.ref a], []⟩ [.ref a] [.ref a] _ _ rfl room env (bind t (.ref a)) (.cons rfl .nil) (want _ (fun c hc => h0t_in (tin hc)) hS)
  refine codeAny_mono runs ?_
  intro res s' hres
  match res, hres with
  | .error e, hres => exact (noErr _ e s' hres).elim
  | .ok (.ret u), hres =>
    obtain ⟨v, H', hos, bare, un, ok', rel, rfl⟩ := hres
    obtain rfl : u = Value.bool true := rel
    have stays : ∀ b ob, b ∉ ts → t.heap.get? b = some ob → s'.heap.get? b = some ob := by
      intro b ob nb e
      cases q : H0 b with
      | none => exact un.keep b ob e q (fun z => absurd (show b ∈ ([] : List Addr) from z) List.not_mem_nil) List.not_mem_nil
      | some u =>
        rcases h0t_some q with ⟨h, _⟩ | ⟨_, _, _, rfl⟩
        · exact absurd h nb
        · have q' := un.frzs b _ _ q
          have e1 := (hOk b _ q).1
          rw [e] at e1
          cases e1
          exact (ok' b _ q').1
    have grows : ∀ c ∈ cs, ∃ more : Array Value, s'.heap.get? c.2 = some (PySem.W.tabObj more) := by
      intro c hc
      obtain ⟨more, z⟩ := un.tbls c.2 #[] (h0t_in (tin hc))
      exact ⟨_, ok' c.2 _ z⟩
    refine ⟨rfl, ⟨fun b ob e => ?_, fun b ob e => ?_⟩, hos, bare⟩
    · by_cases hb : b ∈ ts
      · obtain ⟨c, hc, rfl⟩ := tout hb
        obtain ⟨more, hm⟩ := grows c hc
        have hP := tabs.at_ c hc
        rw [hP] at e
        cases e
        refine .inr (.inl ⟨((tabs.hd c hc).tab hP).isCodeTable, rfl, #[], more, rfl, ?_⟩)
        rw [Array.empty_append]
        exact hm
      · exact .inl (stays b ob hb e)
    · by_cases hb : b ∈ ts
      · obtain ⟨c, hc, rfl⟩ := tout hb
        obtain ⟨more, hm⟩ := grows c hc
        exact ⟨_, hm⟩
      · exact ⟨ob, stays b ob hb e⟩
/-- what k_head leaves, for such a law -/
theorem walkGT {l : PySem.W.OpenLaw} {n k : Nat} {q : Program} {loose : List Str} {XP : (Str → Option Value) → Heap → Prop} {YP : World → Heap → Prop} {d : DefRec} {K : Params → PySem.W.Frag} {CX : World → CXT} {x : Str}
    (most : l.most = some n) (small : n ≤ sizeLine) (plain : d.params.defaults = []) (room : Room k callerA) (hY : ∀ (w : World) (h : Heap), YP w h → (K w.params).In h)
    (F : ∀ (w : World) (mg : Str → Option Value) (fa : Addr) (h : Heap), (K w.params).In h → h.Ns mainGlobals mg → mg d.name = some (.ref fa) →
      ∃ (fd : FuncData) (cs : List (Addr × Addr)) (sp : Sp), (∀ c ∈ cs, (∃ (y : Str) (e : DefRec), (recsOf q).find? (fun r => r.name == y) = some e ∧ PySem.W.tabIn (K w.params) y = some c) ∧ (K w.params).lookup c.2 = none) ∧
        (∀ (s : Shared) (u : Value), BindsTo s fd ⟨[u], []⟩ [(x, u)]) ∧
        (∀ (H : Hp) (a : Addr) (ns : List Int), ns.length ≤ n → (∀ c ∈ cs, H c.2 = some (.tbl #[])) → SqL (K w.params) H a (ns.map V.int) → sp [.ref a] H (fun v _ => v = .bl true) fun _ _ _ => False) ∧
        ∀ base : Heap, (K w.params).In base → base.Ns mainGlobals mg → (∀ c ∈ cs, LamX.TabB base mg c.1 c.2) → FnG l.prog w (K w.params) mg base (CX w) k fa fd [x] sp)
    (noErr : ∀ (w : World) (H : Hp) (s : Shared) (e : Value) (s' : Shared), CX w [] H s (fun _ _ _ => False) e s' → False) :
    PySem.W.WalkO q loose XP YP l.row.toRowW d [] (fun f vs => PySem.call f vs) := by
  refine Att.attach_call most plain fun w s₀ t mg mb fa o pm cd doc a vs ns G Y ho hd hcd hmg scr hints hlen gens => ?_
  obtain ⟨fd, cs, sp, tabs, bind, want, body⟩ := F w mg fa _ (hY w _ Y) G.T.g hmg
  have th : ∀ c ∈ cs, PySem.W.CodeHd t.heap c.1 c.2 ∧ t.heap.get? c.2 = some (PySem.W.tabObj #[]) := fun c hc => by
    obtain ⟨⟨y, e, h1, h2⟩, _⟩ := tabs c hc
    exact PySem.W.tab_of G.T (hY w _ Y) h1 h2
  exact lawGT (hY w _ Y) G.T.g G.T.b G.T.builtins G.T.nolimit gens ⟨fun c hc => (th c hc).1, fun c hc => (th c hc).2, fun c hc => (tabs c hc).2⟩ G.T.bmain scr hints (Nat.le_trans hlen small) room body bind
    (fun H hO hS => want H a ns hlen hO hS) fun H e s' => noErr w H t e s'
/-! ### a def that makes lambdas: its own code is known -/
section
variable {P : Program} {w : World} {K : PySem.W.Frag} {mg : Str → Option Value} {base : Heap}
/-- .. where no repr is under way; its code object is at c -/
theorem okGL {x qual : Str} {st : Stmt} {f c : Addr} {fd : FuncData} {N ps : List Str} {k : Nat} {sp : Sp} (F : Fun K x qual st f fd) (hc : fd.code = .ref c) (S : FnScope N ps (defScope st)) (hlen : ∀ vs H Q E, sp vs H Q E → vs.length = ps.length)
    (hb : ∀ (A : Around) (outer : List Env) (s : Shared) (H : Hp) (vs : List V) (Q : VK) (E : XK), Gd (A.deeper (envOfC qual (defScope st) s.heap.objs.size f (.ref c))) → Room k (A.deeper (envOfC qual (defScope st) s.heap.objs.size f (.ref c))) → sp vs H Q E →
      ∃ t, PSs (cxOf CX0 P w K mg base N qual (defScope st) f (.ref c) A outer s H E).nox (defBody st) t ∧ t { nx := fun _ H' => Q .non H', rt := Q } (start N vs) H) : FnG P w K mg base CX0 (k + 1) f fd ps sp := by
  obtain ⟨oc, od, kV, doc, pm, an, cdv, ct, osl, rfl, lk, hcd⟩ := F.ex
  have e : cdv = .ref c := hc
  subst e
  refine fnG_body lk hcd S hlen fun A outer s H vs Q E g hr want => ?_
  obtain ⟨t, h, q⟩ := hb A outer s H vs Q E g hr want
  exact ⟨t, h.nox, q⟩
end
end Gx

set_option maxRecDepth 100000
set_option maxHeartbeats 4000000
/-! several clauses, some with a name for the error (one name for all), some without -/
namespace Gx
open PySem PySem.Spec PyProof.Rows L2
/-- what the clauses (all of one name, slot i) wish of an error of the body -/
def wMX (K : PySem.W.Frag) (i : Nat) (Wo : WX) (D : Ends) : List (Value × Bool × (Addr → Value → Option Addr → TS)) → WX
  | [] => Wo
  | (c, true, ts) :: r => fun ec ed σ H => ∃ b, PySem.W.exmOne K ec c = some b ∧ (b = true → ∀ ea, H ea = none → ts ea ec ed { nx := fun σ1 H1 => D.nx (σ1.set i none) H1, rt := D.rt, bk := fun σ1 H1 => D.bk (σ1.set i none) H1, ct := fun σ1 H1 => D.ct (σ1.set i none) H1 } (σ.set i (some (.ref ea))) H) ∧ (b = false → wMX K i Wo D r ec ed σ H)
  | (c, false, ts) :: r => fun ec ed σ H => ∃ b, PySem.W.exmOne K ec c = some b ∧ (b = true → ∀ ea, H ea = none → ts ea ec ed D σ H) ∧ (b = false → wMX K i Wo D r ec ed σ H)
inductive HdsX (X : Cx) (n : Str) : List ExceptHandler → List (Value × Bool × (Addr → Value → Option Addr → TS)) → Prop
  | nil : HdsX X n [] []
  | asn {x : Str} {c : Value} {ts : Addr → Value → Option Addr → TS} {b₀ : Stmt} {bs : List Stmt} {np ps : Pos} {hds : List ExceptHandler} {l : List (Value × Bool × (Addr → Value → Option Addr → TS))} (nm : Names X x c)
      (su : ∀ (ea : Addr) (eo : Obj) (ec : Value) (ed : Option Addr) (pn : List (Addr × Obj)), Zc ec ed eo → (∃ vs, eo.data = .fields vs) → PSs (X.suite ea ((ea, eo) :: pn)) (b₀ :: bs) (ts ea ec ed)) (r : HdsX X n hds l) :
      HdsX X n (.ExceptHandler (some (.Name x np)) (some n) (b₀ :: bs) ps :: hds) ((c, true, ts) :: l)
  | bare {x : Str} {c : Value} {ts : Addr → Value → Option Addr → TS} {b₀ : Stmt} {bs : List Stmt} {np ps : Pos} {hds : List ExceptHandler} {l : List (Value × Bool × (Addr → Value → Option Addr → TS))} (nm : Names X x c)
      (su : ∀ (ea : Addr) (eo : Obj) (ec : Value) (ed : Option Addr) (pn : List (Addr × Obj)), Zc ec ed eo → (∃ vs, eo.data = .fields vs) → PSs (X.suite ea ((ea, eo) :: pn)) (b₀ :: bs) (ts ea ec ed)) (r : HdsX X n hds l) :
      HdsX X n (.ExceptHandler (some (.Name x np)) none (b₀ :: bs) ps :: hds) ((c, false, ts) :: l)
section
variable {X : Cx} {n : Str} {i : Nat} {body : List Stmt} {h0 : ExceptHandler} {hds : List ExceptHandler} {l : List (Value × Bool × (Addr → Value → Option Addr → TS))} {pos : Pos} {tb : WX → TS} {Wo : WX}
theorem ps_try_mx (st : X.stack = X.env :: X.outer) (fr : X.env.frame = some X.env.locals) (nd : X.N.Nodup) (at_ : X.N[i]? = some n) (kl : X.env.kindOf n = some .local) (tk : Takes X Wo)
    (hb : ∀ (W : WX) (pn : List (Addr × Obj)) (xe : Value → Shared → Prop), Takes (X.tr pn xe) W → PassesOwn (model X.prog X.w) X.A X.env xe → PSs (X.tr pn xe) body (tb W))
    (hh : HdsX X n (h0 :: hds) l) : PS X (.Try body (h0 :: hds) [] [] pos) (fun D σ H => tb (wMX X.K i Wo D l) D σ H) := by
  refine ⟨fun pn0 s σ H D I0 wish => ?_⟩
  have okX := I0.ok
  have frs0 : X.A.frames = some (X.env :: X.outer) := by rw [okX.frames, st]
  have lc : Loc X.env.scope n := .inl kl
  refine wpAny_Try_except ?_
  refine wpAny_mono ((hb (wMX X.K i Wo D l) (X.pn ++ pn0) (fun e sa => wpAny (model X.prog X.w) X.A (noteFrame e X.env) (fun _ sb => wpAny (model X.prog X.w) X.A (setFlight e none) (fun _ sc =>
    wpAny (model X.prog X.w) X.A (handleBy e X.env (h0 :: hds)) (SP X pn0 D) X.xe sc) X.xe sb) X.xe sa) (fun u sz fly => ?_) PassesOwn.looking).run [] s σ H D (I0.toTry _) wish) (fun fl sz got => ?_) (fun _ _ z => z)
  · obtain ⟨ea, gb, si, pn1, σ1, H1, ec, ed, rfl, J0, nb, up, sky, na, eos, bare, w⟩ := fly
    have J1 : Inv X pn0 σ1 H1 si := J0.ofTry okX
    have sky1 : Sky gb (X.env :: X.outer) ea (Zc ec ed) X.env.locals sz.heap := by rw [← st]; exact sky
    show wpAny (model X.prog X.w) X.A (noteFrame (.ref ea) X.env) _ _ _
    refine Sky.land Zc.steady frs0 fr sky1 fun ha fa upa => ?_
    have Ja : Inv X pn0 σ1 H1 { sz with heap := ha } := J1.landed nb fa.1 (up.trans upa) eos bare
    obtain ⟨eo, ev, there, ze, de⟩ := fa.there
    have noFrame : ∀ {h : Heap} {o : Obj} {vs : Array Value}, h.FunFrames gb (X.env :: X.outer) → h.get? ea = some o → o.data = .fields vs → ea ∉ frs (X.env :: X.outer) := fun {h o vs} ff e dd hm => by
      obtain ⟨_, o1, e1, z⟩ := ff.mem hm
      rw [e] at e1
      cases e1
      exact z _ dd
    have nf := noFrame fa.2.2.1 there de
    have nL : ea ≠ X.env.locals := fun z => nf (List.mem_filterMap.mpr ⟨X.env, List.mem_cons_self, by rw [fr, z]⟩)
    have nF : ea ∉ X.fs := fun hm => by
      obtain ⟨e1, m1, q1⟩ := List.mem_filterMap.mp hm
      exact nf (List.mem_filterMap.mpr ⟨e1, List.mem_cons_of_mem _ m1, q1⟩)
    have Sa := Ja.suite there de na nL nF
    have each : ∀ {hs1 : List ExceptHandler} {l1 : List (Value × Bool × (Addr → Value → Option Addr → TS))}, HdsX X n hs1 l1 → wMX X.K i Wo D l1 ec ed σ1 H1 →
        wpAny (model X.prog X.w) X.A (handleBy (.ref ea) X.env hs1) (SP X pn0 D) X.xe { sz with heap := ha } := by
      intro hs1 l1 hk
      induction hk with
      | nil =>
        intro w1
        refine wpAny_handleBy_nil ?_
        obtain ⟨_, _, _, oe, vs, T, oT, ts1, he, hz, hd, h1, hr⟩ := id fa
        unfold PySem.passOn
        refine wpAny_bind (wpAny_field he hd h1 ?_)
        rw [if_neg (by simp : ¬ ((Value.ref T == Value.none) = true))]
        have on : wpAny (model X.prog X.w) X.A (setFlight (.ref ea) X.env.frame) (fun _ sd => wpAny (model X.prog X.w) X.A (throw (.ref ea) : Sem Flow) (SP X pn0 D) X.xe sd) X.xe { sz with heap := ha } := by
          rw [fr]
          refine HandSPX.setFlight_upZ fa fun hc fc upc => wpAny_throw (tk _ _ ?_)
          exact ⟨ea, gb, si, pn0, σ1, H1, ec, ed, rfl, J1, nb, (up.trans upa).trans upc, .inr (.inr (by rw [st]; exact fc)), na, eos, bare, w1⟩
        first | exact wpAny_bind (wpAny_pure (wpAny_bind on)) | exact wpAny_bind on
      | @asn x c ts b₀ bs np ps hds2 l2 nm su r ih =>
        intro w1
        obtain ⟨b, eb, yes, no⟩ := w1
        refine wpAny_handleBy_cons (codeAny_handlers_test ?_) (by intro q; cases q)
        have ty : PySem.W.Looks (model X.prog X.w) ha (typeOf (.ref ea)) ec := fun A Q E s k q => wpAny_typeOf_ref (k _ _ there) (by rw [ze.1]; exact q)
        have fits := PySem.W.exm_one (M := model X.prog X.w) (Ja.kIn) ty eb
        have named : ∀ {Q : Value → Shared → Prop} {E : Value → Shared → Prop}, Q c { sz with heap := ha } → wpAny (model X.prog X.w) (X.A.mark (some (.ref ea))) (eval (.Name x np) X.env) Q E { sz with heap := ha } := fun {Q E} q => by
          obtain ⟨g1, g2, m1 | ⟨m1, m2, m3⟩⟩ := nm
          · exact ld_glob (X := X.suite ea ((ea, eo) :: (X.pn ++ pn0))) Sa g1 m1 q g2
          · exact ld_blt (X := X.suite ea ((ea, eo) :: (X.pn ++ pn0))) Sa g1 m1 m2 q m3 g2
        refine named (fits.here ?_)
        cases b with
        | false =>
          show wpAny _ X.A (handleBy (.ref ea) X.env hds2) _ _ _
          exact ih (no rfl)
        | true =>
          refine codeAny_handlers_suite_as ?_
          refine HandSPX.lands_againZ fa fun hc fc upc => ?_
          have Jc : Inv X pn0 σ1 H1 { sz with heap := hc } := J1.landed nb fc.1 ((up.trans upa).trans upc) eos bare
          obtain ⟨eo2, ev2, there2, ze2, de2⟩ := fc.there
          have Sc := Jc.suite there2 de2 na nL nF
          refine store_ok (X := X.suite ea ((ea, eo2) :: (X.pn ++ pn0))) (v := .ref ea) Sc nd at_ lc rfl (fun se Se => ?_) (.inr kl)
          refine wpAny_mono ((su ea eo2 ec ed (X.pn ++ pn0) ze2 ⟨_, de2⟩).run [] se _ H1 _ Se (yes rfl ea na)) (fun fl sg got => ?_) (fun _ _ z => False.elim z)
          have gone : ∀ {σ6 : L2.St} {H6 : Hp} {Q : Shared → Prop}, Inv (X.suite ea ((ea, eo2) :: (X.pn ++ pn0))) [] σ6 H6 sg → (∀ s7, Inv X pn0 (σ6.set i none) H6 s7 → Q s7) →
              wpAny (model X.prog X.w) X.A (do bindName X.env n .none; unbindBehindTheSuite X.env n ps) (fun _ s7 => Q s7) X.xe sg := fun {σ6 H6 Q} S6 hq => gone_ok (S6.unsuite okX) nd at_ kl hq
          cases fl with
          | ret u =>
            obtain ⟨v6, σ6, H6, S6, r6, q6⟩ := got
            exact gone S6 fun _ J7 => ⟨_, _, _, J7, r6, q6⟩
          | next =>
            obtain ⟨σ6, H6, S6, q6⟩ := got
            exact gone S6 fun _ J7 => ⟨_, _, J7, q6⟩
          | brk =>
            obtain ⟨σ6, H6, S6, q6⟩ := got
            exact gone S6 fun _ J7 => ⟨_, _, J7, q6⟩
          | cont =>
            obtain ⟨σ6, H6, S6, q6⟩ := got
            exact gone S6 fun _ J7 => ⟨_, _, J7, q6⟩
      | @bare x c ts b₀ bs np ps hds2 l2 nm su r ih =>
        intro w1
        obtain ⟨b, eb, yes, no⟩ := w1
        refine wpAny_handleBy_cons (codeAny_handlers_test ?_) (by intro q; cases q)
        have ty : PySem.W.Looks (model X.prog X.w) ha (typeOf (.ref ea)) ec := fun A Q E s k q => wpAny_typeOf_ref (k _ _ there) (by rw [ze.1]; exact q)
        have fits := PySem.W.exm_one (M := model X.prog X.w) (Ja.kIn) ty eb
        have named : ∀ {Q : Value → Shared → Prop} {E : Value → Shared → Prop}, Q c { sz with heap := ha } → wpAny (model X.prog X.w) (X.A.mark (some (.ref ea))) (eval (.Name x np) X.env) Q E { sz with heap := ha } := fun {Q E} q => by
          obtain ⟨g1, g2, m1 | ⟨m1, m2, m3⟩⟩ := nm
          · exact ld_glob (X := X.suite ea ((ea, eo) :: (X.pn ++ pn0))) Sa g1 m1 q g2
          · exact ld_blt (X := X.suite ea ((ea, eo) :: (X.pn ++ pn0))) Sa g1 m1 m2 q m3 g2
        refine named (fits.here ?_)
        cases b with
        | false =>
          show wpAny _ X.A (handleBy (.ref ea) X.env hds2) _ _ _
          exact ih (no rfl)
        | true =>
          refine codeAny_handlers_suite ?_
          refine HandSPX.lands_againZ fa fun hc fc upc => ?_
          have Jc : Inv X pn0 σ1 H1 { sz with heap := hc } := J1.landed nb fc.1 ((up.trans upa).trans upc) eos bare
          obtain ⟨eo2, ev2, there2, ze2, de2⟩ := fc.there
          have Sc := Jc.suite there2 de2 na nL nF
          refine wpAny_mono ((su ea eo2 ec ed (X.pn ++ pn0) ze2 ⟨_, de2⟩).run [] _ _ H1 _ Sc (yes rfl ea na)) (fun fl sg got => ?_) (fun _ _ z => False.elim z)
          cases fl with
          | ret u =>
            obtain ⟨v6, σ6, H6, S6, r6, q6⟩ := got
            exact ⟨_, _, _, S6.unsuite okX, r6, q6⟩
          | next =>
            obtain ⟨σ6, H6, S6, q6⟩ := got
            exact ⟨_, _, S6.unsuite okX, q6⟩
          | brk =>
            obtain ⟨σ6, H6, S6, q6⟩ := got
            exact ⟨_, _, S6.unsuite okX, q6⟩
          | cont =>
            obtain ⟨σ6, H6, S6, q6⟩ := got
            exact ⟨_, _, S6.unsuite okX, q6⟩
    exact each hh w
  · cases fl with
    | ret u =>
      obtain ⟨v, σ1, H1, J1, r, q⟩ := got
      exact ⟨v, σ1, H1, J1.ofTry okX, r, q⟩
    | next =>
      obtain ⟨σ1, H1, J1, q⟩ := got
      exact wpAny_execs_nil ⟨σ1, H1, J1.ofTry okX, q⟩
    | brk =>
      obtain ⟨σ1, H1, J1, q⟩ := got
      exact ⟨σ1, H1, J1.ofTry okX, q⟩
    | cont =>
      obtain ⟨σ1, H1, J1, q⟩ := got
      exact ⟨σ1, H1, J1.ofTry okX, q⟩
end
end Gx

set_option maxRecDepth 100000
set_option maxHeartbeats 4000000
/-! ### raise of an own error over KeyError -/
namespace Gx
open PySem PySem.Spec PySem.W PySem.Calls PyProof.Rows L2
section
variable {X : Cx} {C fI : Addr} {cn fld : Str} {B newId initId : String} {bmF bmB : List Value}
theorem pmk_xC {a : Expr} {ta : TA} {p pos : Pos} {k : Nat} (FB : XBase B newId initId bmF bmB) (T : XTxt X.K X.mg cn fld newId bmB C fI) (D : InitDoes X.K C fI fld) (room : Room k X.A) (ha : PA X [a] ta) (hg : Gl X cn)
    (hdb : (cn == ("__debug__" : Str)) = false := by decide) (hst : starEach (a :: []) X.env = (false, eval a X.env) :: starEach [] X.env := by rfl) (hpl : (backTo pos (starEach [] X.env)).any (·.1) = false := by rfl) :
    PMk X (.Call (.Name cn p) [a] [] pos) (tMkX C fld ta) := by
  intro pins s σ H Q I h
  refine wpAny_Call_Name_kw (ld_glob I hg T.gC ?_ hdb)
  refine PySem.W.callWith_K (h₀ := X.base) I.ok.mod.kin T.kC (thn (ha.run pos pins s σ H _ I h) ?_) hst hpl
  rintro us s1 ⟨vs, H1, I1, r1, v, rfl, q1⟩
  refine ⟨I1.kIn, ?_⟩
  obtain ⟨u, rfl, rv⟩ := vals1 r1
  show wpAny _ _ (call (.ref C) [u]) _ _ _
  have lim := I1.nolimit
  obtain ⟨hp, g, dr, tk, os⟩ := s1
  refine wpAny_call (x_madeC FB T D I1.kIn lim (by have := room.dp; omega) fun h' tk' e d M => ?_)
  show MkP X pins σ Q (.ref e) ⟨h', g, dr, tk', os⟩
  obtain ⟨oe, fv, hoe, hc, hd, hdat, h1⟩ := M.obj
  obtain ⟨G', g1, g2⟩ := restrict h' fun b => decide (b ≠ e)
  have off : ∀ b, b ≠ e → G'.get? b = h'.get? b := fun b hb => g1 b (decide_eq_true hb)
  have gone : G'.get? e = none := g2 e (by simp)
  have old : ∀ b o, hp.get? b = some o → G'.get? b = some o := fun b o q => (off b (Nat.ne_of_lt (Nat.lt_of_lt_of_le (Heap.lt_size q) M.new))).trans (M.keep b o q)
  have ob : ObjOk X.prog X.w (upd H1 d (.xd [(fld, v)])) G' d (.xd [(fld, v)]) := ⟨_, M.ns.at (fun o q => (off d M.ne).trans q), fun f => relO_one rv f⟩
  have J : Inv X pins σ (upd H1 d (.xd [(fld, v)])) ⟨G', g, dr, tk', os⟩ := I1.laid (t' := tk') old M.big ob
  refine ⟨e, oe, fv, ⟨G', g, dr, tk', os⟩, _, .ref C, some d, rfl, J, ?_, gone, hoe, ⟨hc, hd⟩, hdat, h1, ?_, rfl, I1.bare, raises_own T.exC T.tyC, q1 d (I1.hok.fresh M.big)⟩
  · intro b o q
    have q' : G'.get? b = some o := q
    by_cases hb : b = e
    · rw [hb, gone] at q'
      cases q'
    · exact (off b hb).symm.trans q
  · rw [upd_ne (Ne.symm M.ne)]
    exact I1.hok.fresh M.new
theorem ps_raiseXC {a : Expr} {ta : TA} {W : WX} {p pos pos2 : Pos} {k : Nat} (hc : X.calm = true) (FB : XBase B newId initId bmF bmB) (T : XTxt X.K X.mg cn fld newId bmB C fI) (D : InitDoes X.K C fI fld) (room : Room k X.A) (tk : Takes X W) (ha : PA X [a] ta) (hg : Gl X cn)
    (hdb : (cn == ("__debug__" : Str)) = false := by decide) (hst : starEach (a :: []) X.env = (false, eval a X.env) :: starEach [] X.env := by rfl) (hpl : (backTo pos (starEach [] X.env)).any (·.1) = false := by rfl) :
    PS X (.Raise (some (.Call (.Name cn p) [a] [] pos)) none pos2) (tRaiseX C fld W ta) := ps_raise hc tk (pmk_xC FB T D room ha hg hdb hst hpl)
end
/-! ### values of any sort: data without dicts, or the empty dict -/
/-- all but the object at d and the tables stay -/
def ExtX (d : Addr) (H H' : Hp) : Prop := ∀ b o, b ≠ d → H b = some o → (∀ ps, o ≠ .tbl ps) → H' b = some o
theorem ExtX.refl (d : Addr) (H : Hp) : ExtX d H H := fun _ _ _ e _ => e
theorem ExtX.trans {d : Addr} {H H1 H2 : Hp} (a : ExtX d H H1) (b : ExtX d H1 H2) : ExtX d H H2 := fun c o n e t => b c o n (a c o n e t) t
theorem ExtX.ofN {d : Addr} {H H' : Hp} (s : LamX.ExtN H H') : ExtX d H H' := fun b o _ e t => s b o e t
theorem ExtX.of {d : Addr} {H H' : Hp} (s : Same H H') : ExtX d H H' := fun b o _ e _ => s b o e
open LamX Mx Kl in
inductive AnyV (K : PySem.W.Frag) (z0 : Addr) (H : Hp) : V → PyData → Prop
  | dat {v : V} {d : PyData} (h : ∀ H', ExtX z0 H H' → Dp K H' v d) (nd : d.hasDict = false) (cl : d.canLay0 = true) (dp : d.depth ≤ 10) (sh : d.showable = true) (sz : d.shown.length ≤ 20000) (ok : PyData.strOk d.shown = true)
      (ty : ∀ H', ExtX z0 H H' → ∃ (tt : Value) (b : Bool), TyX K H' v tt ∧ PySem.W.kitOne K tt (.type "str") = some b ∧ (b = true ↔ ∃ z, v = .str z) ∧ PySem.W.kitOne K tt (.type "dict") = some false) : AnyV K z0 H v d
  | emp {a : Addr} (e : H a = some (.dK [])) (n : a ≠ z0) : AnyV K z0 H (.ref a) (.dict [])
theorem AnyV.ext {K : PySem.W.Frag} {z0 : Addr} {H H' : Hp} {v : V} {d : PyData} (h : AnyV K z0 H v d) (s : ExtX z0 H H') : AnyV K z0 H' v d := by
  cases h with
  | dat h a b c e f g y => exact .dat (fun H2 s2 => h H2 (s.trans s2)) a b c e f g fun H2 s2 => y H2 (s.trans s2)
  | emp e n => exact .emp (s _ _ n e fun _ z => by cases z) n
theorem AnyV.same {K : PySem.W.Frag} {z0 : Addr} {H H' : Hp} {v : V} {d : PyData} (h : AnyV K z0 H v d) (s : Same H H') : AnyV K z0 H' v d := h.ext (ExtX.of s)
theorem AnyV.showable {K : PySem.W.Frag} {z0 : Addr} {H : Hp} {v : V} {d : PyData} (h : AnyV K z0 H v d) : d.showable = true := by
  cases h with
  | dat h a b c e f g _ => exact e
  | emp e n => decide +kernel
theorem AnyV.depth {K : PySem.W.Frag} {z0 : Addr} {H : Hp} {v : V} {d : PyData} (h : AnyV K z0 H v d) : d.depth ≤ 10 := by
  cases h with
  | dat h a b c e f g _ => exact c
  | emp e n => decide +kernel
theorem AnyV.size {K : PySem.W.Frag} {z0 : Addr} {H : Hp} {v : V} {d : PyData} (h : AnyV K z0 H v d) : d.shown.length ≤ 20000 := by
  cases h with
  | dat h a b c e f g _ => exact f
  | emp e n => decide +kernel
theorem AnyV.okS {K : PySem.W.Frag} {z0 : Addr} {H : Hp} {v : V} {d : PyData} (h : AnyV K z0 H v d) : PyData.strOk d.shown = true := by
  cases h with
  | dat h a b c e f g _ => exact g
  | emp e n => decide +kernel
section
variable {X : Cx} {pins : List (Addr × Obj)} {σ : L2.St} {H : Hp} {s : Shared}
theorem d0_reads {a : Addr} (I : Inv X pins σ H s) (e : H a = some (.dK [])) : Reads s.heap (.ref a) (.dict []) [a] ∧ a ≠ sysModules := by
  obtain ⟨_, hs, vs, kv, hd⟩ := dk_of I.hok e
  obtain ⟨o, ho, es, ep, ex, hdat, _, pr, _⟩ := Heap.dictOf_iff.mp hd
  have h1 : es.toList = [] := by
    unfold KV at kv
    cases kv
    generalize hes : es.toList = l at pr
    cases pr
    rfl
  refine ⟨?_, fun h => by rw [h] at hs; exact absurd hs (by decide)⟩
  have r := Reads.dict (kvs := []) (as := []) (bs := []) ho ex.1 hdat (by rw [h1]; exact ReadsAll.nil) (by rw [h1]; exact ReadsAll.nil)
  exact r
end
section
variable {X : Cx}
def rReprA (K : PySem.W.Frag) : List V → Hp → VK → Prop := fun xs H Q => ∃ (x : V) (d : PyData) (z0 : Addr), xs = [x] ∧ AnyV K z0 H x d ∧ Q (.str d.shown) H
theorem call_reprA (g : Gd X.A) (hu : X.A.units + 80 < cLine) : CallR X (.builtin "repr") (rReprA X.K) := by
  intro pins s σ H xs us Q I r h
  obtain ⟨x, d, z0, rfl, hd, q⟩ := h
  have big : 20000 ≤ sizeLine := by decide
  cases hd with
  | dat hd nd cl dp sh sz _ _ => exact call_reprD g (by omega) pins s σ H _ us Q I r ⟨x, d, rfl, hd H (ExtX.refl z0 H), sh, nd, by omega, by omega, q⟩
  | emp e n =>
    obtain ⟨u, rfl, rx⟩ := vals1 r
    cases (show u = Value.ref _ from rx)
    obtain ⟨hr, hn⟩ := d0_reads I e
    have hdp : (PyData.dict []).depth ≤ 10 := by decide +kernel
    have hsz : (PyData.dict []).shown.length ≤ 20000 := by decide +kernel
    exact repr_ref hr (by decide +kernel) (fun _ hm => hn (List.mem_singleton.mp hm).symm) (Nat.le_trans hsz big) g (by omega) fun h' u tk hk => ⟨.str _, H, I.kept (t' := tk) hk, ⟨_, rfl⟩, q⟩
end
end Gx

set_option maxRecDepth 100000
set_option maxHeartbeats 4000000
namespace Kl
open PySem PySem.Spec PyProof.Rows L2 Gx LamX
section
variable {K : PySem.W.Frag}
/-! ### _law_told calls what it got -/
theorem call_reprAK {X : Cx} (hk : X.K = K) (g : Gd X.A) (hu : X.A.units + 80 < cLine) : CallR X (.builtin "repr") (rReprA K) := by
  subst hk
  exact call_reprA g hu
theorem hu80_of {A : Around} {k : Nat} (hr : Room k A) : A.units + 80 < cLine := by
  have := hr.un
  omega
/-- an error is caught with as many slots as there are names -/
theorem takes_len {X : Cx} {W : WX} (tk : Takes X W) : Takes X (fun cls d σ H => σ.length = X.N.length → W cls d σ H) := fun u s' h => by
  obtain ⟨a, B, si, p1, σ1, H1, ec, ed, e, J, nb, up, sky, na, os, bare, w⟩ := h
  exact tk u s' ⟨a, B, si, p1, σ1, H1, ec, ed, e, J, nb, up, sky, na, os, bare, w J.len⟩
/-- what it makes of the reading of the lambda -/
def TTold7 (K : PySem.W.Frag) (CU Co : Addr) : (XK → Hp → VK → Prop) → Hp → VK → Prop := fun tl H Q =>
  tl (fun cls d H' => (cls = .ref CU ∧ ∃ (dd : Addr) (v : V) (dv : PyData) (z0 : Addr), d = some dd ∧ H' dd = some (.xd [("word", v)]) ∧ AnyV K z0 H' v dv ∧ Q (.str (("unknown " : Str) ++ dv.shown)) H') ∨
    (cls = .ref Co ∧ Q (.str "operation") H')) H fun _ H' => Q (.str "fine") H'
theorem told_gives7 {X : Cx} {CU fI Co g : Addr} {cdg : Value} {q : Str} {k : Nat} (T : Top X.K X.mg) (TX : XT_UnknownName X.K X.mg CU fI) (XO : XPln X.K X.mg "InvalidOperation" "ValueError.__new__" "ValueError.__init__" [.type "ValueError", .type "Exception", .type "BaseException", .type "object"] Co)
    (eo : PySem.W.exmOne X.K (.ref Co) (.ref Co) = some true) (en : PySem.W.exmOne X.K (.ref Co) (.ref CU) = some false) (hg : Gd X.A) (hr : Room (k + 1) X.A) :
    GivesTo X ["_law_call", "e"] "_law_told" (defScope s_law_told) g cdg (defBody s_law_told) "_law_call" q (TTold7 X.K CU Co) := by
  intro f c' s H Q tl act hc h
  have hr' := hr.deeper (envOfC "_law_told" (defScope s_law_told) s.heap.objs.size g cdg)
  have hu80 := hu80_of hr'
  refine ⟨_, pss_cons (ps_try_mx (X := (cxOf C8.CX0 X.prog X.w X.K X.mg X.base ["_law_call", "e"] "_law_told" (defScope s_law_told) g cdg X.A X.stack s H C8.E0).nox) (i := 1) (n := "e")
      (tb := fun W D σ H => ∃ Ech : XK, (∀ cls d σ' H', Ech cls d H' → σ'.length = 2 → W cls d σ' H') ∧ σ[0]? = some (some (.ref f)) ∧ H c' = some (CodeO c' q) ∧ tl Ech H fun _ H' => D.nx σ H')
      rfl rfl sc_law_told.nd rfl rfl takes_none5 (fun W pn xe tk _ => ?_)
      (.asn (c := .ref CU) ⟨by rfl, by decide, .inl TX.gC⟩ (fun a oe cls d pn hz hf => pss_one (ps_ret (pe_op op_add_str pe_str (pe_callB (call_reprAK (K := X.K) (by rfl) (by exact hg) (by exact hu80)) (by rfl) T.b_repr (by decide +kernel) (pa_cons (pe_byX TX hz hf (pv 1)) pa_nil)))))
        (.bare (c := .ref Co) ⟨by rfl, by decide, .inl XO.gC⟩ (fun a oe cls d pn hz hf => pss_one (ps_ret pe_str)) .nil))) (pss_one (ps_ret pe_str)), ?_⟩
  · refine ⟨fun pins s' σ H' D I h' => ?_⟩
    obtain ⟨Ech, hW, h1, h2, h3⟩ := h'
    exact (pss_one (ps_expr (act _ pn xe Ech _ _ (takes_len tk) hW))).run pins s' σ H' D I ⟨h1, h2, h3⟩
  · refine ⟨_, fun cls d σ' H' he hl => ?_, rfl, hc, h⟩
    obtain ⟨v0, v1, rfl⟩ : ∃ v0 v1, σ' = [v0, v1] := by
      match σ', hl with
      | [v0, v1], _ => exact ⟨v0, v1, rfl⟩
    rcases he with ⟨rfl, dd, v, dv, z0, rfl, e1, e2, hq⟩ | ⟨rfl, hq⟩
    · refine ⟨true, TX.te, fun _ ea na => ?_, fun h => by cases h⟩
      refine ⟨_, rfl, rfl, rfl, dd, v, rfl, e1, v, dv, z0, rfl, e2, _, _, rfl, rfl, ?_, hq⟩
      exact Nat.le_trans (Nat.add_le_add (show ("unknown " : Str).length ≤ 8 by decide +kernel) e2.size) (by decide)
    · exact ⟨false, en, (fun h => by cases h), fun _ => ⟨true, eo, fun _ ea na => hq, fun h => by cases h⟩⟩
end
end Kl

set_option maxRecDepth 100000
set_option maxHeartbeats 4000000
namespace Kl
open PySem PySem.Spec PyProof.Rows L2 Gx Mx
/-! ### a value of any sort in a tuple of texts -/
def inD (zs : List Str) (d : PyData) : Bool := (tD zs).any fun z => PyData.eqv z d
theorem eqv_str {z : Str} {d : PyData} (h : PyData.eqv (.str z) d = true) : d = .str z := by
  cases d <;> simp [PyData.eqv] at h
  rw [h]
theorem inD_true {zs : List Str} {d : PyData} (h : inD zs d = true) : ∃ z ∈ zs, d = .str z := by
  obtain ⟨x, hx, e⟩ := List.any_eq_true.mp h
  obtain ⟨z, hz, rfl⟩ := List.mem_map.mp hx
  exact ⟨z, hz, eqv_str e⟩
theorem inD_str (zs : List Str) (z : Str) : inD zs (.str z) = decide (z ∈ zs) := by
  rw [Bool.eq_iff_iff, decide_eq_true_iff]
  constructor
  · intro h
    obtain ⟨y, hy, e⟩ := inD_true h
    cases e
    exact hy
  · intro h
    refine List.any_eq_true.mpr ⟨.str z, List.mem_map.mpr ⟨z, h, rfl⟩, ?_⟩
    simp [PyData.eqv]
theorem any_text {K : PySem.W.Frag} {z0 : Addr} {H : Hp} {v : V} {z : Str} (h : AnyV K z0 H v (.str z)) : v = .str z := by
  generalize e : PyData.str z = d at h
  cases h with
  | dat h a b c e1 f _ _ =>
    subst e
    have h1 := h H (ExtX.refl z0 H)
    cases h1
    rfl
  | emp e1 _ => cases e
theorem inD_dict (zs : List Str) : inD zs (.dict []) = false := by
  cases c : inD zs (.dict []) with
  | false => rfl
  | true =>
    obtain ⟨z, _, e⟩ := inD_true c
    cases e
/-- x not in a tuple of texts, x of any sort -/
def rNiA (K : PySem.W.Frag) : R2 := fun x y H Q => ∃ (p : Addr) (zs : List Str) (d : PyData) (z0 : Addr), y = .ref p ∧ SqT K H p (zs.map V.str) ∧ (∀ z ∈ zs, PyData.strOk z = true) ∧ AnyV K z0 H x d ∧ Q (.bl (!inD zs d)) H
theorem op_notInA {X : Cx} {K : PySem.W.Frag} (hk : X.K = K) (hu : X.A.units + 64 < cLine) : OpR X (compareOp .NotIn) (rNiA K) := by
  subst hk
  intro pins s σ H x y v u Q I rx ry h
  obtain ⟨p, zs, d, z0, rfl, hp, ok, hv, q⟩ := h
  refine op_notInTx hu pins s σ H x _ v u Q I rx ry ⟨p, zs, rfl, hp, ok, ?_⟩
  cases hv with
  | dat h a b c e f _ _ => exact .inl ⟨d, h H (ExtX.refl z0 H), b, c, q⟩
  | emp e _ =>
    rw [inD_dict] at q
    exact .inr ⟨_, _, rfl, e, q⟩
section
variable {P : Program} {w : World} {K : PySem.W.Frag} {mg : Str → Option Value} {base : Heap}
/-! ### [..] and users of any value -/
def spKGetX (K : PySem.W.Frag) (C CU : Addr) : Sp := fun vs H Q E => ∃ (x md : Addr) (leaf : Str) (M : Mak) (ns : List Str) (v : V) (d : PyData) (z0 : Addr), vs = [V.ref x, v] ∧ KindsAt C H x md leaf M ns ∧ (∀ z ∈ ns, PyData.strOk z = true) ∧ AnyV K z0 H v d ∧
  (inD ns d = false → ∀ dd H', Same H H' → H' dd = some (.xd [("word", v)]) → E (.ref CU) (some dd) H') ∧
  (∀ z ∈ ns, v = .str z → ∀ p H', Same H H' → ((∃ ps, lookM M z = some ps ∧ TupZ H' p (ps.map V.str)) ∨ (lookM M z = none ∧ H' p = some (.tup []))) → Q (.ref p) H')
theorem ok_kgetX {C CU fI f : Addr} {fd fdI : FuncData} (F : Fun K "__getitem__" "Kinds.__getitem__" s_Kinds_getitem f fd) (T : Top K mg) (TC : Cl_Kinds K mg C) (TX : XT_UnknownName K mg CU fI) (FX : Fun K "__init__" "UnknownName.__init__" s_UnknownName_init fI fdI) :
    FnOk P w K mg base (L2.CX P w) 4 f fd ["self", "name"] (spKGetX K C CU) := by
  refine F.okX sc_Kinds_getitem (fun vs H Q E h => ?_) (fun cdv A outer s H vs Q E hr h => ?_)
  · obtain ⟨x, md, leaf, M, ns, v, d, z0, rfl, _⟩ := h
    rfl
  · obtain ⟨x, md, leaf, M, ns, v, d, z0, rfl, ⟨dx, nt, kvs, hx, hd, hM, hn⟩, ok, hv, qe, q⟩ := h
    have hu := hu_of hr
    refine ⟨_, pss_cons (ps_if (pt_cmpR (op_notInA (K := K) (by rfl) hr.units) (pv 1) (pe_fld (pv 0) rfl) (by rfl)) (pss_one (ps_raiseXC rfl xbase_KeyError TX (init_UnknownName TX FX) hr (takes_of rfl rfl rfl rfl) (pa_cons (pv 1) pa_nil) (by rfl))) pss_nil)
      (pss_one (ps_ret (pe_dget2 hu (pe_fld (pv 0) rfl) (pv 1) (pe_tup pa_nil) (by constructor <;> rfl)))), ?_⟩
    refine ⟨_, rfl, _, rfl, x, C, dx, _, _, rfl, hx, TC.cl, TC.n_names, kf_names _ _ _, nt, ns, d, z0, rfl, .inl (.inl hn), ok, hv, _, rfl, ?_⟩
    cases c : inD ns d with
    | false =>
      show (if (!false) = true then _ else _)
      rw [if_pos (by decide)]
      refine ⟨_, rfl, v, rfl, fun dd nd => ?_⟩
      exact qe c dd _ (same_new (Same.refl H) nd) upd_same
    | true =>
      show (if (!true) = true then _ else _)
      rw [if_neg (by decide)]
      obtain ⟨z, hz, rfl⟩ := inD_true c
      have ev := any_text hv
      subst ev
      refine ⟨_, rfl, x, C, dx, _, _, rfl, hx, TC.cl, TC.n_makings, kf_mak _ _ _, md, rfl, .inl ⟨kvs, .inl hd⟩, _, rfl, Nat.zero_le _, fun p np => ?_⟩
      have s1 : Same H (upd H p (.tup [])) := same_new (Same.refl H) np
      have hd1 := s1 _ _ hd
      rcases hM.get z with ⟨e1, e2⟩ | ⟨ps, a, e1, e2, e3⟩
      · refine ⟨none, .inl ⟨kvs, Sum.inr z, .inl hd1, rfl, e2.symm⟩, ?_⟩
        exact q z hz rfl p _ s1 (.inr ⟨e1, upd_same⟩)
      · refine ⟨some (.ref a), .inl ⟨kvs, Sum.inr z, .inl hd1, rfl, e2.symm⟩, ?_⟩
        exact q z hz rfl a _ s1 (.inl ⟨ps, e1, e3.mono s1⟩)
end
end Kl

set_option maxRecDepth 100000
set_option maxHeartbeats 4000000
namespace Gx
open PySem PySem.Spec PyProof.Rows L2
section
variable {P : Program} {w : World} {K : PySem.W.Frag} {mg : Str → Option Value} {base : Heap} {CX : CXT} {k : Nat} {f : Addr} {fd : FuncData} {ps : List Str} {sp sp' : Sp}
/-- two promises of one def -/
theorem FnOk.or (F : FnOk P w K mg base CX k f fd ps sp) (F' : FnOk P w K mg base CX k f fd ps sp') : FnOk P w K mg base CX k f fd ps (fun vs H Q E => sp vs H Q E ∨ sp' vs H Q E) := by
  refine ⟨fun vs H Q E h => h.elim (F.len _ _ _ _) (F'.len _ _ _ _), fun A outer s H args us vs Q E hr he hb hv hs => ?_⟩
  rcases hs with h | h
  · exact F.run A outer s H args us vs Q E hr he hb hv h
  · exact F'.run A outer s H args us vs Q E hr he hb hv h
/-- what raises nothing keeps its promise where something may be raised -/
theorem fnOk_lift (F : FnOk P w K mg base CX0 k f fd ps sp) : FnOk P w K mg base CX k f fd ps sp :=
  ⟨F.len, fun A outer s H args us vs Q E hr he hb hv hs => codeAny_mono (F.run A outer s H args us vs Q E hr he hb hv hs) fun r s' h => by
    match r, h with
    | .error e, h => exact (show False from h).elim
    | .ok (.ret u), h => exact h⟩
end
end Gx
namespace Kl
open PySem PySem.Spec PyProof.Rows L2 Gx Mx
section
variable {P : Program} {w : World} {K : PySem.W.Frag} {mg : Str → Option Value} {base : Heap}
/-! ### users, losers of any value -/
def spKUseE (K : PySem.W.Frag) (C CU : Addr) : Sp := fun vs H Q E => ∃ (x md : Addr) (leaf : Str) (M : Mak) (ns : List Str) (v : V) (d : PyData) (z0 : Addr), vs = [V.ref x, v] ∧ KindsAt C H x md leaf M ns ∧ (∀ z ∈ ns, PyData.strOk z = true) ∧ AnyV K z0 H v d ∧ inD ns d = false ∧
  ∀ dd H', Same H H' → H' dd = some (.xd [("word", v)]) → E (.ref CU) (some dd) H'
theorem ok_kuseE {C CU fI f : Addr} {fd fdI : FuncData} (F : Fun K "users" "Kinds.users" s_Kinds_users f fd) (T : Top K mg) (TC : Cl_Kinds K mg C) (TX : XT_UnknownName K mg CU fI) (FX : Fun K "__init__" "UnknownName.__init__" s_UnknownName_init fI fdI) :
    FnOk P w K mg base (L2.CX P w) 4 f fd ["self", "name"] (spKUseE K C CU) := by
  refine F.okX sc_Kinds_users (fun vs H Q E h => ?_) (fun cdv A outer s H vs Q E hr h => ?_)
  · obtain ⟨x, md, leaf, M, ns, v, d, z0, rfl, _⟩ := h
    rfl
  · obtain ⟨x, md, leaf, M, ns, v, d, z0, rfl, ⟨dx, nt, kvs, hx, hd, hM, hn⟩, ok, hv, c, qe⟩ := h
    refine ⟨_, pss_cons (ps_if (pt_cmpR (op_notInA (K := K) (by rfl) hr.units) (pv 1) (pe_fld (pv 0) rfl) (by rfl)) (pss_one (ps_raiseXC rfl xbase_KeyError TX (init_UnknownName TX FX) hr (takes_of rfl rfl rfl rfl) (pa_cons (pv 1) pa_nil) (by rfl))) pss_nil)
      (pss_one ps_never), ?_⟩
    refine ⟨_, rfl, _, rfl, x, C, dx, _, _, rfl, hx, TC.cl, TC.n_names, kf_names _ _ _, nt, ns, d, z0, rfl, .inl (.inl hn), ok, hv, _, rfl, ?_⟩
    rw [c]
    show (if (!false) = true then _ else _)
    rw [if_pos (by decide)]
    exact ⟨_, rfl, v, rfl, fun dd nd => qe dd _ (same_new (Same.refl H) nd) upd_same⟩
def spKUseX (K : PySem.W.Frag) (C CU : Addr) : Sp := fun vs H Q E => spKUseE K C CU vs H Q E ∨ spKUse C vs H Q E
theorem ok_kuseX {C CU fI f : Addr} {fd fdI : FuncData} (F : Fun K "users" "Kinds.users" s_Kinds_users f fd) (T : Top K mg) (TC : Cl_Kinds K mg C) (TX : XT_UnknownName K mg CU fI) (FX : Fun K "__init__" "UnknownName.__init__" s_UnknownName_init fI fdI) :
    FnOk P w K mg base (L2.CX P w) 4 f fd ["self", "name"] (spKUseX K C CU) := FnOk.or (ok_kuseE F T TC TX FX) (fnOk_lift ((ok_kuse F T TC).mono (by decide)))
theorem any_str {z0 : Addr} {H : Hp} {z : Str} {d : PyData} (h : AnyV K z0 H (.str z) d) : d = .str z := by
  generalize e : V.str z = v at h
  cases h with
  | dat h a b c e1 f _ _ =>
    subst e
    have h1 := h H (ExtX.refl z0 H)
    cases h1
    rfl
  | emp e1 _ => cases e
/-- losers: the name, or the winner, is wrong -/
def spKLosE (K : PySem.W.Frag) (C CU Co : Addr) : Sp := fun vs H Q E => ∃ (x md : Addr) (leaf : Str) (M : Mak) (ns : List Str) (v u : V) (d e : PyData) (z0 : Addr), vs = [V.ref x, v, u] ∧ KindsAt C H x md leaf M ns ∧ Vld leaf M ∧ (∀ z ∈ ns, PyData.strOk z = true) ∧ AnyV K z0 H v d ∧ AnyV K z0 H u e ∧
  ((inD ns d = false ∧ ∀ dd H', Same H H' → H' dd = some (.xd [("word", v)]) → E (.ref CU) (some dd) H') ∨
   (∃ z, v = .str z ∧ z ∈ ns ∧ inD ((lookM M z).getD []) e = false ∧ ∀ H', Same H H' → E (.ref Co) none H'))
theorem ok_klosE {C CU Co fI f : Addr} {fd fdI : FuncData} (F : Fun K "losers" "Kinds.losers" s_Kinds_losers f fd) (T : Top K mg) (TC : Cl_Kinds K mg C) (TX : XT_UnknownName K mg CU fI) (FX : Fun K "__init__" "UnknownName.__init__" s_UnknownName_init fI fdI)
    (XO : XPln K mg "InvalidOperation" "ValueError.__new__" "ValueError.__init__" [.type "ValueError", .type "Exception", .type "BaseException", .type "object"] Co) (XC : XCls K Co) :
    FnOk P w K mg base (L2.CX P w) 7 f fd ["self", "name", "winner"] (spKLosE K C CU Co) := by
  have cg : CalMY P w K mg base C "__getitem__" 4 ["self", "name"] (spKGetX K C CU) := TC.m_getitem.calY fun f fd F => ok_kgetX F T TC TX FX
  refine F.okX sc_Kinds_losers (fun vs H Q E h => ?_) (fun cdv A outer s H vs Q E hr h => ?_)
  · obtain ⟨x, md, leaf, M, ns, v, u, d, e, z0, rfl, _⟩ := h
    rfl
  · obtain ⟨x, md, leaf, M, ns, v, u, d, e, z0, rfl, hK, hV, ok, hv, hu2, hh⟩ := h
    refine ⟨_, pss_cons (ps_set (i := 3) sc_Kinds_losers.nd rfl (.inl rfl) (pe_ixMX (cg.up (by decide : 4 ≤ 5)) hr (fun σ => passAt (takes_of rfl rfl rfl rfl) σ) (pv 0) (pv 1) (fun _ _ => rfl)))
      (pss_cons (ps_if (pt_cmpR (op_notInA (K := K) (by rfl) hr.units) (pv 2) (pv 3) (by rfl)) (pss_one (ps_raise rfl (takes_of rfl rfl rfl rfl) (pmk_P PySem.F.excBase_ValueError XO XC (pa_cons pe_str pa_nil) (by rfl)))) pss_nil)
      (pss_cons ps_never (pss_one ps_never))), ?_⟩
    obtain ⟨dx, nt, kvs, hx, hd, hM, hn⟩ := id hK
    refine ⟨_, rfl, _, rfl, x, dx, _, rfl, hx, x, md, leaf, M, ns, v, d, z0, rfl, hK, ok, hv, ?_, ?_⟩
    · intro c dd H' s hx'
      rcases hh with ⟨_, q⟩ | ⟨z, rfl, hz, _⟩
      · exact q dd H' s hx'
      · rw [any_str hv, inD_str, decide_eq_true hz] at c
        cases c
    · intro z hz ev p H1 s1 hp
      subst ev
      rcases hh with ⟨c, _⟩ | ⟨z', ev', hz', c, q⟩
      · rw [any_str hv, inD_str, decide_eq_true hz] at c
        cases c
      · cases ev'
        obtain ⟨zs, ez, hs, hok⟩ : ∃ zs : List Str, (lookM M z).getD [] = zs ∧ SqT K H1 p (zs.map V.str) ∧ ∀ y ∈ zs, PyData.strOk y = true := by
          rcases hp with ⟨ps, e1, e2⟩ | ⟨e1, e2⟩
          · exact ⟨ps, by rw [e1]; rfl, e2.sq, fun y hy => names_low (pool_name (hV.part (lookM_some e1) hy))⟩
          · exact ⟨[], by rw [e1]; rfl, .inl (.inl e2), nofun⟩
        rw [ez] at c
        refine ⟨_, rfl, _, rfl, p, zs, e, z0, rfl, hs, hok, hu2.same s1, _, rfl, ?_⟩
        rw [c]
        show (if (!false) = true then _ else _)
        rw [if_pos (by decide)]
        exact ⟨by show 1 ≤ 1000; omega, q H1 s1⟩
end
end Kl

set_option maxRecDepth 100000
set_option maxHeartbeats 4000000
namespace Kl
open PySem PySem.Spec PyProof.Rows L2 Gx Mx
section
variable {P : Program} {w : World} {K : PySem.W.Frag} {mg : Str → Option Value} {base : Heap}
/-! ### the law's dice -/
def spDice (K : PySem.W.Frag) : Sp := fun vs H Q _ => ∃ (a : Addr) (ns : List Int) (i : Nat), vs = [.ref a, .int i] ∧ SqL K H a (ns.map V.int) ∧ ns.length ≤ 63 ∧ i ≤ 1000 ∧
  ∀ (p : Addr) (x b : Int), H p = none → Q (.ref p) (upd H p (.lst [.int x, .int b, .int 0]))
theorem ok_dice {f : Addr} {fd : FuncData} (F : Fun K "_law_dice" "_law_dice" s_law_dice f fd) (T : Top K mg) : FnOk P w K mg base CX0 1 f fd ["_law_script", "_law_spot"] (spDice K) := by
  refine F.ok sc_law_dice (fun vs H Q E h => ?_) (fun cdv A outer s H vs Q E hr h => ?_)
  · obtain ⟨a, ns, i, rfl, _⟩ := h
    rfl
  · obtain ⟨a, ns, i, rfl, hS, hlen, hi, q⟩ := h
    refine ⟨_, pss_cut (ps_set (i := 2) sc_law_dice.nd rfl (.inl rfl) (pe_ifExp
        (pt_cmpR op_lt (pv 1) (pe_callB call_len_seq (by rfl) T.b_len PySem.boot_len (pa_cons (pv 0) pa_nil)) (nomark _))
        (pe_callTy call_int1 (by rfl) T.b_int (by decide +kernel) (pa_cons (pe_ix ix_list (pv 0) (pv 1) (fun _ _ => rfl)) pa_nil))
        (pe_op op_add (pe_op op_mul pe_int (pv 1)) pe_int)))
      (pss_cons (ps_set (i := 3) sc_law_dice.nd rfl (.inl rfl) (pe_op op_mod
        (pe_callB (call_max2 rfl) (by rfl) T.b_max (by decide +kernel) (pa_cons pe_int (pa_cons (pe_op op_sub
          (pe_callB call_abs (by rfl) T.b_abs (by decide +kernel) (pa_cons (pv 2) pa_nil)) (pe_op op_pow pe_int pe_int)) pa_nil)))
        (pe_op op_mulW (pe_op op_pow pe_int pe_int) (pe_op op_pow pe_int pe_int))))
      (pss_one (ps_ret (pe_lst (pa_cons (pv 3) (pa_cons
        (pe_op op_add (pe_op op_add (pe_op op_add (pe_op op_mul (pe_op op_mod (pe_callB call_abs (by rfl) T.b_abs (by decide +kernel) (pa_cons (pv 2) pa_nil)) pe_int) pe_int)
          (pe_op op_mul pe_int (pv 1)))
          (pe_op op_mul pe_int (pe_callTy call_int1 (by rfl) T.b_int (by decide +kernel) (pa_cons (pe_cmpR op_lt (pv 2) pe_int (nomark _)) pa_nil)))) pe_int)
        (pa_cons pe_int pa_nil))))))), ?_⟩
    refine ⟨fun σ' H' => ∃ c : Int, σ' = [some (.ref a), some (.int i), some (.int c), none] ∧ H' = H, ?_, ?_⟩
    · refine ⟨_, rfl, .ref a, rfl, a, _, rfl, .inl hS, _, _, rfl, rfl, _, rfl, ite2 (fun e => ?_) (fun e => ?_)⟩
      · have e' : i < ns.length := by
          have := of_decide_eq_true e
          rw [List.length_map] at this
          omega
        refine ⟨.ref a, rfl, .int i, rfl, a, _, _, .int ns[i], rfl, rfl, hS, atI_nat (by rw [List.getElem?_map, List.getElem?_eq_getElem e']; rfl), .inl ⟨_, rfl, ns[i], rfl, rfl⟩⟩
      · refine ⟨_, rfl, _, _, rfl, rfl, .inl ⟨by decide, by decide⟩, _, _, rfl, rfl, _, rfl, rfl⟩
    · rintro σ' H' ⟨c, rfl, rfl⟩
      refine ⟨_, rfl, _, rfl, ?_⟩
      refine ⟨_, _, rfl, rfl, ⟨by decide, by decide, by decide⟩, ?_⟩
      refine ⟨_, _, rfl, rfl, ?_⟩
      refine ⟨_, _, rfl, ?_⟩
      refine ⟨_, _, rfl, rfl, ⟨by decide, by decide, by decide⟩, ?_⟩
      refine ⟨_, _, rfl, rfl, ⟨by decide, by decide, by decide⟩, ?_⟩
      refine ⟨_, _, rfl, rfl, wide_mul (a := 200) (b := 200) (by decide) (by decide) (by decide) (by decide) (by decide), ?_⟩
      refine ⟨_, _, rfl, rfl, by show (0 : Int) < _; decide, ?_⟩
      generalize (if (if c < 0 then -c else c) - 10 ^ Int.toNat 17 > 0 then (if c < 0 then -c else c) - 10 ^ Int.toNat 17 else 0) % (10 ^ Int.toNat 60 * 10 ^ Int.toNat 60) = left
      refine ⟨_, rfl, _, rfl, _, rfl, _, _, rfl, rfl, by show (0 : Int) < _; decide, _, _, rfl, rfl, .inr ⟨by decide, by decide⟩, ?_⟩
      refine ⟨_, rfl, _, _, rfl, rfl, .inl ⟨by decide, by decide⟩, _, _, rfl, rfl, _, rfl, _, _, rfl, rfl, .inr ⟨_, rfl, ?_⟩⟩
      refine ⟨_, _, rfl, rfl, .inl ⟨by decide, by decide⟩, _, _, rfl, rfl, _, _, rfl, rfl, by show 3 ≤ sizeLine; decide, fun p hp => ?_⟩
      exact q p _ _ hp
def spRoll : Sp := fun vs H Q _ => ∃ (d : Addr) (t : Int), vs = [.ref d, .int t] ∧ DiceAt H d ∧ 0 < t ∧ t.natAbs.log2 < 9000 ∧
  ∀ (r x b c : Int), 0 ≤ r → r < t → Q (.int r) (upd H d (.lst [.int x, .int b, .int c]))
theorem ok_roll {f : Addr} {fd : FuncData} (F : Fun K "_law_roll" "_law_roll" s_law_roll f fd) (T : Top K mg) : FnOk P w K mg base CX0 1 f fd ["_law_dice_here", "_law_total"] spRoll := by
  refine F.ok sc_law_roll (fun vs H Q E h => ?_) (fun cdv A outer s H vs Q E hr h => ?_)
  · obtain ⟨d, t, rfl, _⟩ := h
    rfl
  · obtain ⟨d, t, rfl, ⟨x, b, c, hd⟩, ht, ht2, q⟩ := h
    refine ⟨_, pss_cons (ps_if (pt_cmpR op_gt (pe_ix ix_list (pv 0) pe_int (fun _ _ => rfl)) pe_int (nomark _))
        (pss_cons (ps_set (i := 2) sc_law_roll.nd rfl (.inl rfl) (pe_op op_mod (pe_callTy call_int1 (by rfl) T.b_int (by decide +kernel) (pa_cons (pe_ix ix_list (pv 0) pe_int (fun _ _ => rfl)) pa_nil)) (pv 1)))
        (pss_cons (ps_asg (pe_op op_fdivW (pe_ix ix_list (pv 0) pe_int (fun _ _ => rfl)) (pv 1)) (pg_sub (pv 0) pe_int set_list))
        (pss_one (ps_ret (pv 2))))) pss_nil)
      (pss_cons (ps_asg (pe_op op_add (pe_ix ix_list (pv 0) pe_int (fun _ _ => rfl)) pe_int) (pg_sub (pv 0) pe_int set_list))
      (pss_cons (ps_set (i := 3) sc_law_roll.nd rfl (.inl rfl) (pe_op op_mod (pe_callTy call_int1 (by rfl) T.b_int (by decide +kernel) (pa_cons
        (pe_op op_add (pe_ix ix_list (pv 0) pe_int (fun _ _ => rfl)) (pe_op op_mul pe_int (pe_ix ix_list (pv 0) pe_int (fun _ _ => rfl)))) pa_nil)) pe_int))
      (pss_cons (ps_set (i := 4) sc_law_roll.nd rfl (.inl rfl) (pe_op op_add (pe_op op_mul (pe_op op_mod (pe_callTy call_int1 (by rfl) T.b_int (by decide +kernel) (pa_cons
        (pe_op op_add (pe_op op_mul (pv 3) (pv 3)) (pe_op op_mul pe_int (pe_ix ix_list (pv 0) pe_int (fun _ _ => rfl)))) pa_nil)) pe_int) pe_int) (pv 3)))
      (pss_one (ps_ret (pe_op op_mod (pe_callTy call_int1 (by rfl) T.b_int (by decide +kernel) (pa_cons (pe_op op_fdiv (pv 4) pe_int) pa_nil)) (pv 1))))))), ?_⟩
    have at0 : ∀ (x y z : V), atI [x, y, z] 0 = some x := fun x y z => atI_nat (j := 0) rfl
    have at1 : ∀ (x y z : V), atI [x, y, z] 1 = some y := fun x y z => atI_nat (j := 1) rfl
    have at2 : ∀ (x y z : V), atI [x, y, z] 2 = some z := fun x y z => atI_nat (j := 2) rfl
    have hS : SqL K H d [.int x, .int b, .int c] := .inl (.inl hd)
    refine ⟨_, rfl, d, _, _, _, rfl, rfl, hS, at0 _ _ _, _, _, rfl, rfl, _, rfl, ite2 (fun e => ?_) (fun e => ?_)⟩
    · refine ⟨_, rfl, d, _, _, _, rfl, rfl, hS, at0 _ _ _, .inl ⟨_, rfl, _, rfl, _, _, rfl, rfl, ht, ?_⟩⟩
      refine ⟨_, rfl, d, _, _, _, rfl, rfl, hS, at0 _ _ _, _, rfl, _, _, rfl, rfl, ⟨ht, ht2⟩, ?_⟩
      refine ⟨_, rfl, d, _, _, 0, rfl, rfl, hd, rfl, ?_⟩
      refine ⟨_, rfl, ?_⟩
      exact q _ _ _ _ (Int.emod_nonneg _ (by omega)) (Int.emod_lt_of_pos _ ht)
    · refine ⟨_, rfl, d, _, _, _, rfl, rfl, hS, at2 _ _ _, _, _, rfl, rfl, ?_⟩
      refine ⟨_, rfl, d, _, _, 2, rfl, rfl, hd, rfl, ?_⟩
      have hd1 : (upd H d (.lst ([V.int x, V.int b, V.int c].set 2 (.int (c + 1))))) d = some (.lst [V.int x, V.int b, V.int (c + 1)]) := upd_same
      have hS1 : SqL K (upd H d (.lst ([V.int x, V.int b, V.int c].set 2 (.int (c + 1))))) d [V.int x, V.int b, V.int (c + 1)] := .inl (.inl hd1)
      refine ⟨_, rfl, d, _, _, _, rfl, rfl, hS1, at1 _ _ _, _, rfl, d, _, _, _, rfl, rfl, hS1, at2 _ _ _, _, _, rfl, rfl, .inl ⟨by decide, by decide⟩, _, _, rfl, rfl, .inl ⟨_, rfl, ?_⟩⟩
      refine ⟨_, _, rfl, rfl, by show (0 : Int) < _; decide, ?_⟩
      have h1 := Int.emod_nonneg (b + 7919 * (c + 1)) (show (2305843009213693907 : Int) ≠ 0 by decide)
      have h2 := Int.emod_lt_of_pos (b + 7919 * (c + 1)) (show (0 : Int) < 2305843009213693907 by decide)
      generalize (b + 7919 * (c + 1)) % 2305843009213693907 = one at h1 h2
      refine ⟨_, rfl, _, rfl, _, _, rfl, rfl, .inl ⟨by omega, by omega⟩, _, rfl, d, _, _, _, rfl, rfl, hS1, at2 _ _ _, _, _, rfl, rfl, .inl ⟨by decide, by decide⟩, _, _, rfl, rfl, .inl ⟨_, rfl, ?_⟩⟩
      refine ⟨_, _, rfl, rfl, by show (0 : Int) < _; decide, _, _, rfl, rfl, .inr ⟨by decide, by decide⟩, _, rfl, _, _, rfl, rfl, ?_⟩
      refine ⟨_, rfl, _, _, rfl, rfl, ⟨by decide, by decide⟩, .inl ⟨_, rfl, _, rfl, _, _, rfl, rfl, ht, ?_⟩⟩
      exact q _ _ _ _ (Int.emod_nonneg _ (by omega)) (Int.emod_lt_of_pos _ ht)
/-- what may be picked from: the items of a list, a tuple, a text -/
def Items (K : PySem.W.Frag) (H : Hp) (d : Addr) (x : V) (xs : List V) : Prop :=
  (∃ p, x = .ref p ∧ p ≠ d ∧ (SqL K H p xs ∨ SqT K H p xs)) ∨ ∃ z : Str, x = .str z ∧ xs = signV z ∧ z.length ≤ sizeLine
def spPick (K : PySem.W.Frag) : Sp := fun vs H Q _ => ∃ (d : Addr) (x : V) (xs : List V), vs = [.ref d, x] ∧ DiceAt H d ∧ Items K H d x xs ∧ xs ≠ [] ∧ xs.length ≤ 100000 ∧
  ∀ (v : V) (x b c : Int), v ∈ xs → Q v (upd H d (.lst [.int x, .int b, .int c]))
theorem log2_small {n : Nat} (h : n ≤ 100000) : ((n : Int).natAbs).log2 < 9000 := by
  have h1 : ((n : Int).natAbs) < 2 ^ 20 := by
    rw [Int.natAbs_natCast]
    exact Nat.lt_of_le_of_lt h (by decide)
  exact Nat.lt_of_lt_of_le (PySem.Flt.log2_lt_of (by decide) h1) (by decide)
theorem ok_pick {f : Addr} {fd : FuncData} (F : Fun K "_law_pick" "_law_pick" s_law_pick f fd) (T : Top K mg) : FnOk P w K mg base CX0 2 f fd ["_law_dice_here", "_law_items"] (spPick K) := by
  have cr : Cal P w K mg base 1 "_law_roll" ["_law_dice_here", "_law_total"] spRoll := T.d_law_roll.cal fun f fd F => ok_roll F T
  refine F.ok sc_law_pick (fun vs H Q E h => ?_) (fun cdv A outer s H vs Q E hr h => ?_)
  · obtain ⟨d, x, xs, rfl, _⟩ := h
    rfl
  · obtain ⟨d, x, xs, rfl, hd, hI, hne, hlen, q⟩ := h
    refine ⟨_, pss_one (ps_ret (pe_ix ix_seq (pv 1) (pe_cal cr hr (by rfl) (pa_cons (pv 0) (pa_cons (pe_callB call_len (by rfl) T.b_len PySem.boot_len (pa_cons (pv 1) pa_nil)) pa_nil))) (fun _ _ => rfl))), ?_⟩
    have hpos : 0 < xs.length := List.length_pos_iff.mpr hne
    rcases hI with ⟨p, rfl, hp, hs⟩ | ⟨z, rfl, rfl, hz⟩
    · refine ⟨_, rfl, _, rfl, _, rfl, _, (xs.length : Nat), rfl, ?_, ?_⟩
      · rcases hs with hs | hs
        · exact .inl ⟨_, hs, rfl⟩
        · exact .inr ⟨_, hs, rfl⟩
      · refine ⟨d, _, rfl, hd, by omega, log2_small hlen, fun r x b c h0 h1 => ?_⟩
        obtain ⟨v, hv, ha⟩ := atI_int (xs := xs) h0 h1
        rcases hs with hs | hs
        · exact .inl ⟨p, _, _, v, rfl, rfl, sqL_ne hp hs, ha, q v x b c hv⟩
        · exact .inr (.inl ⟨p, _, _, v, rfl, rfl, sqT_ne hp hs, ha, q v x b c hv⟩)
    · have hlz := signV_len z
      refine ⟨_, rfl, _, rfl, _, rfl, _, (z.length : Nat), rfl, ⟨hz, rfl⟩, ?_⟩
      refine ⟨d, _, rfl, hd, by omega, log2_small (by omega), fun r x b c h0 h1 => ?_⟩
      obtain ⟨v, hv, ha⟩ := atI_int (xs := z.cps.toList) h0 (by rw [Array.length_toList]; exact h1)
      exact .inr (.inr ⟨z, r, v, rfl, rfl, hz, ha, q _ x b c (List.mem_map.mpr ⟨_, hv, rfl⟩)⟩)
end
end Kl

set_option maxRecDepth 100000
set_option maxHeartbeats 4000000
namespace Kl
open PySem PySem.Spec PyProof.Rows L2 Gx Mx
/-! ### all but the dice stays -/
/-- all but what stands at d is as it was -/
def SameX (d : Addr) (H H' : Hp) : Prop := ∀ b o, b ≠ d → H b = some o → H' b = some o
theorem SameX.refl (d : Addr) (H : Hp) : SameX d H H := fun _ _ _ e => e
theorem SameX.trans {d : Addr} {H H' H'' : Hp} (h : SameX d H H') (h' : SameX d H' H'') : SameX d H H'' := fun b o n e => h' b o n (h b o n e)
theorem SameX.atd {d : Addr} {H H' : Hp} {o : HO} (h : SameX d H H') : SameX d H (upd H' d o) := fun b u n e => by rw [upd_ne n]; exact h b u n e
theorem SameX.new {d p : Addr} {H H' : Hp} {o : HO} (h : SameX d H H') (n : H' p = none) : SameX d H (upd H' p o) := fun b u nb e => by
  have e' := h b u nb e
  rw [upd_ne (ne_of_none e' n)]
  exact e'
theorem SameX.at {d p : Addr} {H H' : Hp} {o : HO} (h : SameX d H H') (n : H p = none) : SameX d H (upd H' p o) := fun b u nb e => by
  rw [upd_ne (ne_of_none e n)]
  exact h b u nb e
theorem SameX.of {d : Addr} {H H' : Hp} (h : Same H H') : SameX d H H' := fun b o _ e => h b o e
theorem SameX.free {d p : Addr} {H H' : Hp} (h : SameX d H H') (n : p ≠ d) (e : H' p = none) : H p = none := by
  cases q : H p with
  | none => rfl
  | some o => rw [h p o n q] at e; cases e
theorem dice_ne {H : Hp} {d p : Addr} (h : DiceAt H d) (e : H p = none) : p ≠ d := fun q => by
  obtain ⟨_, _, _, h⟩ := h
  rw [q, h] at e
  cases e
theorem dice_upd {H : Hp} {d p : Addr} {o : HO} (h : DiceAt H d) (n : p ≠ d) : DiceAt (upd H p o) d := by
  obtain ⟨a, b, c, h⟩ := h
  exact ⟨a, b, c, by rw [upd_ne n.symm]; exact h⟩
theorem dice_new {H : Hp} {d : Addr} (x b c : Int) : DiceAt (upd H d (.lst [.int x, .int b, .int c])) d := ⟨_, _, _, upd_same⟩
end Kl

set_option maxRecDepth 100000
set_option maxHeartbeats 4000000
namespace Kl
open PySem PySem.Spec PyProof.Rows L2 Gx Mx
theorem erase_map {α β : Type} (f : α → β) : ∀ (l : List α) (k : Nat), (l.map f).eraseIdx k = (l.eraseIdx k).map f
  | [], _ => rfl
  | _ :: _, 0 => rfl
  | x :: l, k + 1 => congrArg (f x :: ·) (erase_map f l k)
theorem erase_perm {α : Type} : ∀ (l : List α) (k : Nat) (x : α), l[k]? = some x → (x :: l.eraseIdx k).Perm l
  | [], _, _, h => by simp at h
  | y :: l, 0, x, h => by
    simp at h
    subst h
    exact List.Perm.refl _
  | y :: l, k + 1, x, h => by
    have ih := erase_perm l k x h
    exact (List.Perm.swap y x (l.eraseIdx k)).trans (ih.cons y)
section
variable {P : Program} {w : World} {K : PySem.W.Frag} {mg : Str → Option Value} {base : Heap}
/-! ### _law_mixed -/
def spMixed (K : PySem.W.Frag) : Sp := fun vs H Q _ => ∃ (d p : Addr) (zs : List Str), vs = [.ref d, .ref p] ∧ DiceAt H d ∧ p ≠ d ∧ SqL K H p (zs.map V.str) ∧ zs.length ≤ 1000 ∧
  ∀ (q : Addr) (H' : Hp) (ys : List Str), ys.Perm zs → H q = none → H' q = some (.lst (ys.map V.str)) → SameX d H H' → DiceAt H' d → Q (.ref q) H'
theorem seqI {r : Int} {n : Nat} (h0 : 0 ≤ r) (h1 : r < n) : seqIndex? r n = some r.toNat := by
  have e : ¬ r < 0 := by omega
  simp [seqIndex?, e, h0, h1]
theorem ok_mixed {f : Addr} {fd : FuncData} (F : Fun K "_law_mixed" "_law_mixed" s_law_mixed f fd) (T : Top K mg) : FnOk P w K mg base CX0 2 f fd ["_law_dice_here", "_law_items"] (spMixed K) := by
  have cr : Cal P w K mg base 1 "_law_roll" ["_law_dice_here", "_law_total"] spRoll := T.d_law_roll.cal fun f fd F => ok_roll F T
  refine F.ok sc_law_mixed (fun vs H Q E h => ?_) (fun cdv A outer s H vs Q E hr h => ?_)
  · obtain ⟨d, p, zs, rfl, _⟩ := h
    rfl
  · obtain ⟨d, p, zs, rfl, hd, hpd, hs, hl, q⟩ := h
    refine ⟨_, pss_cons (ps_par (i := 2) (j := 3) rfl sc_law_mixed.nd rfl rfl (by decide) rfl rfl (pa_cons (pe_callTy call_list_of (by rfl) T.b_list (by decide +kernel) (pa_cons (pv 1) pa_nil)) (pa_cons (pe_lst pa_nil) pa_nil)) rfl)
      (pss_cons (ps_for PassesOwn.never rfl (pi_range1 (by rfl) T.b_range (pa_cons (pe_callB call_len_seq (by rfl) T.b_len PySem.boot_len (pa_cons (pv 1) pa_nil)) pa_nil)) (pg_name (i := 4) sc_law_mixed.nd rfl (.inl rfl))
        (pss_one (ps_expr (pe_bm PySem.F.plainAttrs_list PySem.F.slot_list_append PySem.F.type_list_append mt_append (pv 3) (pa_cons
          (pe_bm PySem.F.plainAttrs_list PySem.F.slot_list_pop PySem.F.type_list_pop mt_popAt (pv 2) (pa_cons (pe_cal cr hr (by rfl) (pa_cons (pv 0) (pa_cons (pe_callB call_len_seq (by rfl) T.b_len PySem.boot_len (pa_cons (pv 2) pa_nil)) pa_nil))) pa_nil)) pa_nil)))))
      (pss_one (ps_ret (pv 3)))), ?_⟩
    have ln : (zs.map V.str).length = zs.length := List.length_map _
    refine ⟨_, rfl, p, _, rfl, .inl hs, fun l nl => ?_⟩
    have hld : l ≠ d := dice_ne hd nl
    refine ⟨Nat.zero_le _, fun q' nq => ?_⟩
    have hql : q' ≠ l := fun z => by
      rw [z, upd_same] at nq
      cases nq
    have nq0 : H q' = none := by rwa [upd_ne hql] at nq
    have hqd : q' ≠ d := dice_ne hd nq0
    have hp2 : SqL K (upd (upd H l (.lst (zs.map V.str))) q' (.lst [])) p (zs.map V.str) := by
      have s2 : Same H (upd (upd H l (.lst (zs.map V.str))) q' (.lst [])) := same_new (same_new (Same.refl H) nl) nq
      rcases hs with (h | ⟨o, h⟩) | h
      · exact .inl (.inl (s2 _ _ h))
      · exact .inl (.inr ⟨o, s2 _ _ h⟩)
      · exact .inr h
    refine ⟨_, _, rfl, _, rfl, p, _, rfl, .inl hp2, _, rfl, by omega, by omega, ?_⟩
    rw [ln]
    refine for_range (lo := 0) (fun i σ' H' => ∃ t, ∃ ls fs : List Str, σ' = [some (.ref d), some (.ref p), some (.ref l), some (.ref q'), t] ∧ H' l = some (.lst (ls.map V.str)) ∧ H' q' = some (.lst (fs.map V.str)) ∧ fs.length = i ∧ (fs ++ ls).Perm zs ∧ SameX d H H' ∧ DiceAt H' d)
      ⟨none, zs, [], rfl, ?_, upd_same, rfl, List.Perm.refl _, ?_, ?_⟩ (fun i σ' H' hi hP => ?_) (fun σ' H' hP => ?_)
    · rw [upd_ne hql.symm, upd_same]
    · exact ((SameX.refl d H).at nl).at nq0
    · exact dice_upd (dice_upd hd hld) hqd
    · obtain ⟨t, ls, fs, rfl, el, eq, lf, hp, sx, hd'⟩ := hP
      have lz := hp.length_eq
      rw [List.length_append] at lz
      have l1 : 0 < ls.length := by omega
      have lm : (ls.map V.str).length = ls.length := List.length_map _
      refine ⟨_, rfl, ⟨.inl ⟨rfl, _, .inl (.inl eq)⟩, ?_⟩⟩
      refine ⟨_, rfl, ⟨.inl ⟨rfl, _, .inl (.inl el)⟩, ?_⟩⟩
      refine ⟨_, rfl, _, rfl, l, _, rfl, .inl (.inl (.inl el)), d, _, rfl, hd', by rw [lm]; omega, by rw [lm]; exact log2_small (by omega), fun r x b c h0 h1 => ?_⟩
      rw [lm] at h1
      obtain ⟨k, rfl⟩ := Int.eq_ofNat_of_zero_le h0
      have hk : k < ls.length := by omega
      have ek : (ls.map V.str)[k]? = some (.str ls[k]) := by rw [List.getElem?_map, List.getElem?_eq_getElem hk]; rfl
      refine ⟨l, ls.map V.str, (k : Int), k, _, rfl, rfl, by rw [upd_ne hld]; exact el, by omega, by omega, by rw [lm]; exact seqI h0 h1, ek, ?_⟩
      refine ⟨q', fs.map V.str, _, rfl, rfl, by rw [upd_ne hql, upd_ne hqd]; exact eq, ?_, ?_⟩
      · rw [List.length_map]
        exact Nat.lt_of_le_of_lt (show fs.length ≤ 1000 by omega) (by decide)
      · refine ⟨_, ls.eraseIdx k, fs ++ [ls[k]], rfl, ?_, ?_, by rw [List.length_append, lf]; rfl, ?_, ?_, ?_⟩
        · rw [upd_ne hql.symm, upd_same, erase_map]
        · rw [upd_same, List.map_append]
          rfl
        · have e1 := erase_perm ls k _ (List.getElem?_eq_getElem hk)
          rw [List.append_assoc]
          exact (e1.append_left fs).trans hp
        · exact (sx.atd.at nl).at nq0
        · exact dice_upd (dice_upd (dice_new x b c) hld) hqd
    · obtain ⟨t, ls, fs, rfl, el, eq, lf, hp, sx, hd'⟩ := hP
      have lz := hp.length_eq
      rw [List.length_append] at lz
      have e0 : ls = [] := List.eq_nil_of_length_eq_zero (by omega)
      rw [e0, List.append_nil] at hp
      exact ⟨_, rfl, q q' H' fs hp nq0 eq sx hd'⟩
end
end Kl

set_option maxRecDepth 100000
set_option maxHeartbeats 4000000
namespace Kl
open PySem PySem.Spec PyProof.Rows L2 Gx Mx
theorem TupZ.samex {d a : Addr} {H H' : Hp} {xs : List V} (h : TupZ H a xs) (hd : DiceAt H d) (s : SameX d H H') : TupZ H' a xs := by
  obtain ⟨_, _, _, e⟩ := hd
  exact h.at fun o q => s _ _ (h.ne e (fun _ => nofun)) q
theorem MakAt.samex {d : Addr} {H H' : Hp} {kvs : List (Key × V)} {M : Mak} (h : MakAt H kvs M) (hd : DiceAt H d) (s : SameX d H H') : MakAt H' kvs M := h.same fun _ _ q => q.samex hd s
theorem sub_len : ∀ {xs ys : List Str}, xs.Nodup → (∀ z ∈ xs, z ∈ ys) → xs.length ≤ ys.length
  | [], ys, _, _ => Nat.zero_le _
  | x :: xs, ys, nd, hs => by
    have nd' := List.nodup_cons.mp nd
    have hx : x ∈ ys := hs x List.mem_cons_self
    have ih := sub_len nd'.2 (ys := ys.erase x) fun y hy => (List.mem_erase_of_ne (fun q => nd'.1 (by rw [← q]; exact hy))).mpr (hs y (List.mem_cons_of_mem _ hy))
    have e := List.length_erase_of_mem hx
    have p : 0 < ys.length := List.length_pos_of_mem hx
    rw [List.length_cons]
    omega
/-- the makings so far, of the first i names -/
structure Sofar (ns : List Str) (leaf : Str) (i : Nat) (M : Mak) : Prop where
  nd : (keysOf M).Nodup
  sub : ∀ z ∈ keysOf M, z ∈ ns.take i
  all : ∀ z ∈ ns.take i, z ≠ leaf → z ∈ keysOf M
  parts : ∀ m ∈ M, sortedS m.2 = true ∧ 2 ≤ m.2.length ∧ m.2.length ≤ 3 ∧ ∀ p ∈ m.2, p ∈ ns
theorem Sofar.vld {ns : List Str} {leaf : Str} {M : Mak} (h : Sofar ns leaf ns.length M) (hl : leaf ∈ ns) (hp : ∀ z ∈ ns, z ∈ POOL) (h6 : ns.length ≤ 6) : Vld leaf M := by
  have e : ns.take ns.length = ns := List.take_length
  refine ⟨hp _ hl, fun z hz => hp z (by have := h.sub z hz; rwa [e] at this), h.nd, fun m hm => ?_, fun ms nd hs => ?_⟩
  · obtain ⟨p1, p2, p3, p4⟩ := h.parts m hm
    refine ⟨p1, p2, p3, fun p hpm => ?_⟩
    by_cases c : p = leaf
    · exact .inl c
    · exact .inr (h.all p (by rw [e]; exact p4 p hpm) c)
  · refine Nat.le_trans (sub_len nd (ys := ns) fun z hz => ?_) h6
    rcases hs z hz with rfl | q
    · exact hl
    · have := h.sub z q
      rwa [e] at this
theorem Sofar.skip {ns : List Str} {leaf : Str} {i : Nat} {M : Mak} {z : Str} (h : Sofar ns leaf i M) (hz : ns[i]? = some z) (e : z = leaf) : Sofar ns leaf (i + 1) M := by
  have et : ns.take (i + 1) = ns.take i ++ [z] := by rw [List.take_add_one, hz]; rfl
  refine ⟨h.nd, fun y hy => by rw [et]; exact List.mem_append_left _ (h.sub y hy), fun y hy ne => ?_, h.parts⟩
  rw [et, List.mem_append, List.mem_singleton] at hy
  rcases hy with hy | rfl
  · exact h.all y hy ne
  · exact absurd e ne
theorem take_not {ns : List Str} (nd : ns.Nodup) {i : Nat} {z : Str} (hz : ns[i]? = some z) : z ∉ ns.take i := by
  intro hin
  obtain ⟨j, hj⟩ := List.mem_iff_getElem?.mp hin
  rw [List.getElem?_take] at hj
  by_cases c : j < i
  · rw [if_pos c] at hj
    obtain ⟨h1, e1⟩ := List.getElem?_eq_some_iff.mp hj
    obtain ⟨h2, e2⟩ := List.getElem?_eq_some_iff.mp hz
    have := (List.nodup_iff_pairwise_ne.mp nd)
    exact absurd (e1.trans e2.symm) (List.pairwise_iff_getElem.mp this j i h1 h2 c)
  · rw [if_neg c] at hj
    cases hj
theorem Sofar.put {ns : List Str} {leaf : Str} {i : Nat} {M : Mak} {z : Str} {ps : List Str} (h : Sofar ns leaf i M) (nd : ns.Nodup) (hz : ns[i]? = some z) (hs : sortedS ps = true) (h2 : 2 ≤ ps.length) (h3 : ps.length ≤ 3) (hp : ∀ p ∈ ps, p ∈ ns) :
    Sofar ns leaf (i + 1) (M ++ [(z, ps)]) := by
  have et : ns.take (i + 1) = ns.take i ++ [z] := by rw [List.take_add_one, hz]; rfl
  have ek : keysOf (M ++ [(z, ps)]) = keysOf M ++ [z] := by unfold keysOf; rw [List.map_append]; rfl
  have nz : z ∉ keysOf M := fun q => take_not nd hz (h.sub z q)
  refine ⟨?_, fun y hy => ?_, fun y hy ne => ?_, fun m hm => ?_⟩
  · rw [ek, List.nodup_append]
    refine ⟨h.nd, List.nodup_cons.mpr ⟨List.not_mem_nil, List.nodup_nil⟩, fun a ha b hb => ?_⟩
    rw [List.mem_singleton] at hb
    subst hb
    exact fun q => nz (by rw [← q]; exact ha)
  · rw [ek, List.mem_append, List.mem_singleton] at hy
    rw [et, List.mem_append, List.mem_singleton]
    exact hy.imp (h.sub y) id
  · rw [et, List.mem_append, List.mem_singleton] at hy
    rw [ek, List.mem_append, List.mem_singleton]
    exact hy.imp (fun q => h.all y q ne) id
  · rw [List.mem_append, List.mem_singleton] at hm
    rcases hm with hm | rfl
    · exact h.parts m hm
    · exact ⟨hs, h2, h3, hp⟩
theorem MakAt.put {H : Hp} {kvs : List (Key × V)} {M : Mak} {z : Str} {ps : List Str} {t : Addr} (h : MakAt H kvs M) (nz : z ∉ keysOf M) (ht : TupZ H t (ps.map V.str)) : MakAt H (putK kvs (Sum.inr z) (.ref t)) (M ++ [(z, ps)]) := by
  have e : valV kvs (Sum.inr z) = none := by
    rcases h.get z with ⟨_, e⟩ | ⟨ps', a, e1, _⟩
    · exact e
    · rw [lookM_none.mpr nz] at e1
      cases e1
  rw [putK_new _ e]
  unfold MakAt at h ⊢
  clear e nz
  induction h with
  | nil => exact .cons ⟨rfl, t, rfl, ht⟩ .nil
  | cons h _ ih => exact .cons h ih
structure LKs (H : Hp) (d l mk : Addr) (ns : List Str) (leaf : Str) (i : Nat) (H' : Hp) : Prop where
  el : H' l = some (.lst (ns.map V.str))
  mks : ∃ kvs M, H' mk = some (.dK kvs) ∧ MakAt H' kvs M ∧ Sofar ns leaf i M
  sx : SameX d H H'
  hd : DiceAt H' d
theorem LKs.step {H H' H'' : Hp} {d l mk : Addr} {ns : List Str} {leaf : Str} {i : Nat} (h : LKs H d l mk ns leaf i H') (nl : l ≠ d) (nm : mk ≠ d) (s : SameX d H' H'') (hd : DiceAt H'' d) : LKs H d l mk ns leaf i H'' := by
  obtain ⟨el, ⟨kvs, M, e1, e2, e3⟩, sx, hd'⟩ := h
  exact ⟨s _ _ nl el, ⟨kvs, M, s _ _ nm e1, e2.samex hd' s, e3⟩, sx.trans s, hd⟩
end Kl

set_option maxRecDepth 100000
set_option maxHeartbeats 4000000
namespace Kl
open PySem PySem.Spec PyProof.Rows L2 Gx Mx
theorem or_mid {t u : TT} {σ : L2.St} {H : Hp} {Q : Bool → Hp → Prop} (B : Bool → Hp → Prop) (h : ∀ Q' : Bool → Hp → Prop, (∀ c H1, B c H1 → Q' c H1) → tOr t u σ H Q') (k : ∀ c H1, B c H1 → Q c H1) : tOr t u σ H Q := h Q k
section
variable {P : Program} {w : World} {K : PySem.W.Frag} {mg : Str → Option Value} {base : Heap}
def spLKinds : Sp := fun vs H Q _ => ∃ d : Addr, vs = [.ref d, .int 6] ∧ DiceAt H d ∧
  ∀ (p mk : Addr) (leaf : Str) (kvs : List (Key × V)) (M : Mak) (H' : Hp), H' p = some (.lst [.str leaf, .ref mk]) → H' mk = some (.dK kvs) → MakAt H' kvs M → Vld leaf M → H p = none → H mk = none → p ≠ mk → SameX d H H' → DiceAt H' d → Q (.ref p) H'
abbrev NK : List Str := ["_law_dice_here", "_law_most", "_law_pool", "_law_names", "_law_makings", "_law_name", "_law_parts", "_law_turn"]
theorem ok_lkinds {f : Addr} {fd : FuncData} (F : Fun K "_law_kinds" "_law_kinds" s_law_kinds f fd) (T : Top K mg) : FnOk P w K mg base CX0 3 f fd ["_law_dice_here", "_law_most"] spLKinds := by
  have cr : Cal P w K mg base 2 "_law_roll" ["_law_dice_here", "_law_total"] spRoll := (T.d_law_roll.cal fun f fd F => ok_roll F T).mono (by decide)
  have cm : Cal P w K mg base 2 "_law_mixed" ["_law_dice_here", "_law_items"] (spMixed K) := T.d_law_mixed.cal fun f fd F => ok_mixed F T
  have cp : Cal P w K mg base 2 "_law_pick" ["_law_dice_here", "_law_items"] (spPick K) := T.d_law_pick.cal fun f fd F => ok_pick F T
  refine F.ok sc_law_kinds (fun vs H Q E h => ?_) (fun cdv A outer s H vs Q E hr h => ?_)
  · obtain ⟨d, rfl, _⟩ := h
    rfl
  · obtain ⟨d, rfl, hd, q⟩ := h
    have hu := hu_of hr
    refine ⟨_, pss_cons (ps_set (i := 2) sc_law_kinds.nd rfl (.inl rfl) (pe_lst (pa_cons pe_str (pa_cons pe_str (pa_cons pe_str (pa_cons pe_str (pa_cons pe_str (pa_cons pe_str (pa_cons pe_str (pa_cons pe_str pa_nil))))))))))
      (pss_cons (ps_asg (pe_tup (pa_cons (pe_slice sl_list (pe_cal cm hr (by rfl) (pa_cons (pv 0) (pa_cons (pv 2) pa_nil))) po_none (po_some (pe_op op_add pe_int (pe_cal cr hr (by rfl) (pa_cons (pv 0) (pa_cons (pv 1) pa_nil)))))) (pa_cons pe_dnewK pa_nil)))
        (pg_tup rfl (pgs_cons (pg_name (i := 3) sc_law_kinds.nd rfl (.inr rfl)) (pgs_cons (pg_name (i := 4) sc_law_kinds.nd rfl (.inl rfl)) pgs_nil))))
      (pss_cons (ps_for PassesOwn.never rfl (pi_list (pv 3)) (pg_name (i := 5) sc_law_kinds.nd rfl (.inl rfl))
        (pss_one (ps_if (PW.pt (pw_or (pt_cmpR op_ne (pv 5) (pe_ix ix_list (pv 3) pe_int (fun _ _ => rfl)) (by rfl)) (pw_or1 (pt_cmpR op_eq (pe_cal cr hr (by rfl) (pa_cons (pv 0) (pa_cons pe_int pa_nil))) pe_int (nomark _)))))
          (pss_cons (ps_setLc (i := 6) (own := [("_law_turn", 7)]) (g := gName 7) (tt := tYes) (by rfl) sc_law_kinds.nd rfl rfl (sw_true rfl rfl rfl (by decide +kernel)) (pi_range1 (by rfl) T.b_range (pa_cons (pe_cal cp hr (by rfl) (pa_cons (pv 0) (pa_cons (pe_lst (pa_cons pe_int (pa_cons pe_int (pa_cons pe_int pa_nil)))) pa_nil))) pa_nil))
              (blkOk_by (N := NK) (sc := defScope s_law_kinds) (by decide +kernel)) (fun _ _ _ _ _ => pg_name (i := 7) sc_law_kinds.nd rfl (.inl rfl)) (fun _ _ _ _ _ => pts_nil)
              (fun _ _ _ _ _ => pe_cal cp hr (by rfl) (pa_cons (pv 0) (pa_cons (pv 3) pa_nil))))
          (pss_one (ps_asg (pe_callTy call_tupleZ (by rfl) T.b_tuple (by decide +kernel) (pa_cons (pe_callB cr_sortedS (by rfl) T.b_sorted (by decide +kernel) (pa_cons (pv 6) pa_nil)) pa_nil)) (pg_sub (pv 4) (pv 5) (set_dict hu)))))
          pss_nil)))
      (pss_one (ps_ret (pe_lst (pa_cons (pe_ix ix_list (pv 3) pe_int (fun _ _ => rfl)) (pa_cons (pv 4) pa_nil))))))), ?_⟩
    have big : 1000 ≤ sizeLine := by decide
    refine ⟨by show 8 ≤ sizeLine; decide, fun pool np => ?_⟩
    have hpd : pool ≠ d := dice_ne hd np
    have hd1 := dice_upd (o := .lst (LPOOL.map V.str)) hd hpd
    have sx1 : SameX d H (upd H pool (.lst (LPOOL.map V.str))) := (SameX.refl d H).at np
    refine ⟨_, rfl, _, rfl, d, pool, LPOOL, rfl, hd1, hpd, .inl (.inl upd_same), by decide, fun lm H2 ys hperm nlm elm sx2 hd2 => ?_⟩
    have sxa := sx1.trans sx2
    have hlmd : lm ≠ d := dice_ne hd1 nlm
    refine ⟨_, rfl, _, rfl, d, _, rfl, hd2, by decide, by decide, fun r x b c h0 h1 => ⟨_, _, rfl, rfl, _, rfl, ?_⟩⟩
    obtain ⟨k, rfl⟩ := Int.eq_ofNat_of_zero_le h0
    have hk : k < 6 := by omega
    have elm3 : (upd H2 d (.lst [.int x, .int b, .int c])) lm = some (.lst (ys.map V.str)) := by rw [upd_ne hlmd]; exact elm
    have hd3 : DiceAt (upd H2 d (.lst [.int x, .int b, .int c])) d := dice_new x b c
    have sx3 : SameX d H (upd H2 d (.lst [.int x, .int b, .int c])) := sxa.atd
    generalize upd H2 d (.lst [.int x, .int b, .int c]) = H3 at elm3 hd3 sx3
    have l8 : ys.length = 8 := hperm.length_eq
    have ec : cutV (ys.map V.str) none (some (1 + (k : Int))) = (ys.take (k + 1)).map V.str := by
      unfold cutV
      rw [show (1 + (k : Int)) = ((k + 1 : Nat) : Int) by omega, HT.sIx_nat, HT.sIx_none, List.drop_zero, List.map_take, List.length_map, Nat.sub_zero, Nat.min_eq_left (by omega)]
    refine ⟨lm, _, rfl, .inl (.inl elm3), fun l nl => ?_⟩
    rw [ec]
    have hld : l ≠ d := dice_ne hd3 nl
    refine fun mk nm => ⟨by show 2 ≤ sizeLine; decide, fun tp ntp => ?_⟩
    have hml : mk ≠ l := fun z => by
      rw [z, upd_same] at nm
      cases nm
    have nm3 : H3 mk = none := by rwa [upd_ne hml] at nm
    have hmd : mk ≠ d := dice_ne hd3 nm3
    have htm : tp ≠ mk := fun z => by
      rw [z, upd_same] at ntp
      cases ntp
    have htl : tp ≠ l := fun z => by
      rw [upd_ne htm, z, upd_same] at ntp
      cases ntp
    refine ⟨tp, _, rfl, .inl (.inl upd_same), rfl, _, _, rfl, _, _, rfl, rfl, ?_⟩
    have nd8 : ys.Nodup := hperm.nodup_iff.mpr lpool_nd
    have hin : ∀ z ∈ ys.take (k + 1), z ∈ POOL := fun z hz => lpool_in (hperm.mem_iff.mp (List.mem_of_mem_take hz))
    have ndn : (ys.take (k + 1)).Nodup := nd8.sublist (List.take_sublist _ _)
    have ln : (ys.take (k + 1)).length = k + 1 := by rw [List.length_take]; omega
    generalize ys.take (k + 1) = ns at hin ndn ln nm ntp ⊢
    obtain ⟨leaf, rest, rfl⟩ : ∃ leaf rest, ns = leaf :: rest := by
      cases ns with
      | nil => cases ln
      | cons a l => exact ⟨a, l, rfl⟩
    have hK : LKs H d l mk (leaf :: rest) leaf 0 (upd (upd (upd H3 l (.lst ((leaf :: rest).map V.str))) mk (.dK [])) tp (.tup [.ref l, .ref mk])) := by
      refine ⟨?_, ⟨[], [], ?_, .nil, ⟨List.nodup_nil, nofun, nofun, nofun⟩⟩, ?_, ?_⟩
      · rw [upd_ne htl.symm, upd_ne hml.symm, upd_same]
      · rw [upd_ne htm.symm, upd_same]
      · exact ((sx3.new nl).new nm).new ntp
      · refine dice_upd (dice_upd (dice_upd hd3 hld) hmd) fun z => ?_
        rw [upd_ne htm, upd_ne htl] at ntp
        exact dice_ne hd3 ntp z
    have nlH : H l = none := sx3.free hld nl
    have nmH : H mk = none := sx3.free hmd nm3
    generalize upd (upd (upd H3 l (.lst ((leaf :: rest).map V.str))) mk (.dK [])) tp (.tup [.ref l, .ref mk]) = H6 at hK
    refine ⟨_, rfl, l, rfl, ⟨_, .inl (.inl hK.el)⟩, ?_⟩
    refine for_it (walk_list (K := K) (a := l) (xs := (leaf :: rest).map V.str)) (fun i σ' H' => ∃ y5 y6 y7, σ' = [some (.ref d), some (.int 6), some (.ref pool), some (.ref l), some (.ref mk), y5, y6, y7] ∧ LKs H d l mk (leaf :: rest) leaf i H')
      ⟨_, _, _, rfl, hK⟩ (fun i σ' H' _ hP => by obtain ⟨_, _, _, _, h⟩ := hP; exact .inl (.inl h.el)) (fun i v σ' H' H'' hi hP hy => ?_) (fun σ' H' hP => ?_)
    · obtain ⟨y5, y6, y7, rfl, hK⟩ := hP
      obtain ⟨rfl, hv⟩ := hy
      obtain ⟨z, hz, rfl⟩ := at_texts hv
      refine or_mid (fun c H1 => LKs H d l mk (leaf :: rest) leaf i H1 ∧ (c = false → z = leaf)) (fun Q' hQ' => ?_) (fun c H1 hc => ?_)
      · refine ⟨_, rfl, _, rfl, l, _, _, _, rfl, rfl, .inl (.inl hK.el), atI_nat (j := 0) rfl, rfl, _, rfl, ?_⟩
        refine ite2 (fun e => ?_) (fun e => ?_)
        · rw [Bool.not_eq_true', decide_eq_false_iff_not] at e
          exact hQ' _ _ ⟨hK, fun q => nomatch q⟩
        · rw [Bool.not_eq_true', decide_eq_false_iff_not, Classical.not_not] at e
          refine ⟨_, rfl, d, _, rfl, hK.hd, by decide, by decide, fun r x b c h0 h1 => ⟨rfl, _, rfl, ?_⟩⟩
          exact hQ' _ _ ⟨hK.step hld hmd ((SameX.refl d _).atd) (dice_new x b c), fun _ => V.str.inj e⟩
      · obtain ⟨hK1, hc⟩ := hc
        cases c with
        | false =>
          obtain ⟨kvs, M, e1, e2, e3⟩ := hK1.mks
          exact ⟨_, _, _, rfl, hK1.el, ⟨kvs, M, e1, e2, e3.skip hz (hc rfl)⟩, hK1.sx, hK1.hd⟩
        | true =>
          rw [if_pos rfl]
          refine ⟨_, rfl, by show 3 ≤ sizeLine; decide, fun tl ntl => ?_⟩
          have htl' : tl ≠ d := dice_ne hK1.hd ntl
          refine ⟨d, .ref tl, _, rfl, dice_upd hK1.hd htl', .inl ⟨tl, rfl, htl', .inl (.inl (.inl upd_same))⟩, nofun, by decide, fun v x b c hv => ?_⟩
          obtain ⟨n, rfl, n2, n3⟩ : ∃ n : Nat, v = .int n ∧ 2 ≤ n ∧ n ≤ 3 := by
            simp only [List.mem_cons, List.not_mem_nil, or_false] at hv
            rcases hv with rfl | rfl | rfl
            · exact ⟨2, rfl, by omega, by omega⟩
            · exact ⟨2, rfl, by omega, by omega⟩
            · exact ⟨3, rfl, by omega, by omega⟩
          have hK2 := hK1.step hld hmd (((SameX.refl d H1).new (o := .lst [.int 2, .int 2, .int 3]) ntl).atd (o := .lst [.int x, .int b, .int c])) (dice_new x b c)
          generalize upd (upd H1 tl (.lst [.int 2, .int 2, .int 3])) d (.lst [.int x, .int b, .int c]) = H2 at hK2
          refine ⟨_, rfl, by omega, by omega, fun D nD => ?_⟩
          have hDd : D ≠ d := dice_ne hK2.hd nD
          rw [Int.toNat_natCast]
          refine lc_range (lo := 0) (fun j G => ∃ fs : List Str, G D = some (.lst (fs.map V.str)) ∧ fs.length = j ∧ (∀ p ∈ fs, p ∈ leaf :: rest) ∧ SameX d H2 G ∧ DiceAt G d)
            ⟨[], upd_same, rfl, nofun, (SameX.refl d H2).new nD, dice_upd hK2.hd hDd⟩ (fun j G hj hP => ?_) (fun G hP => ?_)
          · obtain ⟨fs, eD, lf, hf, sx, hdG⟩ := hP
            refine ⟨rfl, _, rfl, _, rfl, d, .ref l, _, rfl, hdG, .inl ⟨l, rfl, hld, .inl (.inl (.inl (sx _ _ hld hK2.el)))⟩, nofun, ?_, fun v x b c hv => ?_⟩
            · rw [List.length_map]
              omega
            · obtain ⟨p, hp, rfl⟩ := List.mem_map.mp hv
              refine ⟨fs.map V.str, by rw [upd_ne hDd]; exact eD, ?_, fs ++ [p], ?_, by rw [List.length_append, lf]; rfl, fun y hy => ?_, ?_, dice_upd (dice_new x b c) hDd⟩
              · rw [List.length_map]
                omega
              · rw [upd_same, List.map_append]
                rfl
              · rw [List.mem_append, List.mem_singleton] at hy
                rcases hy with hy | rfl
                · exact hf y hy
                · exact hp
              · exact sx.atd.at nD
          · obtain ⟨fs, eD, lf, hf, sx, hdG⟩ := hP
            have hK3 := hK2.step hld hmd sx hdG
            refine ⟨_, rfl, D, fs, rfl, .inl (.inl eD), by omega, fun zs sp hperm hsrt nsp => ?_⟩
            refine ⟨sp, _, rfl, .inl (.inl upd_same), fun t H3 ht nt heq => ?_⟩
            have sm : Same G H3 := fun b u e => by
              rw [heq b (ne_of_none (same_new (Same.refl G) nsp b u e) nt)]
              exact same_new (Same.refl G) nsp b u e
            obtain ⟨x3, b3, c3, ed⟩ := hdG
            have hK4 := hK3.step hld hmd (SameX.of sm) ⟨x3, b3, c3, sm _ _ ed⟩
            obtain ⟨kvs, M, e1, e2, e3⟩ := hK4.mks
            have nz : z ∉ keysOf M := fun q => take_not ndn hz (e3.sub z q)
            have lkv : kvs.length < sizeLine := by
              rw [e2.len]
              have h1 := sub_len e3.nd e3.sub
              rw [List.length_take] at h1
              unfold keysOf at h1
              rw [List.length_map] at h1
              omega
            have lz := hperm.length_eq
            refine ⟨_, rfl, _, rfl, mk, _, rfl, .inl ⟨kvs, Sum.inr z, e1, rfl, lkv, rfl⟩, ?_⟩
            refine ⟨_, _, _, rfl, ?_, ⟨_, M ++ [(z, zs)], upd_same, ?_, e3.put ndn hz hsrt (by omega) (by omega) fun p hp => hf p (hperm.mem_iff.mp hp)⟩, hK4.sx.at nmH, dice_upd hK4.hd hmd⟩
            · rw [upd_ne hml.symm]
              exact hK4.el
            · exact (e2.put nz ht).same fun a xs h => h.at fun o e => by
                rw [upd_ne (h.ne e1 (fun _ => nofun))]
                exact e
    · obtain ⟨y5, y6, y7, rfl, hK⟩ := hP
      rw [List.length_map] at hK
      obtain ⟨kvs, M, e1, e2, e3⟩ := hK.mks
      refine ⟨_, rfl, l, _, _, _, rfl, rfl, .inl (.inl hK.el), atI_nat (j := 0) rfl, _, rfl, by show 2 ≤ sizeLine; decide, fun p npp => ?_⟩
      have hpm : p ≠ mk := fun z => by
        rw [z, e1] at npp
        cases npp
      have hpd' : p ≠ d := dice_ne hK.hd npp
      have sxp : SameX d H (upd H' p (.lst [.str leaf, .ref mk])) := hK.sx.new npp
      refine q p mk leaf kvs M _ upd_same (by rw [upd_ne hpm.symm]; exact e1) (e2.samex hK.hd ((SameX.refl d H').new npp)) (e3.vld List.mem_cons_self hin (by omega)) (hK.sx.free hpd' npp) nmH hpm sxp (dice_upd hK.hd hpd')
end
end Kl

set_option maxRecDepth 100000
set_option maxHeartbeats 4000000
namespace Kl
open PySem PySem.Spec PyProof.Rows L2 Gx Mx
/-! ### data that are small -/
theorem ok_app (a b : Str) : PyData.strOk (a ++ b) = (PyData.strOk a && PyData.strOk b) := by
  show (a.cps ++ b.cps).all _ = (a.cps.all _ && b.cps.all _)
  rw [Array.all_append]
theorem ok_join {e : Str} (he : PyData.strOk e = true) {zs : List Str} (h : ∀ z ∈ zs, PyData.strOk z = true) : PyData.strOk (Txt.join e zs) = true := by
  rw [TL.join_eq]
  induction zs with
  | nil => show PyData.strOk Str.empty = true; decide +kernel
  | cons x r ih =>
    have hx := h x List.mem_cons_self
    cases r with
    | nil => exact hx
    | cons y r =>
      have i := ih fun z hz => h z (List.mem_cons_of_mem _ hz)
      show PyData.strOk (x ++ e ++ Str.join e (y :: r)) = true
      rw [ok_app, ok_app, hx, he, i]
      rfl
theorem pool_ok {z : Str} (h : z ∈ POOL) : PyData.strOk z = true := names_low (pool_name h)
structure Sm (B k : Nat) (d : PyData) : Prop where
  lay : d.canLay0 = true
  dp : d.depth ≤ k
  wt : d.weight ≤ B
  sh : d.showable = true
  is : d.intsShort 13 = true
theorem Sm.str {B k : Nat} {s : Str} (h : PyData.strOk s = true) (hl : s.length ≤ B) : Sm B k (.str s) := ⟨h, Nat.zero_le _, hl, rfl, rfl⟩
theorem Sm.up {B B' k k' : Nat} {d : PyData} (h : Sm B k d) (hB : B ≤ B') (hk : k ≤ k') : Sm B' k' d := ⟨h.lay, Nat.le_trans h.dp hk, Nat.le_trans h.wt hB, h.sh, h.is⟩
theorem Sm.all {B k : Nat} : ∀ {ds : List PyData}, (∀ d ∈ ds, Sm B k d) → PyData.canLayAll0 ds = true ∧ PyData.depthAll ds ≤ k ∧ PyData.weightAll ds ≤ ds.length * (B + 1) ∧ PyData.showableAll ds = true ∧ PyData.intsShortAll 13 ds = true
  | [], _ => ⟨rfl, Nat.zero_le _, Nat.zero_le _, rfl, rfl⟩
  | d :: ds, h => by
    obtain ⟨h1, h2, h3, h4, h5⟩ := h d List.mem_cons_self
    obtain ⟨i1, i2, i3, i4, i5⟩ := Sm.all (ds := ds) fun x hx => h x (List.mem_cons_of_mem _ hx)
    refine ⟨?_, ?_, ?_, ?_, ?_⟩
    · rw [PyData.canLayAll0, h1, i1]; rfl
    · rw [PyData.depthAll]; exact Nat.max_le.mpr ⟨h2, i2⟩
    · rw [PyData.weightAll, List.length_cons, Nat.succ_mul]
      omega
    · rw [PyData.showableAll, h4, i4]; rfl
    · rw [PyData.intsShortAll, h5, i5]; rfl
theorem Sm.tup {B k n B' k' : Nat} {ds : List PyData} (h : ∀ d ∈ ds, Sm B k d) (hn : ds.length ≤ n) (hB : n * (B + 1) ≤ B') (hk : k + 1 ≤ k') : Sm B' k' (.tuple ds) := by
  obtain ⟨i1, i2, i3, i4, i5⟩ := Sm.all h
  have hm : ds.length * (B + 1) ≤ n * (B + 1) := Nat.mul_le_mul_right _ hn
  exact ⟨i1, by rw [PyData.depth]; omega, by rw [PyData.weight]; omega, i4, i5⟩
theorem Sm.lst {B k n B' k' : Nat} {ds : List PyData} (h : ∀ d ∈ ds, Sm B k d) (hn : ds.length ≤ n) (hB : n * (B + 1) ≤ B') (hk : k + 1 ≤ k') : Sm B' k' (.list ds) := by
  obtain ⟨i1, i2, i3, i4, i5⟩ := Sm.all h
  have hm : ds.length * (B + 1) ≤ n * (B + 1) := Nat.mul_le_mul_right _ hn
  exact ⟨i1, by rw [PyData.depth]; omega, by rw [PyData.weight]; omega, i4, i5⟩
theorem Sm.int {B k n : Nat} (h : n ≤ 6) (hB : 3 ≤ B) : Sm B k (.int (n : Int)) := by
  have e : (List.range 7).all (fun n => decide (PyData.weight (.int (n : Int)) ≤ 3) && PyData.showable (.int (n : Int)) && PyData.intsShort 13 (.int (n : Int))) = true := by decide +kernel
  have e2 := List.all_eq_true.mp e n (List.mem_range.mpr (by omega))
  rw [Bool.and_eq_true, Bool.and_eq_true] at e2
  exact ⟨rfl, Nat.zero_le _, Nat.le_trans (of_decide_eq_true e2.1.1) hB, e2.1.2, e2.2⟩
/-- what repr asks of data -/
theorem Sm.repr {B k : Nat} {d : PyData} (h : Sm B k d) (hB : B ≤ 1000000) (hk : k ≤ 60) : d.showable = true ∧ d.hasDict = false ∧ d.depth ≤ 60 ∧ d.shown.length ≤ sizeLine := by
  have hl : PyData.layable0 d = true := by
    show (PyData.canLay0 d && decide (PyData.depth d ≤ 64) && decide (PyData.weight d ≤ 2 ^ 20)) = true
    rw [h.lay, decide_eq_true (show d.depth ≤ 64 from Nat.le_trans h.dp (by omega)), decide_eq_true (show d.weight ≤ 2 ^ 20 from Nat.le_trans h.wt (Nat.le_trans hB (by decide)))]
    rfl
  refine ⟨h.sh, PyData.hasDict_of_layable hl, Nat.le_trans h.dp hk, Nat.le_trans (shown_le13 hl h.is) (by decide)⟩
/-- texts -/
theorem sm_texts {B n : Nat} {zs : List Str} (h : ∀ z ∈ zs, PyData.strOk z = true ∧ z.length ≤ B) (hn : zs.length ≤ n) : Sm (n * (B + 1)) 1 (.tuple (tD zs)) := by
  refine Sm.tup (k := 0) (n := n) (fun d hd => ?_) (by unfold tD; rw [List.length_map]; exact hn) (Nat.le_refl _) (Nat.le_refl _)
  obtain ⟨z, hz, rfl⟩ := List.mem_map.mp hd
  exact Sm.str (h z hz).1 (h z hz).2
theorem line_ok {leaf : Str} {M : Mak} (v : Vld leaf M) : ∀ z ∈ linesK leaf M, PyData.strOk z = true ∧ z.length ≤ 100 := by
  intro z hz
  unfold linesK at hz
  rcases List.mem_cons.mp hz with rfl | hz
  · refine ⟨?_, ?_⟩
    · rw [ok_app, pool_ok v.lf, show PyData.strOk ("leaf " : Str) = true by decide +kernel]
      rfl
    · have l5 : ("leaf " : Str).length = 5 := rfl
      have := pool_len v.lf
      rw [len_app]
      omega
  · obtain ⟨m, hm, rfl⟩ := List.mem_map.mp hz
    have hp : m.1 ∈ POOL := v.keys _ (List.mem_map.mpr ⟨m, hm, rfl⟩)
    refine ⟨?_, ?_⟩
    · unfold lineK
      rw [ok_app, ok_app, ok_app, pool_ok hp, ok_join (e := "+") (by decide +kernel) fun z hz => pool_ok (v.part hm hz), show PyData.strOk ("kind " : Str) = true by decide +kernel, show PyData.strOk (" " : Str) = true by decide +kernel]
      rfl
    · unfold lineK
      have k5 : ("kind " : Str).length = 5 := rfl
      have k1 : (" " : Str).length = 1 := rfl
      have l1 := pool_len hp
      have l3 := join_short (e := "+") rfl fun z hz => pool_len (v.part hm hz)
      have l4 := (v.parts m hm).2.2.1
      rw [len_app, len_app, len_app]
      omega
theorem strK_ok {n : Nat} {leaf : Str} (h : n ≤ 6) (hl : leaf ∈ POOL) : PyData.strOk (strK n leaf) = true ∧ (strK n leaf).length ≤ 100 := by
  have e : (List.range 7).all (fun n => PyData.strOk ((toString (n : Int) : Str))) = true := by decide +kernel
  have e2 := List.all_eq_true.mp e n (List.mem_range.mpr (by omega))
  have k13 : (" kinds, leaf " : Str).length = 13 := rfl
  have l1 := strK_len h
  have l2 := pool_len hl
  unfold strK
  refine ⟨?_, ?_⟩
  · rw [ok_app, ok_app, e2, pool_ok hl, show PyData.strOk (" kinds, leaf " : Str) = true by decide +kernel]
    rfl
  · rw [len_app, len_app]
    omega
def toldD (leaf : Str) (M : Mak) (ns : List Str) : PyData := .tuple [.str leaf, .tuple (tD ns), .tuple (tD (linesK leaf M)), .int (ns.length : Nat), .str (strK ns.length leaf)]
theorem sm_told {leaf : Str} {M : Mak} {ns : List Str} (v : Vld leaf M) (hn : ∀ z ∈ ns, PyData.strOk z = true ∧ z.length ≤ 8) (h6 : ns.length ≤ 6) : Sm 1000000 60 (toldD leaf M ns) := by
  have lM := v.len
  refine Sm.tup (B := 1000) (k := 1) (n := 5) (fun d hd => ?_) (Nat.le_refl 5) (by decide) (by decide)
  simp only [List.mem_cons, List.not_mem_nil, or_false] at hd
  obtain ⟨k1, k2⟩ := strK_ok h6 v.lf
  rcases hd with rfl | rfl | rfl | rfl | rfl
  · exact Sm.str (pool_ok v.lf) (Nat.le_trans (pool_len v.lf) (by decide))
  · exact (sm_texts hn h6).up (by decide) (Nat.le_refl _)
  · exact (sm_texts (n := 7) (line_ok v) (by unfold linesK; rw [List.length_cons, List.length_map]; omega)).up (by decide) (Nat.le_refl _)
  · exact Sm.int h6 (by decide)
  · exact Sm.str k1 (Nat.le_trans k2 (by decide))
/-- the pairs of makings as data -/
def pairsD (M : Mak) : List PyData := M.map fun m => .tuple [.str m.1, .tuple (tD m.2)]
theorem sm_pairs {leaf : Str} {M : Mak} (v : Vld leaf M) : Sm 1000000 60 (.list (pairsD M)) := by
  have lM := v.len
  refine Sm.lst (B := 1000) (k := 2) (n := 6) (fun d hd => ?_) (by unfold pairsD; rw [List.length_map]; exact lM) (by decide) (by decide)
  obtain ⟨m, hm, rfl⟩ := List.mem_map.mp hd
  refine Sm.tup (B := 100) (k := 1) (n := 2) (fun d hd => ?_) (Nat.le_refl 2) (by decide) (by decide)
  have hp : m.1 ∈ POOL := v.keys _ (List.mem_map.mpr ⟨m, hm, rfl⟩)
  simp only [List.mem_cons, List.not_mem_nil, or_false] at hd
  rcases hd with rfl | rfl
  · exact Sm.str (pool_ok hp) (Nat.le_trans (pool_len hp) (by decide))
  · exact (sm_texts (B := 8) (n := 3) (fun z hz => ⟨pool_ok (v.part hm hz), pool_len (v.part hm hz)⟩) (v.parts m hm).2.2.1).up (by decide) (Nat.le_refl _)
theorem dp_items {K : PySem.W.Frag} {H : Hp} : ∀ {ts : List Addr} {kvs : List (Key × V)} {M : Mak}, Paired (fun (t : Addr) (q : Key × V) => H t = some (.tup [kV q.1, q.2])) ts kvs → MakAt H kvs M → DpAll K H (ts.map V.ref) (pairsD M)
  | _, _, [], .nil, .nil => .nil
  | _, _, m :: M, .cons h r, .cons h' r' => by
    obtain ⟨h1, a, h2, h3⟩ := h'
    rw [h1, h2] at h
    exact .cons (.tup (.inl (.inl h)) (.cons (.str _) (.cons (.tup h3.sq (dp_texts _)) .nil))) (dp_items r r')
/-- .. and one by one -/
theorem dp_pairs {K : PySem.W.Frag} {H : Hp} {M : Mak} : ∀ {ts : List Addr} {ys : List Str}, Paired (fun (t : Addr) (z : Str) => ∃ a ps, lookM M z = some ps ∧ H t = some (.tup [.str z, .ref a]) ∧ TupZ H a (ps.map V.str)) ts ys → DpAll K H (ts.map V.ref) (pairsD (ys.map fun z => (z, (lookM M z).getD [])))
  | _, _, .nil => .nil
  | _, _, .cons h r => by
    obtain ⟨a, ps, h1, h2, h3⟩ := h
    refine .cons ?_ (dp_pairs r)
    show Dp K H _ (.tuple [.str _, .tuple (tD ((lookM M _).getD []))])
    rw [h1]
    exact .tup (.inl (.inl h2)) (.cons (.str _) (.cons (.tup h3.sq (dp_texts _)) .nil))
theorem users_in {leaf : Str} {M : Mak} (v : Vld leaf M) (z : Str) : ∀ y ∈ usersK M z, PyData.strOk y = true ∧ y.length ≤ 8 := by
  intro y hy
  unfold usersK at hy
  obtain ⟨m, hm, rfl⟩ := List.mem_map.mp hy
  have hp : m.1 ∈ POOL := v.keys _ (List.mem_map.mpr ⟨m, (List.mem_filter.mp hm).1, rfl⟩)
  exact ⟨pool_ok hp, pool_len hp⟩
theorem users_len {leaf : Str} {M : Mak} (v : Vld leaf M) (z : Str) : (usersK M z).length ≤ 6 := by
  unfold usersK
  rw [List.length_map]
  exact Nat.le_trans (List.length_filter_le _ _) v.len
theorem sm_users {leaf : Str} {M : Mak} (v : Vld leaf M) (z : Str) : Sm 1000000 60 (.tuple (tD (usersK M z))) := (sm_texts (users_in v z) (users_len v z)).up (by decide) (by decide)
theorem sm_parted {leaf : Str} {M : Mak} (v : Vld leaf M) {z : Str} {ps : List Str} (h : lookM M z = some ps) (t : Str) : Sm 1000000 60 (.tuple (tD (partedK ps t))) := by
  have hm := lookM_some h
  have l3 : ps.length ≤ 3 := (v.parts _ hm).2.2.1
  refine (sm_texts (B := 8) (n := 6) (fun y hy => ?_) ?_).up (by decide) (by decide)
  · unfold partedK at hy
    have hin : y ∈ ps := by
      rcases List.mem_append.mp hy with h | h
      · exact List.mem_of_mem_take h
      · exact List.mem_of_mem_drop h
    exact ⟨pool_ok (v.part hm hin), pool_len (v.part hm hin)⟩
  · unfold partedK
    rw [List.length_append, List.length_take, List.length_drop]
    omega
theorem any_tD (ns : List Str) (z : Str) : ((tD ns).any fun y => PyData.eqv y (.str z)) = decide (z ∈ ns) := by
  unfold tD
  rw [List.any_map, Bool.eq_iff_iff, List.any_eq_true, decide_eq_true_eq]
  constructor
  · rintro ⟨y, hy, q⟩
    have e : (PyData.eqv (.str y) (.str z)) = true := q
    rw [PyData.eqv, beq_iff_eq] at e
    rw [← e]
    exact hy
  · intro h
    refine ⟨z, h, ?_⟩
    show PyData.eqv (.str z) (.str z) = true
    rw [PyData.eqv, beq_iff_eq]
/-- the making of z, as .get(z, ()) tells it -/
def MkgAt (H : Hp) (M : Mak) (z : Str) (mk : Addr) : Prop := (∃ ps, lookM M z = some ps ∧ TupZ H mk (ps.map V.str)) ∨ (lookM M z = none ∧ H mk = some (.tup []))
theorem MkgAt.mono {H H' : Hp} {M : Mak} {z : Str} {mk : Addr} (h : MkgAt H M z mk) (s : Same H H') : MkgAt H' M z mk := by
  rcases h with ⟨ps, e, t⟩ | ⟨e, t⟩
  · exact .inl ⟨ps, e, t.mono s⟩
  · exact .inr ⟨e, s _ _ t⟩
theorem MkgAt.sq {K : PySem.W.Frag} {H : Hp} {M : Mak} {z : Str} {mk : Addr} (h : MkgAt H M z mk) : SqT K H mk (((lookM M z).getD []).map V.str) := by
  rcases h with ⟨ps, e, t⟩ | ⟨e, t⟩
  · rw [e]
    exact t.sq
  · rw [e]
    exact .inl (.inl t)
theorem making_shaped {leaf : Str} {M : Mak} (v : Vld leaf M) (z : Str) : SeqAt.shaped (.tuple (tD ((lookM M z).getD []))) = true := by
  cases e : lookM M z with
  | none => exact texts_shaped [] nofun (by decide)
  | some ps => exact v.shaped _ (lookM_some e)
/-- d.get(z, ()) of the dict of makings -/
theorem get2_at {H : Hp} {pd : Addr} {kvs : List (Key × V)} {M : Mak} (hd : H pd = some (.dK kvs)) (hM : MakAt H kvs M) (z : Str) {e0 : Addr} (ne : H e0 = none) :
    ∃ o mk, DGet (upd H e0 (.tup [])) pd (.str z) o ∧ o.getD (.ref e0) = .ref mk ∧ MkgAt (upd H e0 (.tup [])) M z mk := by
  have s1 : Same H (upd H e0 (.tup [])) := same_new (Same.refl H) ne
  rcases hM.get z with ⟨e1, e2⟩ | ⟨ps, a, e1, e2, e3⟩
  · exact ⟨none, e0, .inl ⟨kvs, Sum.inr z, .inl (s1 _ _ hd), rfl, e2.symm⟩, rfl, .inr ⟨e1, upd_same⟩⟩
  · exact ⟨some (.ref a), a, .inl ⟨kvs, Sum.inr z, .inl (s1 _ _ hd), rfl, e2.symm⟩, rfl, .inl ⟨ps, e1, e3.mono s1⟩⟩
theorem no_ne {z : Str} {Q R : Prop} (r : R) : if (!decide (V.str z = V.str z)) = true then Q else R := by
  rw [decide_eq_true (rfl : V.str z = V.str z), Bool.not_true, if_neg (by decide)]
  exact r
theorem any_ne {d : PyData} (h : ∀ z : Str, PyData.eqv (.str z) d = false) (ns : List Str) : ((tD ns).any fun y => PyData.eqv y d) = false := by
  unfold tD
  rw [List.any_map]
  exact List.any_eq_false.mpr fun z _ => by
    show ¬ PyData.eqv (.str z) d = true
    rw [h z]
    decide
theorem not_pool : (("" : Str) ∉ POOL) ∧ (("q" : Str) ∉ POOL) := by constructor <;> decide +kernel
theorem blank_not {leaf : Str} (h : leaf ∈ POOL) : leaf ++ (" " : Str) ∉ POOL := by
  have e : POOL.all (fun l => decide (l ++ (" " : Str) ∉ POOL)) = true := by decide +kernel
  exact of_decide_eq_true (List.all_eq_true.mp e leaf h)
/-- the odd values of the law are in no kinds -/
theorem odd_no {K : PySem.W.Frag} {H : Hp} {leaf : Str} {ns : List Str} {e0 t1 l1 pd : Addr} (hl : leaf ∈ POOL) (hp : ∀ z ∈ ns, z ∈ POOL) (h0 : H e0 = some (.tup [])) (h1 : H t1 = some (.tup [.str leaf])) (h2 : H l1 = some (.lst [.str leaf])) :
    ∀ v ∈ [V.non, V.int 0, V.ref e0, V.str "", V.str "q", V.str (leaf ++ " "), V.ref t1, V.ref l1, V.ref pd], v = V.ref pd ∨ ∃ d, Dp K H v d ∧ d.canLay0 = true ∧ d.depth ≤ 10 ∧ ((tD ns).any fun y => PyData.eqv y d) = false := by
  intro v hv
  have str_no : ∀ {s : Str}, s ∉ POOL → PyData.strOk s = true → ∃ d, Dp K H (.str s) d ∧ d.canLay0 = true ∧ d.depth ≤ 10 ∧ ((tD ns).any fun y => PyData.eqv y d) = false := fun {s} n ok =>
    ⟨.str s, .str s, ok, by show 0 ≤ 10; decide, by rw [any_tD]; exact decide_eq_false fun h => n (hp _ h)⟩
  simp only [List.mem_cons, List.not_mem_nil, or_false] at hv
  rcases hv with rfl | rfl | rfl | rfl | rfl | rfl | rfl | rfl | rfl
  · exact .inr ⟨.none, .non, rfl, by show 0 ≤ 10; decide, any_ne (fun z => by simp [PyData.eqv]) ns⟩
  · exact .inr ⟨.int 0, .int 0, rfl, by show 0 ≤ 10; decide, any_ne (fun z => by simp [PyData.eqv]) ns⟩
  · exact .inr ⟨.tuple [], .tup (.inl (.inl h0)) .nil, rfl, by show 1 ≤ 10; decide, any_ne (fun z => by simp [PyData.eqv]) ns⟩
  · exact .inr (str_no not_pool.1 (by decide +kernel))
  · exact .inr (str_no not_pool.2 (by decide +kernel))
  · exact .inr (str_no (blank_not hl) (by rw [ok_app, pool_ok hl]; decide +kernel))
  · exact .inr ⟨.tuple [.str leaf], .tup (.inl (.inl h1)) (.cons (.str _) .nil), by show (PyData.strOk leaf && true) = true; rw [pool_ok hl]; rfl, by show 1 ≤ 10; decide, any_ne (fun z => by simp [PyData.eqv]) ns⟩
  · exact .inr ⟨.list [.str leaf], .lst (.inl (.inl h2)) (.cons (.str _) .nil), by show (PyData.strOk leaf && true) = true; rw [pool_ok hl]; rfl, by show 1 ≤ 10; decide, any_ne (fun z => by simp [PyData.eqv]) ns⟩
  · exact .inl rfl
end Kl

set_option maxRecDepth 100000
set_option maxHeartbeats 4000000
namespace Gx
open PySem PySem.Spec PyProof.Rows L2 PpSet
/-! ### {text for x in xs}, and its length -/
section
variable {P : Program} {w : World} {A : Around} {E : Value → Shared → Prop} {s : Shared} {a : Addr} {L : List Str}
theorem SetX.typeIs (R : SetX P w s.heap a L) : s.TypeIs (.ref a) "set" := by
  obtain ⟨ob, _, _, _, here, ex, _⟩ := R
  exact ⟨ob, here, ex.1⟩
theorem text_add {z : Str} {tk : Tok} {Q : Value → Shared → Prop} (R : SetX P w s.heap a L) (room : L.length + 1 < scanBound)
    (done : ∀ h2 t2, Heap.SameBut a s.heap h2 → SetX P w h2 a (L ++ [z]) → Q .none { s with heap := h2, toks := t2 }) : wpAny (model P w) A (call (.builtin "set.add") [.ref a, .str z tk]) Q E s := by
  refine wpAny_call_entry PySem.F.slot_set_add R.typeIs PySem.F.entry_set_add ?_ (PySem.F.args_set_add_2 (.ref a) (.str z tk))
  unfold Builtin.«set.add» Builtin.Frozenset.oneOther Builtin.Frozenset.addrOf setAdd
  simp only [List.isEmpty_nil, bind_assoc]
  refine wpAny_bind (m := pure _) (wpAny_pure ?_)
  refine wpAny_bind (m := pure _) (wpAny_pure ?_)
  dsimp only
  refine wpAny_bind (wpAny_holding (wpAny_bind ((PySem.strKind P w).pyHash (strKind_is P w z tk) ?_)))
  refine setX_add (s := { s with toks := s.toks + 1 }) R room fun h2 b2 keep new => ?_
  exact wpAny_pure ⟨Value.none, rfl, done h2 _ keep new⟩
end
section
variable {X : Cx}
theorem setO_ok {P : Program} {w : World} {G : Hp} {h : Heap} {D : Addr} {L : List Str} (R : SetX P w h D L) : ObjOk P w G h D (SetO' P w D L) := by
  obtain ⟨ob, e⟩ : ∃ ob, h.get? D = some ob := by
    obtain ⟨ob, _, _, _, e, _⟩ := id R
    exact ⟨ob, e⟩
  exact ⟨R, ⟨ob, e⟩, fun _ _ p k => SetX.at p k⟩
/-- .add of a text, in the description of the heap -/
theorem add_text {pins : List (Addr × Obj)} {σ : L2.St} {G : Hp} {s : Shared} {E : Value → Shared → Prop} {D : Addr} {L : List Str} {z : Str} {tk : Tok} {Q : Value → Shared → Prop} (J : Inv X pins σ G s) (hD : G D = some (SetO' X.prog X.w D L)) (room : L.length + 1 < scanBound)
    (done : ∀ s2, Inv X pins σ (upd G D (SetO' X.prog X.w D (L ++ [z]))) s2 → Q .none s2) : wpAny (model X.prog X.w) X.A (call (.builtin "set.add") [.ref D, .str z tk]) Q E s := by
  have R : SetX X.prog X.w s.heap D L := (J.hok D _ hD).1
  refine text_add R room fun h2 t2 keep new => done _ ?_
  obtain ⟨ob, _, _, _, e, _⟩ := id new
  exact J.write (e := D) (t' := t2) (by rw [hD]; trivial) (.inl rfl) (fun b u nb eb => (keep.2 b nb).trans eb) ⟨ob, e⟩ (setO_ok new)
/-- {elt for target in iter if ..}, elt a text: D the new set, L what was put in, in this order -/
def tScX (P : Program) (w : World) (wi : TI) (g : TG) (tt : TT) (te : TE) (vs : List Nat) : TE := fun σ G Q => wi σ G fun J G1 => ∀ D, G1 D = none → ∃ V : Nat → Nat → Hp → Prop, (∃ m, V 0 m (upd G1 D (SetO' P w D []))) ∧ ∀ i m G, V i m G →
  (J.stop i G ∧ Q (.ref D) G) ∨ (J.go i G ∧ ∃ Nx : Hp → Prop, (∀ G', Nx G' → ∃ m', m' < m ∧ V (i + 1) m' G') ∧ ∀ x G', J.yld i G x G' → g x (wipe σ vs) G' fun σ2 G2 => wipe σ2 vs = wipe σ vs ∧ tt σ2 G2 fun b G3 =>
    if b = true then te σ2 G3 fun y G4 => ∃ (z : Str) (L : List Str), y = .str z ∧ G4 D = some (SetO' P w D L) ∧ L.length + 1 < scanBound ∧ Nx (upd G4 D (SetO' P w D (L ++ [z]))) else Nx G3)
theorem scX_core {pins : List (Addr × Obj)} {s : Shared} {σ : L2.St} {G : Hp} {Q : VK} {elt tg iter : Expr} {ifs : List Expr} {scope : Scope} {own : List (Str × Nat)} {pos pos' : Pos} {wi : TI} {g : TG} {tt : TT} {te : TE} {use : Option (Value → Sem Unit)} {Qf : Value → Shared → Prop}
    (hc : X.calm = true) (nd : X.N.Nodup) (inv : Inv X pins σ G s) (hi : PI X tg iter wi) (ok : BlkOk X.N X.env.scope scope own)
    (hg : ∀ (s : Shared) (G : Hp) (C : Addr) (cl : List (Str × Addr)) (fp : List Addr), PG (X.blk s G scope (compEnvC scope cl C X.env) fp) tg g) (ht : ∀ (s : Shared) (G : Hp) (C : Addr) (cl : List (Str × Addr)) (fp : List Addr), PTs (X.blk s G scope (compEnvC scope cl C X.env) fp) ifs tt)
    (he : ∀ (s : Shared) (G : Hp) (C : Addr) (cl : List (Str × Addr)) (fp : List Addr), PE (X.blk s G scope (compEnvC scope cl C X.env) fp) elt te) (hs : ∀ x, foldedSetIterable iter X.env x = pure x)
    (want : tScX X.prog X.w wi g tt te (own.map (·.2)) σ G Q)
    (after : ∀ D C s' m G', Inv X pins σ G' s' → Q (.ref D) G' → s'.heap.Ns C m → FpOk X pins G' C → compPost (model X.prog X.w) X.A X.xe use Qf (.ref D) C (.ok .next) s') :
    wpAny (model X.prog X.w) X.A (comprehension (.SetComp elt [⟨tg, iter, ifs, 0⟩] scope pos) scope X.env pos' (newSet (.type "set")) false (eval iter X.env) use) Qf X.xe s := by
  have cells : ∀ y ∈ scope.names, y.2 = .free → ∃ c, X.env.cells.lookup y.1 = some c := by
    intro y hy e
    rcases ok.free y hy e with k | k
    · exact inv.ok.has _ (.inl k)
    · exact inv.ok.has _ (.inr k)
  have uniq : ∀ y ∈ scope.names, y.2 = .local → scope.names.lookup y.1 = some .local := fun y hy e => by
    have k := ok.uniq y hy
    rw [e] at k
    exact k
  refine wpAny_comprehension_free (use := use) rfl hs (closure_ok cells) ok.kind uniq (thn (hi.run pins s σ G _ inv want) fun xv s1 hx => thn hx fun itv s2 h2 => ?_)
  obtain ⟨it, fp, tn, J, G2, rfl, inv2, turns, at2, free2, rest⟩ := h2
  refine newSet_ok (newEnv_comp ?_)
  generalize eD : s2.heap.objs.size = D
  have noD : G2 D = none := inv2.hok.fresh (Nat.le_of_eq eD)
  obtain ⟨V, ⟨m0, v0⟩, turn⟩ := rest D noD
  -- the set is laid
  generalize es3 : ({ s2 with heap := s2.heap.push { cls := .type "set", dict := none, data := .set #[] 0 (.fresh 0 0 (!X.w.params.followText "set-order")) } } : Shared) = s3
  have hp3 : s3.heap = s2.heap.push { cls := .type "set", dict := none, data := .set #[] 0 (.fresh 0 0 (!X.w.params.followText "set-order")) } := by rw [← es3]
  have inv3 : Inv X pins σ (upd G2 D (SetO' X.prog X.w D [])) s3 := by
    rw [← es3]
    refine inv2.laid (t' := s2.toks) (fun b o e => Heap.get?_push_of_some _ e) (Nat.le_of_eq eD) ?_
    rw [← eD]
    exact setO_ok setX_fresh
  have low : ∀ b ∈ fp, b < s2.heap.objs.size := by
    intro b hb
    obtain ⟨o, e, _⟩ := turns.obj _ _ at2 b hb
    exact Heap.lt_size e
  have free3 : ∀ b ∈ fp, FpOk X pins (upd G2 D (SetO' X.prog X.w D [])) b ∧ b < s3.heap.objs.size := by
    intro b hb
    have lt := low b hb
    have ne : b ≠ D := by
      rw [← eD]
      exact Nat.ne_of_lt lt
    refine ⟨⟨by rw [upd_ne ne]; exact (free2 b hb).1, (free2 b hb).2⟩, ?_⟩
    rw [hp3, Heap.size_push]
    exact Nat.lt_succ_of_lt lt
  have at3 : tn 0 s3.heap := turns.keep _ _ _ at2 fun b _ o e => by
    rw [hp3]
    exact Heap.get?_push_of_some _ e
  have inv4 := block_start inv3 ok nd free3
  have pg := hg s3 (upd G2 D (SetO' X.prog X.w D [])) s3.heap.objs.size (cellsFrom (s3.heap.objs.size + 1) scope.names (cloFrom X.env.cells scope.names [])) fp
  have pt := ht s3 (upd G2 D (SetO' X.prog X.w D [])) s3.heap.objs.size (cellsFrom (s3.heap.objs.size + 1) scope.names (cloFrom X.env.cells scope.names [])) fp
  have pe := he s3 (upd G2 D (SetO' X.prog X.w D [])) s3.heap.objs.size (cellsFrom (s3.heap.objs.size + 1) scope.names (cloFrom X.env.cells scope.names [])) fp
  have none3 : ∀ b ∈ fp, (upd G2 D (SetO' X.prog X.w D [])) b = none := fun b hb => (free3 b hb).1.1
  show codeAny _ _ (.compStart (.SetComp elt [⟨tg, iter, ifs, 0⟩] scope pos) 0 (.ref it) (.ref D) (compEnvC scope (cellsFrom (s3.heap.objs.size + 1) scope.names (cloFrom X.env.cells scope.names [])) s3.heap.objs.size X.env))
    (compPost (model X.prog X.w) X.A X.xe use Qf (.ref D) s3.heap.objs.size) { s3 with heap := pushCells (s3.heap.push { cls := .type "dict", data := .dict #[] }) scope.names }
  generalize en : compEnvC scope (cellsFrom (s3.heap.objs.size + 1) scope.names (cloFrom X.env.cells scope.names [])) s3.heap.objs.size X.env = inner at inv4 pg pt pe ⊢
  have own1 : inner.locals = s3.heap.objs.size := by
    subst en
    rfl
  generalize eG3 : upd G2 D (SetO' X.prog X.w D []) = G3 at inv3 inv4 pg pt pe v0 none3 free3
  generalize es4 : ({ s3 with heap := pushCells (s3.heap.push { cls := .type "dict", data := .dict #[] }) scope.names } : Shared) = s4 at inv4 ⊢
  have at4 : tn 0 s4.heap := turns.keep _ _ _ at3 fun b _ o e => by
    rw [← es4]
    exact pushCells_keeps _ _ _ _ (Heap.get?_push_of_some _ e)
  have quiet : ∀ {σ' : L2.St} {G' : Hp} {s' : Shared}, Inv (X.blk s3 G3 scope inner fp) [] σ' G' s' → (∀ b ∈ fp, G' b = none) → ∀ b ∈ fp, FpOk (X.blk s3 G3 scope inner fp) [] G' b := by
    intro σ' G' s' J' hn b hb
    refine ⟨hn b hb, (J'.ok.exf b hb).1, J'.ok.exfs b hb, .inl hb, fun x c e => (J'.ok.exf b hb).2 x c e, fun p hp => ?_⟩
    exact absurd (show p ∈ ([] : List (Addr × Obj)) ++ [] from hp) (by simp)
  refine (fun loop => codeAny_compStart_set loop (turns.self X.A 0 _ _ _ at4 loop)) ?_
  refine compLoopS_any (fun n s' => ∃ i G', Inv (X.blk s3 G3 scope inner fp) [] (wipe σ (own.map (·.2))) G' s' ∧ tn i s'.heap ∧ (∀ b ∈ fp, G' b = none) ∧ V i n G') ?_ m0 ⟨0, G3, inv4, at4, none3, v0⟩
  rintro n s5 ⟨i, G5, inv5, at5, none5, v5⟩
  rcases turn i n G5 v5 with ⟨stop, qq⟩ | ⟨go, Nx, small, step⟩
  · -- no item is left
    refine thnF (turns.done (X.blk s3 G3 scope inner fp) rfl rfl rfl hc i [] s5 _ G5 (fun _ _ => False) inv5 (quiet inv5 none5) at5 stop) fun r s6 ⟨hr, inv6⟩ => ?_
    subst hr
    have back : Inv X pins σ G5 s6 := inv3.call' (ch := fp) inv6.os inv6.base inv6.hok inv6.bare fun b hb => ⟨(free3 b hb).1.2.2.2.1, (free3 b hb).1.2.1, (free3 b hb).1.2.2.2.2.1, (free3 b hb).1.2.2.2.2.2⟩
    have noC : G5 s3.heap.objs.size = none := by
      have k : G5 inner.locals = none := inv6.free
      rwa [own1] at k
    obtain ⟨m, ns, _⟩ := inv6.loc
    have ns' : s6.heap.Ns inner.locals m := ns
    rw [own1] at ns'
    exact after D s3.heap.objs.size s6 m G5 back qq ns' (inv3.fpOk (Nat.le_refl _) noC)
  · -- one item more
    refine thnF (turns.item (X.blk s3 G3 scope inner fp) rfl rfl rfl hc i [] s5 _ G5 (fun _ _ => False) inv5 (quiet inv5 none5) at5 go) fun r s6 ⟨u, hr, h6⟩ => ?_
    subst hr
    refine thnF h6 fun _ s7 ⟨x, G7, inv7, rel7, y7, at7, none7⟩ => ?_
    have pinned := inv7.pinned (quiet inv7 none7) (turns.obj _ _ at7)
    refine thnF (pg.run _ s7 _ G7 x u _ pinned rel7 (step x G7 y7)) fun _ s8 ⟨σ8, G8, inv8, same8, q8⟩ => ?_
    refine thnF (pt.run _ s8 σ8 G8 _ inv8 q8) fun b s9 ⟨G9, inv9, q9⟩ => ?_
    have over : ∀ {s' : Shared} {G' : Hp}, Inv (X.blk s3 G3 scope inner fp) ([] ++ pinsAt fp s7.heap) σ8 G' s' → Nx G' → ∃ m, m < n ∧ ∃ i G', Inv (X.blk s3 G3 scope inner fp) [] (wipe σ (own.map (·.2))) G' s' ∧ tn i s'.heap ∧ (∀ b ∈ fp, G' b = none) ∧ V i m G' := by
      intro s' G' J' nx
      obtain ⟨m', lt, v'⟩ := small G' nx
      have held : ∀ b ∈ fp, ∀ o, s7.heap.get? b = some o → s'.heap.get? b = some o ∧ G' b = none := by
        intro b hb o e
        have k := J'.pin (b, o) (List.mem_append_right _ (List.mem_append_right _ (mem_pinsAt hb e)))
        exact ⟨k.1, k.2.1⟩
      have len : (wipe σ (own.map (·.2))).length = σ8.length := by
        rw [← same8]
        exact wipe_length ..
      refine ⟨m', lt, i + 1, G', (J'.unpinned (pins := [])).weak len (fun j v e => ?_), turns.keep _ _ _ at7 fun b hb o e => (held b hb o e).1, fun b hb => ?_, v'⟩
      · rw [← same8] at e
        exact (wipe_some e).1
      · obtain ⟨o, e, _⟩ := turns.obj _ _ at7 b hb
        exact (held b hb o e).2
    cases b with
    | false =>
      rw [if_neg (by decide)] at q9
      rw [if_neg (by decide)]
      exact over inv9 q9
    | true =>
      rw [if_pos rfl] at q9
      rw [if_pos rfl]
      refine thnF (pe.run _ s9 σ8 G9 _ inv9 q9) fun val s10 ⟨y, G10, inv10, rel10, z, L, ey, atD, few, nx⟩ => ?_
      subst ey
      obtain ⟨tk, rfl⟩ := rel10
      exact add_text (X := X.blk s3 G3 scope inner fp) inv10 atD few fun s11 inv11 => over inv11 nx
/-- .. as a value -/
theorem pe_scX {elt tg iter : Expr} {ifs : List Expr} {scope : Scope} {own : List (Str × Nat)} {pos : Pos} {wi : TI} {g : TG} {tt : TT} {te : TE} (hc : X.calm = true) (nd : X.N.Nodup) (hi : PI X tg iter wi) (ok : BlkOk X.N X.env.scope scope own)
    (hg : ∀ (s : Shared) (G : Hp) (C : Addr) (cl : List (Str × Addr)) (fp : List Addr), PG (X.blk s G scope (compEnvC scope cl C X.env) fp) tg g) (ht : ∀ (s : Shared) (G : Hp) (C : Addr) (cl : List (Str × Addr)) (fp : List Addr), PTs (X.blk s G scope (compEnvC scope cl C X.env) fp) ifs tt)
    (he : ∀ (s : Shared) (G : Hp) (C : Addr) (cl : List (Str × Addr)) (fp : List Addr), PE (X.blk s G scope (compEnvC scope cl C X.env) fp) elt te) (hs : ∀ x, foldedSetIterable iter X.env x = pure x := by intro _; rfl) :
    PE X (.SetComp elt [⟨tg, iter, ifs, 0⟩] scope pos) (tScX X.prog X.w wi g tt te (own.map (·.2))) := by
  refine ⟨fun pins s σ G Q inv want => ?_⟩
  rw [eval_SetComp]
  refine scX_core hc nd inv hi ok hg ht he hs want fun D C s' m G' inv' q ns f => ⟨m, ns, fun h2 sb => ?_⟩
  obtain ⟨f0, f1, _, f3, f4, f5⟩ := f
  exact ⟨.ref D, G', inv'.turned (t' := s'.toks) (fun b o hb e => (sb.2 b hb).trans e) f0 f1 f3 f4 f5, rfl, q⟩
/-- len of a set of texts that came once each -/
theorem cr_lenX : CallR X (.builtin "len") (fun xs G Q => ∃ (a : Addr) (L : List Str), xs = [.ref a] ∧ G a = some (SetO' X.prog X.w a L) ∧ L.Nodup ∧ L.length ≤ 1000 ∧ Q (.int (L.length : Nat)) G) := by
  intro pins s σ G xs us Q inv r want
  obtain ⟨a, L, rfl, ea, nd, few, q⟩ := want
  rw [Vals.ref1 r]
  obtain ⟨ob, ms, ep, tb, here, ex, dt, _, nd2, mem, _, ft, _⟩ : SetX X.prog X.w s.heap a L := (inv.hok a _ ea).1
  have size : ms.size = L.length := by
    have p := ((List.perm_ext_iff_of_nodup nd nd2).mpr mem).length_eq
    rw [List.length_map, Array.length_toList] at p
    exact p.symm
  refine call_len_set here ex dt ft (by rw [size]; omega) ⟨.int (L.length : Nat), G, inv.tok _, ⟨_, by rw [size]⟩, q⟩
/-- over any walk -/
theorem sc_it {P : Program} {w : World} {J : It} {n : Nat} {C : Hp → Prop} {Y : Nat → Hp → V → Hp → Prop} (k : Walk J n C Y) {g : TG} {tt : TT} {te : TE} {vs : List Nat} {σ : L2.St} {G1 : Hp} {D : Addr} {Qd : Hp → Prop} (Pv : Nat → Hp → Prop) (h0 : Pv 0 (upd G1 D (SetO' P w D [])))
    (hC : ∀ i G, i ≤ n → Pv i G → C G)
    (hs : ∀ i x G G', i < n → Pv i G → Y i G x G' → g x (wipe σ vs) G' fun σ2 G2 => wipe σ2 vs = wipe σ vs ∧ tt σ2 G2 fun b G3 =>
      if b = true then te σ2 G3 fun y G4 => ∃ (z : Str) (L : List Str), y = .str z ∧ G4 D = some (SetO' P w D L) ∧ L.length + 1 < scanBound ∧ Pv (i + 1) (upd G4 D (SetO' P w D (L ++ [z]))) else Pv (i + 1) G3) (hd : ∀ G, Pv n G → Qd G) :
    ∃ V : Nat → Nat → Hp → Prop, (∃ m, V 0 m (upd G1 D (SetO' P w D []))) ∧ ∀ i m G, V i m G →
      (J.stop i G ∧ Qd G) ∨ (J.go i G ∧ ∃ Nx : Hp → Prop, (∀ G', Nx G' → ∃ m', m' < m ∧ V (i + 1) m' G') ∧ ∀ x G', J.yld i G x G' → g x (wipe σ vs) G' fun σ2 G2 => wipe σ2 vs = wipe σ vs ∧ tt σ2 G2 fun b G3 =>
        if b = true then te σ2 G3 fun y G4 => ∃ (z : Str) (L : List Str), y = .str z ∧ G4 D = some (SetO' P w D L) ∧ L.length + 1 < scanBound ∧ Nx (upd G4 D (SetO' P w D (L ++ [z]))) else Nx G3) := by
  refine ⟨fun i m G => m = n - i ∧ i ≤ n ∧ Pv i G, ⟨n, rfl, Nat.zero_le n, h0⟩, ?_⟩
  rintro i m G ⟨rfl, le, p⟩
  have c := hC i G le p
  rcases Nat.lt_or_eq_of_le le with lt | rfl
  · exact .inr ⟨k.goes i G lt c, Pv (i + 1), fun G' p' => ⟨n - (i + 1), by omega, rfl, lt, p'⟩, fun x G' y => hs i x G G' lt p (k.yields i G x G' lt c y)⟩
  · exact .inl ⟨k.stops G c, hd G p⟩
end
end Gx

set_option maxRecDepth 100000
set_option maxHeartbeats 4000000
namespace Kl
open PySem PySem.Spec PyProof.Rows L2 Gx Mx
/-! ### a dict from names to names -/
def imgs (f : Str → Str) (ks : List Str) : List (Key × V) := ks.map fun z => (Sum.inr z, V.str (f z))
theorem imgs_in {f : Str → Str} : ∀ {ks : List Str} {z : Str}, z ∈ ks → valV (imgs f ks) (Sum.inr z) = some (.str (f z))
  | y :: ks, z, h => by
    show valV ((Sum.inr y, V.str (f y)) :: imgs f ks) (Sum.inr z) = _
    by_cases c : y = z
    · rw [valV_pos (by rw [c]), c]
    · rw [valV_neg fun q => c (Sum.inr.inj q)]
      rcases List.mem_cons.mp h with e | h
      · exact absurd e.symm c
      · exact imgs_in h
theorem imgs_no {f : Str → Str} : ∀ {ks : List Str} {z : Str}, z ∉ ks → valV (imgs f ks) (Sum.inr z) = none
  | [], _, _ => rfl
  | y :: ks, z, h => by
    rw [List.mem_cons, not_or] at h
    show valV ((Sum.inr y, V.str (f y)) :: imgs f ks) (Sum.inr z) = _
    rw [valV_neg fun q => h.1 (Sum.inr.inj q).symm]
    exact imgs_no h.2
theorem imgs_len (f : Str → Str) (ks : List Str) : (imgs f ks).length = ks.length := List.length_map _
section
variable {P : Program} {w : World} {K : PySem.W.Frag} {mg : Str → Option Value} {base : Heap}
/-! ### is_renaming -/
def spIsRen (K : PySem.W.Frag) : Sp := fun vs H Q _ => ∃ (nd t : Addr) (f : Str → Str) (ks ns : List Str), vs = [V.ref nd, .ref t] ∧ H nd = some (.dK (imgs f ks)) ∧ SqT K H t (ns.map V.str) ∧ ks.Perm ns ∧ ns.Nodup ∧ ns.length ≤ 6 ∧ (∀ z ∈ ns, f z ∈ POOL) ∧ (ns.map f).Nodup ∧
  ∀ H', Same H H' → Q (.bl true) H'
abbrev NQ : List Str := ["names", "kinds", "name"]
theorem ok_isren {f : Addr} {fd : FuncData} (F : Fun K "is_renaming" "is_renaming" s_is_renaming f fd) (T : Top K mg) : FnOk P w K mg base CX0 3 f fd ["names", "kinds"] (spIsRen K) := by
  have cn : Cal P w K mg base 2 "is_name" ["value"] (spName K) := (T.d_is_name.cal fun f fd F => ok_name F T).mono (by decide)
  refine F.ok sc_is_renaming (fun vs H Q E h => ?_) (fun cdv A outer s H vs Q E hr h => ?_)
  · obtain ⟨nd, t, f, ks, ns, rfl, _⟩ := h
    rfl
  · obtain ⟨nd, t, f, ks, ns, rfl, hd, ht, hp, nn, l6, hP, hf, q⟩ := h
    have hu := hu_of hr
    refine ⟨_, pss_cons (ps_if (PW.pt (pw_or (pt_not (pt_val (pe_callB call_isi (by rfl) T.b_isinstance (by decide +kernel) (pa_cons (pv 0) (pa_cons (pe_bltn (v := .ty "dict") (by rfl) T.b_dict (by decide +kernel) rfl) pa_nil)))))
          (pw_or1 (pt_cmpR op_ne (pe_callB call_lenD (by rfl) T.b_len PySem.boot_len (pa_cons (pv 0) pa_nil)) (pe_callB call_len_seq (by rfl) T.b_len PySem.boot_len (pa_cons (pv 1) pa_nil)) (nomark _))))) (pss_one (ps_ret pe_bl)) pss_nil)
      (pss_cons (ps_if (pt_not (pt_val (pe_callB (cr_all rfl) (by rfl) T.b_all (by decide +kernel) (pa_cons (pe_lc (own := [("name", 2)]) (g := gName 2) (tt := tYes) rfl sc_is_renaming.nd (pi_tup (pv 1))
            (blkOk_by (N := NQ) (sc := defScope s_is_renaming) (by decide +kernel)) (fun _ _ _ _ _ => pg_name (i := 2) sc_is_renaming.nd rfl (.inl rfl)) (fun _ _ _ _ _ => pts_nil)
            (fun _ _ _ _ _ => pe_and (pe_cmp (pc_din hu (pv 2) (pv 0))) (pe_one (pe_cal cn hr (by rfl) (pa_cons (pe_dget hu (pv 0) (pv 2) (fun _ _ => rfl)) pa_nil))))) pa_nil)))) (pss_one (ps_ret pe_bl)) pss_nil)
      (pss_one (ps_ret (pe_cmpR op_eq (pe_callB cr_lenX (by rfl) T.b_len PySem.boot_len (pa_cons (pe_scX (own := [("name", 2)]) (g := gName 2) (tt := tYes) rfl sc_is_renaming.nd (pi_tup (pv 1))
            (blkOk_by (N := NQ) (sc := defScope s_is_renaming) (by decide +kernel)) (fun _ _ _ _ _ => pg_name (i := 2) sc_is_renaming.nd rfl (.inl rfl)) (fun _ _ _ _ _ => pts_nil)
            (fun _ _ _ _ _ => pe_dget hu (pv 0) (pv 2) (fun _ _ => rfl))) pa_nil)) (pe_callB call_len_seq (by rfl) T.b_len PySem.boot_len (pa_cons (pv 1) pa_nil)) (nomark _))))), ?_⟩
    have lkn : ks.length = ns.length := hp.length_eq
    have lnm : (ns.map V.str).length = ns.length := List.length_map _
    refine ⟨_, rfl, _, .ty "dict", .type "dict", .type "dict", true, rfl, .ty _, .base (.dK hd), kit_ty (by decide +kernel), true, rfl, ?_⟩
    show (if (!true) = true then _ else _)
    rw [if_neg (by decide)]
    refine ⟨_, rfl, nd, _, rfl, hd, _, rfl, t, _, rfl, .inr ht, rfl, _, rfl, ?_⟩
    rw [imgs_len, lnm, lkn]
    refine ite2 (fun e => ?_) (fun _ => ?_)
    · rw [decide_eq_true (rfl : V.int (ns.length : Nat) = V.int (ns.length : Nat))] at e
      cases e
    -- every kind has a name
    refine ⟨_, rfl, t, rfl, ⟨_, ht⟩, fun D hD => ?_⟩
    have sqm : ∀ {G : Hp}, Same H G → SqT K G t (ns.map V.str) := fun {G} s => by
      rcases ht with (h | ⟨o, h⟩) | h
      · exact .inl (.inl (s _ _ h))
      · exact .inl (.inr ⟨o, s _ _ h⟩)
      · exact .inr h
    refine lc_it (g := gName 2) (tt := tYes) (vs := [2]) (walk_tup (K := K)) (fun j G => G D = some (.lst (List.replicate j (V.bl true))) ∧ Same H G) ⟨upd_same, same_new (Same.refl H) hD⟩ (fun j G _ hP => sqm hP.2) (fun j v Gx G hj hP hy => ?_) (fun G hP => ?_)
    · obtain ⟨eD, sm⟩ := hP
      obtain ⟨rfl, hv⟩ := hy
      obtain ⟨z, hz, rfl⟩ := at_texts hv
      have hzn := List.mem_of_getElem? hz
      have hzk : z ∈ ks := hp.mem_iff.mpr hzn
      have hv' := imgs_in (f := f) hzk
      have hpool := hP z hzn
      rw [lnm] at hj
      refine ⟨rfl, _, rfl, _, rfl, nd, _, rfl, .inl ⟨_, Sum.inr z, .inl (sm _ _ hd), rfl, rfl⟩, ?_⟩
      rw [hv']
      refine ⟨_, rfl, ?_⟩
      show (if true = true then _ else _)
      rw [if_pos rfl]
      refine ⟨_, rfl, _, rfl, nd, _, rfl, .inl ⟨_, Sum.inr z, .inl (sm _ _ hd), rfl, hv'.symm⟩, .str (f z), rfl, .inl ⟨f z, rfl, Nat.le_trans (pool_len hpool) (by decide)⟩, ?_⟩
      rw [show nameV (.str (f z)) = true from pool_name hpool]
      refine ⟨_, eD, ?_, ?_, fun b u e => by rw [upd_ne (ne_of_none e hD)]; exact sm b u e⟩
      · rw [List.length_replicate]
        exact Nat.lt_of_le_of_lt (show j ≤ 6 by omega) (by decide)
      · rw [upd_same, rep_snoc]
    obtain ⟨eD, sm⟩ := hP
    refine ⟨D, List.replicate (ns.map V.str).length true, rfl, .inl (.inl (by rw [eD, rep_map])), _, rfl, ?_⟩
    rw [all_true]
    show (if (!true) = true then _ else _)
    rw [if_neg (by decide)]
    -- they are different
    refine ⟨_, rfl, t, rfl, ⟨_, sqm sm⟩, fun S nS => ?_⟩
    refine sc_it (g := gName 2) (tt := tYes) (vs := [2]) (walk_tup (K := K)) (fun j G2 => G2 S = some (SetO' P w S ((ns.take j).map f)) ∧ Same G G2) ⟨upd_same, same_new (Same.refl G) nS⟩ (fun j G2 _ h => sqm fun b u e => h.2 _ _ (sm _ _ e)) (fun j v Gx G2 hj h hy => ?_) (fun G2 h => ?_)
    · obtain ⟨eS, sm2⟩ := h
      obtain ⟨rfl, hv⟩ := hy
      obtain ⟨z, hz, rfl⟩ := at_texts hv
      have hv' := imgs_in (f := f) (hp.mem_iff.mpr (List.mem_of_getElem? hz))
      rw [lnm] at hj
      refine ⟨rfl, _, rfl, _, rfl, nd, _, rfl, .inl ⟨_, Sum.inr z, .inl (sm2 _ _ (sm _ _ hd)), rfl, hv'.symm⟩, f z, _, rfl, eS, ?_, ?_, fun b u e => by rw [upd_ne (ne_of_none e nS)]; exact sm2 b u e⟩
      · rw [List.length_map, List.length_take]
        exact Nat.lt_of_le_of_lt (show _ ≤ 7 by omega) (by decide)
      · rw [upd_same, List.take_add_one, hz, List.map_append]
        rfl
    obtain ⟨eS, sm2⟩ := h
    rw [lnm, List.take_length] at eS
    refine ⟨S, _, rfl, eS, hf, by rw [List.length_map]; omega, ?_⟩
    rw [List.length_map]
    refine ⟨_, rfl, t, _, rfl, .inr (sqm fun b u e => sm2 _ _ (sm _ _ e)), rfl, ?_⟩
    rw [lnm, decide_eq_true (rfl : V.int (ns.length : Nat) = V.int (ns.length : Nat))]
    exact q _ fun b u e => sm2 _ _ (sm _ _ e)
end
end Kl

set_option maxRecDepth 100000
set_option maxHeartbeats 4000000
namespace Kl
open PySem PySem.Spec PyProof.Rows L2 Gx Mx
/-! ### the same makings in another order; one more making -/
structure Alike (M N : Mak) : Prop where
  nd : (keysOf N).Nodup
  look : ∀ z, lookM N z = lookM M z
theorem Alike.keys {M N : Mak} (h : Alike M N) (z : Str) : z ∈ keysOf N ↔ z ∈ keysOf M := by
  have e := h.look z
  constructor
  · intro q
    obtain ⟨ps, e'⟩ := lookM_in q
    rw [e] at e'
    exact List.mem_map.mpr ⟨_, lookM_some e', rfl⟩
  · intro q
    obtain ⟨ps, e'⟩ := lookM_in q
    rw [← e] at e'
    exact List.mem_map.mpr ⟨_, lookM_some e', rfl⟩
theorem Alike.vld {leaf : Str} {M N : Mak} (h : Alike M N) (v : Vld leaf M) : Vld leaf N := by
  refine ⟨v.lf, fun z hz => v.keys z ((h.keys z).mp hz), h.nd, fun m hm => ?_, fun ns hn hs => v.few ns hn fun z hz => (hs z hz).imp id (h.keys z).mp⟩
  have e := h.look m.1
  rw [lookM_mem h.nd hm] at e
  obtain ⟨h1, h2, h3, h4⟩ := v.parts (m.1, m.2) (lookM_some e.symm)
  exact ⟨h1, h2, h3, fun p hp => (h4 p hp).imp id (h.keys p).mpr⟩
theorem Alike.ord {M N N' : Mak} (h : Alike M N) (o : OrdOf N N') : OrdOf M N' := ⟨o.srt, o.nd, fun z => (o.look z).trans (h.look z)⟩
theorem Alike.names {leaf : Str} {M N : Mak} {ns : List Str} (h : Alike M N) (o : IsNames leaf (keysOf N) ns) : IsNames leaf (keysOf M) ns := ⟨o.srt, o.nd, fun z => by rw [o.mem, h.keys]⟩
/-- M by the names ys -/
theorem keys_by (M : Mak) (ys : List Str) : keysOf (ys.map fun z => (z, (lookM M z).getD [])) = ys := by
  unfold keysOf
  rw [List.map_map]
  exact List.map_id ys
theorem look_by {M : Mak} : ∀ {ys : List Str} {z : Str}, z ∈ ys → lookM (ys.map fun z => (z, (lookM M z).getD [])) z = some ((lookM M z).getD [])
  | y :: ys, z, h => by
    rw [List.map_cons, lookM_cons]
    by_cases c : y = z
    · rw [if_pos c, c]
    · rw [if_neg c]
      rcases List.mem_cons.mp h with e | h
      · exact absurd e.symm c
      · exact look_by h
theorem alike_by {M : Mak} (nd : (keysOf M).Nodup) {ys : List Str} (hp : ys.Perm (keysOf M)) : Alike M (ys.map fun z => (z, (lookM M z).getD [])) := by
  have ndY : ys.Nodup := hp.nodup_iff.mpr nd
  refine ⟨by rw [keys_by]; exact ndY, fun z => ?_⟩
  by_cases c : z ∈ ys
  · rw [look_by c]
    obtain ⟨ps, e⟩ := lookM_in (hp.mem_iff.mp c)
    rw [e]
    rfl
  · rw [lookM_none.mpr (by rw [keys_by]; exact c), lookM_none.mpr fun q => c (hp.mem_iff.mpr q)]
theorem merge_new : ∀ (more kvs : List (Key × V)), (more.map (·.1)).Nodup → (∀ k ∈ more.map (·.1), valV kvs k = none) → mergeK kvs more = kvs ++ more
  | [], kvs, _, _ => by unfold mergeK; rw [List.foldl_nil, List.append_nil]
  | p :: r, kvs, nd, hn => by
    rw [List.map_cons, List.nodup_cons] at nd
    have e : mergeK kvs (p :: r) = mergeK (putK kvs p.1 p.2) r := rfl
    have e0 : valV kvs p.1 = none := hn _ (by rw [List.map_cons]; exact List.mem_cons_self)
    rw [e, putK_new _ e0, merge_new r _ nd.2 fun k hk => ?_, List.append_assoc]
    · rfl
    · have hk0 := hn k (by rw [List.map_cons]; exact List.mem_cons_of_mem _ hk)
      rw [valV_snoc _ _ _ _ e0, if_neg (fun (q : k = p.1) => nd.1 (by rw [← q]; exact hk)), hk0]
theorem merge_nil {more : List (Key × V)} (nd : (more.map (·.1)).Nodup) : mergeK [] more = more := merge_new more [] nd fun _ _ => rfl
/-- M with ps for z -/
def putM (M : Mak) (z : Str) (ps : List Str) : Mak := if z ∈ keysOf M then M.map fun m => if m.1 = z then (m.1, ps) else m else M ++ [(z, ps)]
theorem putM_keys (M : Mak) (z : Str) (ps : List Str) : keysOf (putM M z ps) = if z ∈ keysOf M then keysOf M else keysOf M ++ [z] := by
  unfold putM
  by_cases c : z ∈ keysOf M
  · rw [if_pos c, if_pos c]
    unfold keysOf
    rw [List.map_map]
    refine List.map_congr_left fun m _ => ?_
    show (if m.1 = z then (m.1, ps) else m).1 = m.1
    split <;> rfl
  · rw [if_neg c, if_neg c]
    unfold keysOf
    rw [List.map_append]
    rfl
theorem look_rep {z : Str} {ps : List Str} : ∀ {M : Mak} {y : Str}, lookM (M.map fun m => if m.1 = z then (m.1, ps) else m) y = if y = z then (lookM M y).map fun _ => ps else lookM M y
  | [], y => by
    show lookM [] y = _
    split <;> rfl
  | m :: M, y => by
    rw [List.map_cons, lookM_cons, lookM_cons, look_rep (M := M)]
    by_cases c : m.1 = z
    · rw [if_pos c]
      by_cases d : m.1 = y
      · rw [if_pos d, if_pos d, if_pos (d.symm.trans c)]
        rfl
      · rw [if_neg d, if_neg d]
    · rw [if_neg c]
      by_cases d : m.1 = y
      · rw [if_pos d, if_pos d, if_neg (fun q => c (d.trans q))]
      · rw [if_neg d, if_neg d]
theorem look_app : ∀ {M : Mak} {z y : Str} {ps : List Str}, z ∉ keysOf M → lookM (M ++ [(z, ps)]) y = if y = z then some ps else lookM M y
  | [], z, y, ps, _ => by
    rw [List.nil_append, lookM_cons]
    by_cases c : z = y
    · rw [if_pos c, if_pos c.symm]
    · rw [if_neg c, if_neg (fun q => c q.symm)]
  | m :: M, z, y, ps, h => by
    have h' : ¬ z = m.1 ∧ z ∉ keysOf M := by
      constructor
      · intro q
        exact h (by rw [q]; exact List.mem_cons_self)
      · intro q
        exact h (List.mem_cons_of_mem _ q)
    rw [List.cons_append, lookM_cons, lookM_cons, look_app h'.2]
    by_cases d : m.1 = y
    · rw [if_pos d, if_pos d, if_neg (fun q => h'.1 (q.symm.trans d.symm))]
    · rw [if_neg d, if_neg d]
theorem putM_look (M : Mak) (z : Str) (ps : List Str) (y : Str) : lookM (putM M z ps) y = if y = z then some ps else lookM M y := by
  unfold putM
  by_cases c : z ∈ keysOf M
  · rw [if_pos c, look_rep]
    by_cases d : y = z
    · rw [if_pos d, if_pos d, d]
      obtain ⟨qs, e⟩ := lookM_in c
      rw [e]
      rfl
    · rw [if_neg d, if_neg d]
  · rw [if_neg c, look_app c]
theorem putM_nd {M : Mak} {z : Str} {ps : List Str} (nd : (keysOf M).Nodup) : (keysOf (putM M z ps)).Nodup := by
  rw [putM_keys]
  by_cases c : z ∈ keysOf M
  · rw [if_pos c]
    exact nd
  · rw [if_neg c, List.nodup_append]
    refine ⟨nd, List.nodup_cons.mpr ⟨List.not_mem_nil, List.nodup_nil⟩, fun a ha b hb => ?_⟩
    rw [List.mem_singleton] at hb
    subst hb
    exact fun q => c (by rw [← q]; exact ha)
theorem putM_mem {M : Mak} {z : Str} {ps : List Str} (y : Str) : y ∈ keysOf (putM M z ps) ↔ y = z ∨ y ∈ keysOf M := by
  rw [putM_keys]
  by_cases c : z ∈ keysOf M
  · rw [if_pos c]
    exact ⟨.inr, fun h => h.elim (fun e => by rw [e]; exact c) id⟩
  · rw [if_neg c, List.mem_append, List.mem_singleton]
    exact Or.comm
theorem putM_vld {leaf z : Str} {M : Mak} {ps : List Str} (v : Vld leaf M) (hz : z = leaf ∨ z ∈ keysOf M) (hs : sortedS ps = true) (h2 : 2 ≤ ps.length) (h3 : ps.length ≤ 3) (hp : ∀ p ∈ ps, p = leaf ∨ p ∈ keysOf M) : Vld leaf (putM M z ps) := by
  have up : ∀ {p : Str}, p = leaf ∨ p ∈ keysOf M → p = leaf ∨ p ∈ keysOf (putM M z ps) := fun h => h.imp id fun q => (putM_mem _).mpr (.inr q)
  refine ⟨v.lf, fun y hy => ?_, putM_nd v.nd, fun m hm => ?_, fun ns hn h => v.few ns hn fun y hy => ?_⟩
  · rcases (putM_mem y).mp hy with rfl | h
    · rcases hz with rfl | h
      · exact v.lf
      · exact v.keys _ h
    · exact v.keys _ h
  · have e := lookM_mem (putM_nd v.nd) hm
    rw [putM_look] at e
    by_cases c : m.1 = z
    · rw [if_pos c] at e
      cases e
      exact ⟨hs, h2, h3, fun p q => up (hp p q)⟩
    · rw [if_neg c] at e
      obtain ⟨p1, p2, p3, p4⟩ := v.parts _ (lookM_some e)
      exact ⟨p1, p2, p3, fun p q => up (p4 p q)⟩
  · rcases h y hy with h | h
    · exact .inl h
    · rcases (putM_mem y).mp h with rfl | h
      · exact hz
      · exact .inr h
theorem MakAt.putM {H : Hp} {kvs : List (Key × V)} {M : Mak} {z : Str} {ps : List Str} {t : Addr} (h : MakAt H kvs M) (ht : TupZ H t (ps.map V.str)) : MakAt H (putK kvs (Sum.inr z) (.ref t)) (Kl.putM M z ps) := by
  by_cases c : z ∈ keysOf M
  · have e : (kvs.any fun kv => decide (kv.1 = Sum.inr z)) = true := by
      have hk : Sum.inr z ∈ kvs.map (·.1) := by
        rw [h.keys]
        exact List.mem_map.mpr ⟨z, c, rfl⟩
      obtain ⟨kv, hkv, e⟩ := List.mem_map.mp hk
      exact List.any_eq_true.mpr ⟨kv, hkv, decide_eq_true e⟩
    unfold putK Kl.putM
    rw [if_pos e, if_pos c]
    clear e c
    unfold MakAt at h ⊢
    induction h with
    | nil => exact .nil
    | @cons kv m kvs M h _ ih =>
      obtain ⟨h1, a, h2, h3⟩ := h
      refine .cons ?_ ih
      show (if kv.1 = Sum.inr z then (kv.1, V.ref t) else kv).1 = Sum.inr (if m.1 = z then (m.1, ps) else m).1 ∧ ∃ a, (if kv.1 = Sum.inr z then (kv.1, V.ref t) else kv).2 = V.ref a ∧ TupZ H a ((if m.1 = z then (m.1, ps) else m).2.map V.str)
      by_cases d : m.1 = z
      · have d1 : kv.1 = Sum.inr z := by rw [h1, d]
        rw [if_pos d1, if_pos d]
        exact ⟨h1, t, rfl, ht⟩
      · have d1 : ¬ kv.1 = Sum.inr z := by
          rw [h1]
          exact fun q => d (Sum.inr.inj q)
        rw [if_neg d1, if_neg d]
        exact ⟨h1, a, h2, h3⟩
  · have e := h.put c ht
    unfold Kl.putM
    rw [if_neg c]
    exact e
end Kl

set_option maxRecDepth 100000
set_option maxHeartbeats 4000000
namespace Kl
open PySem PySem.Spec PyProof.Rows L2 Gx Mx
/-! ### makings with other names -/
/-- N is M with the names f -/
def RenOf (f : Str → Str) (M N : Mak) : Prop := Paired (fun (m n : Str × List Str) => n.1 = f m.1 ∧ n.2.Perm (m.2.map f) ∧ sortedS n.2 = true) M N
theorem RenOf.keys {f : Str → Str} {M N : Mak} (h : RenOf f M N) : keysOf N = (keysOf M).map f := by
  unfold RenOf at h
  induction h with
  | nil => rfl
  | cons h _ ih => exact congr (congrArg List.cons h.1) ih
theorem RenOf.look {f : Str → Str} {M N : Mak} (h : RenOf f M N) (inj : ∀ a ∈ keysOf M, ∀ b ∈ keysOf M, f a = f b → a = b) {z : Str} {ps : List Str} (e : lookM M z = some ps) : ∃ qs, lookM N (f z) = some qs ∧ qs.Perm (ps.map f) ∧ sortedS qs = true := by
  unfold RenOf at h
  induction h with
  | nil => cases e
  | @cons m n M N h _ ih =>
    obtain ⟨h1, h2, h3⟩ := h
    rw [lookM_cons] at e
    rw [lookM_cons, h1]
    by_cases c : m.1 = z
    · rw [if_pos c] at e
      cases e
      rw [if_pos (by rw [c])]
      exact ⟨n.2, rfl, h2, h3⟩
    · rw [if_neg c] at e
      have hz : z ∈ keysOf M := List.mem_map.mpr ⟨_, lookM_some e, rfl⟩
      rw [if_neg fun q => c (inj _ List.mem_cons_self _ (List.mem_cons_of_mem _ hz) q)]
      exact ih (fun a ha b hb => inj a (List.mem_cons_of_mem _ ha) b (List.mem_cons_of_mem _ hb)) e
theorem inj_of {f : Str → Str} : ∀ {ns : List Str}, (ns.map f).Nodup → ∀ a ∈ ns, ∀ b ∈ ns, f a = f b → a = b
  | x :: ns, nd, a, ha, b, hb, e => by
    rw [List.map_cons, List.nodup_cons] at nd
    rcases List.mem_cons.mp ha with rfl | ha'
    · rcases List.mem_cons.mp hb with rfl | hb'
      · rfl
      · exact absurd (List.mem_map.mpr ⟨b, hb', e.symm⟩) nd.1
    · rcases List.mem_cons.mp hb with rfl | hb'
      · exact absurd (List.mem_map.mpr ⟨a, ha', e⟩) nd.1
      · exact inj_of nd.2 a ha' b hb' e
theorem nodup_img {f : Str → Str} : ∀ {ks : List Str}, ks.Nodup → (∀ a ∈ ks, ∀ b ∈ ks, f a = f b → a = b) → (ks.map f).Nodup
  | [], _, _ => List.nodup_nil
  | k :: ks, nd, inj => by
    rw [List.nodup_cons] at nd
    rw [List.map_cons, List.nodup_cons]
    refine ⟨fun h => ?_, nodup_img nd.2 fun a ha b hb => inj a (List.mem_cons_of_mem _ ha) b (List.mem_cons_of_mem _ hb)⟩
    obtain ⟨y, hy, e⟩ := List.mem_map.mp h
    exact nd.1 (by rw [← inj y (List.mem_cons_of_mem _ hy) k List.mem_cons_self e]; exact hy)
theorem RenOf.vld {f : Str → Str} {leaf : Str} {M N : Mak} {ns : List Str} (h : RenOf f M N) (v : Vld leaf M) (hn : IsNames leaf (keysOf M) ns) (hP : ∀ z ∈ ns, f z ∈ POOL) (hf : (ns.map f).Nodup) : Vld (f leaf) N := by
  have inj := inj_of hf
  have sub : ∀ z ∈ keysOf M, z ∈ ns := fun z hz => (hn.mem z).mpr (.inr hz)
  have lin : leaf ∈ ns := (hn.mem leaf).mpr (.inl rfl)
  have ek := h.keys
  have kin : ∀ {z : Str}, z ∈ keysOf M → f z ∈ keysOf N := fun hz => by
    rw [ek]
    exact List.mem_map.mpr ⟨_, hz, rfl⟩
  have ndN : (keysOf N).Nodup := by
    rw [ek]
    exact nodup_img v.nd fun a ha b hb => inj a (sub a ha) b (sub b hb)
  refine ⟨hP _ lin, fun y hy => ?_, ndN, fun n hm => ?_, fun ms nd hs => ?_⟩
  · rw [ek] at hy
    obtain ⟨z, hz, rfl⟩ := List.mem_map.mp hy
    exact hP z (sub z hz)
  · have hy : n.1 ∈ keysOf N := List.mem_map.mpr ⟨n, hm, rfl⟩
    rw [ek] at hy
    obtain ⟨z, hz, e⟩ := List.mem_map.mp hy
    obtain ⟨ps, el⟩ := lookM_in hz
    obtain ⟨qs, e1, e2, e3⟩ := h.look (fun a ha b hb => inj a (sub a ha) b (sub b hb)) el
    rw [e, lookM_mem ndN hm] at e1
    cases e1
    obtain ⟨p1, p2, p3, p4⟩ := v.parts _ (lookM_some el)
    have le : n.2.length = ps.length := by rw [e2.length_eq, List.length_map]
    refine ⟨e3, by rw [le]; exact p2, by rw [le]; exact p3, fun p hp => ?_⟩
    obtain ⟨q, hq, rfl⟩ := List.mem_map.mp (e2.mem_iff.mp hp)
    rcases p4 q hq with rfl | hk
    · exact .inl rfl
    · exact .inr (kin hk)
  · have := sub_len nd (ys := ns.map f) fun y hy => by
      rcases hs y hy with rfl | hk
      · exact List.mem_map.mpr ⟨leaf, lin, rfl⟩
      · rw [ek] at hk
        obtain ⟨z, hz, rfl⟩ := List.mem_map.mp hk
        exact List.mem_map.mpr ⟨z, sub z hz, rfl⟩
    rw [List.length_map] at this
    exact Nat.le_trans this (v.few ns hn.nd fun z hz => (hn.mem z).mp hz)
end Kl

set_option maxRecDepth 100000
set_option maxHeartbeats 4000000
namespace Kl
open PySem PySem.Spec PyProof.Rows L2 Gx Mx
theorem Paired.snoc {α β : Type} {F : α → β → Prop} {a : α} {b : β} (h : F a b) : ∀ {l₁ : List α} {l₂ : List β}, Paired F l₁ l₂ → Paired F (l₁ ++ [a]) (l₂ ++ [b])
  | _, _, .nil => .cons h .nil
  | _, _, .cons x r => .cons x (Paired.snoc h r)
theorem take_snoc {α : Type} {l : List α} {i : Nat} {x : α} (h : l[i]? = some x) : l.take (i + 1) = l.take i ++ [x] := by
  rw [List.take_add_one, h]
  rfl
theorem mak_nd {H : Hp} {kvs : List (Key × V)} {M : Mak} (h : MakAt H kvs M) (nd : (keysOf M).Nodup) : (kvs.map (·.1)).Nodup := by
  rw [h.keys]
  exact List.Pairwise.map Sum.inr (fun a b h q => h (Sum.inr.inj q)) nd
/-- an instance that was made -/
theorem made {C x dx md : Addr} {G H1 : Hp} (nx : G x = none) (ndx : G dx = none) (nmd : (upd (upd G dx (.own x)) x (.ins C dx [])) md = none) (keep : ∀ b o, b ≠ x → (upd (upd G dx (.own x)) x (.ins C dx [])) b = some o → H1 b = some o) : Same G H1 ∧ G md = none := by
  refine ⟨fun b u e => keep b u (ne_of_none e nx) (by rw [upd_ne (ne_of_none e nx), upd_ne (ne_of_none e ndx)]; exact e), ?_⟩
  have n1 : md ≠ x := fun z => by
    rw [z, upd_same] at nmd
    cases nmd
  rw [upd_ne n1] at nmd
  have n2 : md ≠ dx := fun z => by
    rw [z, upd_same] at nmd
    cases nmd
  rwa [upd_ne n2] at nmd
section
variable {P : Program} {w : World} {K : PySem.W.Frag} {mg : Str → Option Value} {base : Heap}
/-! ### Kinds.renamed -/
def spKRen (C : Addr) : Sp := fun vs H Q _ => ∃ (x md nd : Addr) (leaf : Str) (M : Mak) (ns ks : List Str) (f : Str → Str), vs = [V.ref x, .ref nd] ∧ KindsAt C H x md leaf M ns ∧ Vld leaf M ∧ IsNames leaf (keysOf M) ns ∧ H nd = some (.dK (imgs f ks)) ∧ md ≠ nd ∧ ks.Perm ns ∧ (∀ z ∈ ns, f z ∈ POOL) ∧ (ns.map f).Nodup ∧
  ∀ (y md' : Addr) (N N' : Mak) (ns' : List Str) (H' : Hp), RenOf f M N → KindsAt C H' y md' (f leaf) N' ns' → OrdOf N N' → IsNames (f leaf) (keysOf N) ns' → Same H H' → H md' = none → Q (.ref y) H'
theorem ok_kren {C f : Addr} {fd : FuncData} (F : Fun K "renamed" "Kinds.renamed" s_Kinds_renamed f fd) (T : Top K mg) (TC : Cl_Kinds K mg C) : FnOk P w K mg base CX0 8 f fd ["self", "names"] (spKRen C) := by
  have ci : Cal P w K mg base 7 "is_renaming" ["names", "kinds"] (spIsRen K) := (T.d_is_renaming.cal fun f fd F => ok_isren F T).mono (by decide)
  have kI : CalI P w K mg base C 6 ["self", "leaf", "makings"] (spInit C) := by
    obtain ⟨f, fd, m, F, b⟩ := TC.made
    exact ⟨f, fd, m, ok_init F T TC, b⟩
  refine F.ok sc_Kinds_renamed (fun vs H Q E h => ?_) (fun cdv A outer s H vs Q E hr h => ?_)
  · obtain ⟨x, md, nd, leaf, M, ns, ks, f, rfl, _⟩ := h
    rfl
  · obtain ⟨x, md, nd, leaf, M, ns, ks, f, rfl, hK, hV, hN, hd, hmn, hp, hP, hf, q⟩ := h
    have hu := hu_of hr
    refine ⟨_, pss_cons (ps_if (pt_not (pt_val (pe_cal ci hr (by rfl) (pa_cons (pv 1) (pa_cons (pe_fld (pv 0) rfl) pa_nil))))) (pss_one ps_never) pss_nil)
      (pss_cons (ps_set (i := 2) sc_Kinds_renamed.nd rfl (.inl rfl) pe_dnewK)
      (pss_cut (ps_lock (ps_for PassesOwn.never rfl (pi_keys (pe_fld (pv 0) rfl)) (pg_name (i := 3) sc_Kinds_renamed.nd rfl (.inl rfl))
        (pss_one (ps_asg (pe_callTy call_tupleZ (by rfl) T.b_tuple (by decide +kernel) (pa_cons (pe_callB cr_sortedS (by rfl) T.b_sorted (by decide +kernel) (pa_cons
            (pe_lc (own := [("part", 4)]) (g := gName 4) (tt := tYes) rfl sc_Kinds_renamed.nd (pi_tup (pe_dget hu (pe_fld (pv 0) rfl) (pv 3) (fun _ _ => rfl)))
              (blkOk_by (N := ["self", "names", "makings", "name", "part"]) (sc := defScope s_Kinds_renamed) (by decide +kernel)) (fun _ _ _ _ _ => pg_name (i := 4) sc_Kinds_renamed.nd rfl (.inl rfl)) (fun _ _ _ _ _ => pts_nil)
              (fun _ _ _ _ _ => pe_dget hu (pv 1) (pv 4) (fun _ _ => rfl))) pa_nil)) pa_nil)) (pg_sub (pv 2) (pe_dget hu (pv 1) (pv 3) (fun _ _ => rfl)) (set_dict hu))))))
      (pss_one (ps_ret (pe_makeC kI hr (by rfl) TC.gC (pa_cons (pe_dget hu (pv 1) (pe_fld (pv 0) rfl) (fun _ _ => rfl)) (pa_cons (pv 2) pa_nil))))))), ?_⟩
    obtain ⟨dx, nt, kvs, hx, hmd, hM, hn⟩ := id hK
    have lM := hV.len
    have lns : ns.length ≤ 6 := hV.few ns hN.nd fun z hz => (hN.mem z).mp hz
    have inj := inj_of hf
    have big : 100000 ≤ sizeLine := by decide
    -- the names are fit
    refine ⟨_, rfl, _, rfl, x, C, dx, _, _, rfl, hx, TC.cl, TC.n_names, kf_names _ _ _, nd, nt, f, ks, ns, rfl, hd, .inl (.inl hn), hp, hN.nd, lns, hP, hf, fun H1 s1 => ⟨_, rfl, ?_⟩⟩
    show (if (!true) = true then _ else _)
    rw [if_neg (by decide)]
    refine fun mk nmk => ?_
    have s2 : Same H (upd H1 mk (.dK [])) := same_new s1 nmk
    have e0 : (upd H1 mk (.dK [])) mk = some (.dK []) := upd_same
    have nmH : H mk = none := s1.free nmk
    generalize upd H1 mk (.dK []) = H2 at s2 e0
    have hx2 := s2 _ _ hx
    have hmd2 := s2 _ _ hmd
    have hd2 := s2 _ _ hd
    have hM2 : MakAt H2 kvs M := hM.same fun _ _ h => h.mono s2
    have nmm : mk ≠ md := fun z => by
      rw [z, hmd] at nmH
      cases nmH
    have nmx : mk ≠ x := fun z => by
      rw [z, hx] at nmH
      cases nmH
    have nmn : mk ≠ nd := fun z => by
      rw [z, hd] at nmH
      cases nmH
    have ind : ∀ {z : Str}, z ∈ ns → valV (imgs f ks) (Sum.inr z) = some (.str (f z)) := fun hz => imgs_in (hp.mem_iff.mpr hz)
    -- the makings, one by one
    refine ⟨fun σ' G => ∃ y3 y4 kvN N, σ' = [some (.ref x), some (.ref nd), some (.ref mk), y3, y4] ∧ SameX mk H2 G ∧ G mk = some (.dK kvN) ∧ MakAt G kvN N ∧ RenOf f M N, ?_, ?_⟩
    · refine ⟨md, _, hmd2, trivial, fun od => ?_⟩
      have hx3 : (upd H2 md (.frz od (.dK kvs))) x = some (.ins C dx (kf leaf md nt)) := by
        rw [upd_ne (fun z => by rw [z, hmd2] at hx2; cases hx2)]
        exact hx2
      have hd3 : (upd H2 md (.frz od (.dK kvs))) nd = some (.dK (imgs f ks)) := by
        rw [upd_ne hmn.symm]
        exact hd2
      have e03 : (upd H2 md (.frz od (.dK kvs))) mk = some (.dK []) := by
        rw [upd_ne nmm]
        exact e0
      have frM : ∀ {a : Addr} {xs : List V}, TupZ H2 a xs → TupZ (upd H2 md (.frz od (.dK kvs))) a xs := fun {a} {xs} h => by
        have n : a ≠ md := h.ne hmd2 (fun _ => nofun)
        exact h.at fun o e => by rw [upd_ne n]; exact e
      have efr : (upd H2 md (.frz od (.dK kvs))) md = some (.frz od (.dK kvs)) := upd_same
      refine ⟨_, rfl, x, C, dx, _, _, rfl, hx3, TC.cl, TC.n_makings, kf_mak _ _ _, md, od, rfl, .inl ⟨kvs, upd_same, ?_⟩⟩
      generalize eF : upd H2 md (.frz od (.dK kvs)) = F0 at hx3 hd3 e03 frM efr
      refine for_it walk_keys (fun i σ' G => ∃ y3 y4 kvN N, σ' = [some (.ref x), some (.ref nd), some (.ref mk), y3, y4] ∧ SameX mk F0 G ∧ G mk = some (.dK kvN) ∧ MakAt G kvN N ∧ RenOf f (M.take i) N)
        ⟨_, _, [], [], rfl, SameX.refl mk F0, e03, .nil, .nil⟩ (fun i σ' G _ hP => by obtain ⟨_, _, _, _, _, sx, _⟩ := hP; exact sx _ _ nmm.symm efr) (fun i v σ' Gx G hi hP hy => ?_) (fun σ' G hP => ?_)
      · obtain ⟨y3, y4, kvN, N, rfl, sx, eN, hMN, hR⟩ := hP
        obtain ⟨rfl, k, v, hkv, rfl⟩ := hy
        obtain ⟨m, a, hm, rfl, rfl, ha⟩ := hM2.at hkv
        have hmM := List.mem_of_getElem? hm
        have hkM : m.1 ∈ keysOf M := List.mem_map.mpr ⟨m, hmM, rfl⟩
        have hkn : m.1 ∈ ns := (hN.mem _).mpr (.inr hkM)
        have hv : valV kvs (Sum.inr m.1) = some (.ref a) := val_nodup (mak_nd hM2 hV.nd) (Sum.inr m.1, .ref a) (List.mem_of_getElem? hkv)
        obtain ⟨p1, p2, p3, p4⟩ := hV.parts m hmM
        have eaF := frM ha
        have nax : a ≠ mk := eaF.ne e03 (fun _ => nofun)
        have ea : TupZ G a (m.2.map V.str) := eaF.at fun o => sx _ _ nax
        have hxG := sx _ _ nmx.symm hx3
        have hdG := sx _ _ nmn.symm hd3
        have hfG := sx _ _ nmm.symm efr
        refine ⟨_, rfl, x, C, dx, _, _, rfl, hxG, TC.cl, TC.n_makings, kf_mak _ _ _, _, rfl, md, _, rfl, .inl ⟨kvs, Sum.inr m.1, .inr ⟨od, hfG⟩, rfl, hv.symm⟩, a, rfl, ⟨_, ea.sq⟩, fun D hD => ?_⟩
        refine lc_it (g := gName 4) (tt := tYes) (vs := [4]) (walk_tup (K := K) (a := a) (xs := m.2.map V.str)) (fun j G2 => G2 D = some (.lst (((m.2.take j).map f).map V.str)) ∧ Same G G2) ⟨upd_same, same_new (Same.refl G) hD⟩ (fun j G2 _ h => (ea.mono h.2).sq) (fun j v Gx G2 hj h hy => ?_) (fun G2 h => ?_)
        · obtain ⟨eD, sm⟩ := h
          obtain ⟨rfl, hv2⟩ := hy
          obtain ⟨z, hz, rfl⟩ := at_texts hv2
          have hzn : z ∈ ns := (hN.mem z).mpr (p4 z (List.mem_of_getElem? hz))
          refine ⟨rfl, _, rfl, _, rfl, nd, _, rfl, .inl ⟨_, Sum.inr z, .inl (sm _ _ hdG), rfl, (ind hzn).symm⟩, _, eD, ?_, ?_, fun b u e => by rw [upd_ne (ne_of_none e hD)]; exact sm b u e⟩
          · rw [List.length_map, List.length_map, List.length_take]
            exact Nat.lt_of_le_of_lt (show _ ≤ 3 by omega) (by decide)
          · rw [upd_same, take_snoc hz, List.map_append, List.map_append]
            rfl
        · obtain ⟨eD, sm⟩ := h
          rw [List.length_map, List.take_length] at eD
          refine ⟨D, m.2.map f, rfl, .inl (.inl eD), by rw [List.length_map]; omega, fun zs sp hperm hsrt nsp => ?_⟩
          refine ⟨sp, _, rfl, .inl (.inl upd_same), fun t G3 hZ nt' heq => ?_⟩
          have s3 : Same G G3 := fun b u e => by
            have e2 := same_new (o := .lst (zs.map V.str)) sm nsp b u e
            rw [heq b (ne_of_none e2 nt')]
            exact e2
          have eN3 := s3 _ _ eN
          have hMN3 : MakAt G3 kvN N := hMN.same fun _ _ h => h.mono s3
          have kN := hR.keys
          have nN : f m.1 ∉ keysOf N := by
            rw [kN]
            intro hin
            obtain ⟨z, hz, e⟩ := List.mem_map.mp hin
            have hz' : z ∈ (keysOf M).take i := by
              unfold keysOf at hz ⊢
              rw [← List.map_take]
              exact hz
            have hkey : (keysOf M)[i]? = some m.1 := by
              unfold keysOf
              rw [List.getElem?_map, hm]
              rfl
            have e2 := inj z ((hN.mem z).mpr (.inr (List.mem_of_mem_take hz'))) m.1 hkn e
            rw [e2] at hz'
            exact take_not hV.nd hkey hz'
          have lN : kvN.length ≤ 6 := by
            rw [hMN.len, ← hR.length, List.length_take]
            omega
          refine ⟨_, rfl, _, rfl, _, rfl, nd, _, rfl, .inl ⟨_, Sum.inr m.1, .inl (s3 _ _ hdG), rfl, (ind hkn).symm⟩, mk, _, rfl, .inl ⟨kvN, Sum.inr (f m.1), eN3, rfl, by omega, rfl⟩, ?_⟩
          refine ⟨_, _, _, N ++ [(f m.1, zs)], rfl, fun b o n e => ?_, upd_same, (hMN3.put nN hZ).same fun a' xs h => h.at fun o e => ?_, ?_⟩
          · rw [upd_ne n]
            exact s3 _ _ (sx _ _ n e)
          · rw [upd_ne (h.ne eN3 (fun _ => nofun))]
            exact e
          · rw [take_snoc hm]
            exact Paired.snoc ⟨rfl, hperm, hsrt⟩ hR
      · obtain ⟨y3, y4, kvN, N, rfl, sx, eN, hMN, hR⟩ := hP
        rw [hM2.len, List.take_length] at hR
        refine ⟨sx _ _ nmm.symm efr, _, _, kvN, N, rfl, fun b o n e => ?_, by rw [upd_ne nmm]; exact eN, hMN.same fun a xs h => ?_, hR⟩
        · by_cases c : b = md
          · rw [c, hmd2] at e
            cases e
            rw [c, upd_same]
          · rw [upd_ne c]
            refine sx _ _ n ?_
            rw [← eF, upd_ne c]
            exact e
        · have n : a ≠ md := h.ne (sx _ _ nmm.symm efr) (fun _ => nofun)
          exact h.at fun o e => by rw [upd_ne n]; exact e
    · rintro σ' G ⟨y3, y4, kvN, N, rfl, sx, eN, hMN, hR⟩
      have lin : leaf ∈ ns := (hN.mem leaf).mpr (.inl rfl)
      have sHG : Same H G := fun b u e => sx _ _ (ne_of_none e nmH) (s2 _ _ e)
      have hxG := sHG _ _ hx
      have hdG := sHG _ _ hd
      refine ⟨_, rfl, _, rfl, x, C, dx, _, _, rfl, hxG, TC.cl, TC.n_leaf, kf_leaf _ _ _, nd, _, rfl, .inl ⟨_, Sum.inr leaf, .inl hdG, rfl, (ind lin).symm⟩, _, rfl, fun y dy ny ndy ne => ⟨y, dy, f leaf, mk, kvN, N, rfl, upd_same, ?_, ?_, hR.vld hV hN hP hf, fun H' md' N' ns' hK' hO hN' nmd' keep => ⟨rfl, ?_⟩⟩⟩
      · rw [upd_ne (ne_of_none eN ny), upd_ne (ne_of_none eN ndy)]
        exact eN
      · exact hMN.same fun a xs h => h.at fun o e => by rw [upd_ne (ne_of_none e ny), upd_ne (ne_of_none e ndy)]; exact e
      · obtain ⟨s4, nmd⟩ := made ny ndy nmd' keep
        refine q y md' N N' ns' H' hR hK' hO hN' (fun b u e => s4 _ _ (sHG _ _ e)) ?_
        cases e : H md' with
        | none => rfl
        | some o =>
          rw [sHG _ _ e] at nmd
          cases nmd
end
end Kl

set_option maxRecDepth 100000
set_option maxHeartbeats 4000000
namespace Gx
open PySem PySem.Spec PyProof.Rows L2 Mx Kl
/-! ### len of a set of texts, some of them alike -/
theorem nodup_le : ∀ {ms L : List Str}, ms.Nodup → (∀ z ∈ ms, z ∈ L) → ms.length ≤ L.length
  | [], _, _, _ => Nat.zero_le _
  | x :: ms, L, nd, h => by
    obtain ⟨n1, n2⟩ := List.nodup_cons.mp nd
    have hx := h x List.mem_cons_self
    have ih := nodup_le (L := L.erase x) n2 fun z hz => (List.mem_erase_of_ne fun e => n1 (by rw [← e]; exact hz)).mpr (h z (List.mem_cons_of_mem _ hz))
    rw [List.length_erase_of_mem hx] at ih
    have := List.length_pos_of_mem hx
    rw [List.length_cons]
    omega
theorem nodup_back : ∀ {L ms : List Str}, ms.Nodup → (∀ z, z ∈ ms ↔ z ∈ L) → ms.length = L.length → L.Nodup
  | [], _, _, _, _ => List.nodup_nil
  | x :: L, ms, nd, e, hl => by
    rw [List.length_cons] at hl
    have hx : x ∈ ms := (e x).mpr List.mem_cons_self
    by_cases c : x ∈ L
    · have := nodup_le nd fun z hz => by
        rcases List.mem_cons.mp ((e z).mp hz) with rfl | h
        · exact c
        · exact h
      omega
    · refine List.nodup_cons.mpr ⟨c, nodup_back (ms := ms.erase x) (nd.erase x) (fun z => ?_) (by rw [List.length_erase_of_mem hx]; omega)⟩
      rw [nd.mem_erase_iff, e, List.mem_cons]
      constructor
      · rintro ⟨h1, h2⟩
        exact h2.resolve_left h1
      · intro h
        exact ⟨fun q => c (by rw [← q]; exact h), .inr h⟩
theorem cr_lenX2 {X : Cx} : CallR X (.builtin "len") (fun xs G Q => ∃ (a : Addr) (L : List Str), xs = [.ref a] ∧ G a = some (SetO' X.prog X.w a L) ∧ L.length ≤ 1000 ∧ ∀ m : Nat, m ≤ L.length → (m = L.length ↔ L.Nodup) → Q (.int (m : Nat)) G) := by
  intro pins s σ G xs us Q inv r want
  obtain ⟨a, L, rfl, ea, few, q⟩ := want
  rw [Vals.ref1 r]
  obtain ⟨ob, ms, ep, tb, here, ex, dt, _, nd2, mem, _, ft, _⟩ : SetX X.prog X.w s.heap a L := (inv.hok a _ ea).1
  have sz : (ms.toList.map txE).length = ms.size := by rw [List.length_map, Array.length_toList]
  have mem2 : ∀ z, z ∈ ms.toList.map txE ↔ z ∈ L := fun z => (mem z).symm
  have le : ms.size ≤ L.length := by
    rw [← sz]
    exact nodup_le nd2 fun z hz => (mem2 z).mp hz
  refine call_len_set here ex dt ft (by omega) ⟨.int (ms.size : Nat), G, inv.tok _, ⟨_, rfl⟩, q ms.size le ⟨fun h => nodup_back nd2 mem2 (by rw [sz]; exact h), fun h => ?_⟩⟩
  have p := ((List.perm_ext_iff_of_nodup h nd2).mpr mem).length_eq
  rw [sz] at p
  exact p.symm
end Gx
namespace Kl
open PySem PySem.Spec PyProof.Rows L2 Gx Mx
def txV : V → Str
  | .str z => z
  | _ => ""
theorem name_text {v : V} (h : nameV v = true) : v = .str (txV v) ∧ nameB (txV v) = true := by
  cases v with
  | str z => exact ⟨rfl, h⟩
  | _ => cases h
section
variable {P : Program} {w : World} {K : PySem.W.Frag} {mg : Str → Option Value} {base : Heap}
/-! ### is_renaming of any value -/
def spIsRenV (K : PySem.W.Frag) : Sp := fun vs H Q _ => ∃ (v : V) (t : Addr) (ns : List Str), vs = [v, .ref t] ∧ SqT K H t (ns.map V.str) ∧ ns.length ≤ 6 ∧
  ((Not K H v "dict" ∧ ∀ H', Same H H' → Q (.bl false) H') ∨
   (∃ (nd : Addr) (kvs : List (Key × V)), v = .ref nd ∧ H nd = some (.dK kvs) ∧ kvs.length ≠ ns.length ∧ ∀ H', Same H H' → Q (.bl false) H') ∨
   ∃ (nd : Addr) (kvs : List (Key × V)) (g : Str → V), v = .ref nd ∧ H nd = some (.dK kvs) ∧ kvs.length = ns.length ∧ (∀ z ∈ ns, valV kvs (Sum.inr z) = some (g z) ∧ ∀ H', Same H H' → NameArg K H' (g z)) ∧
     ∀ (b : Bool) H', (b = true ↔ (∀ z ∈ ns, nameV (g z) = true) ∧ (ns.map fun z => txV (g z)).Nodup) → Same H H' → Q (.bl b) H')
theorem ok_isrenV {f : Addr} {fd : FuncData} (F : Fun K "is_renaming" "is_renaming" s_is_renaming f fd) (T : Top K mg) : FnOk P w K mg base CX0 3 f fd ["names", "kinds"] (spIsRenV K) := by
  have cn : Cal P w K mg base 2 "is_name" ["value"] (spName K) := (T.d_is_name.cal fun f fd F => ok_name F T).mono (by decide)
  refine F.ok sc_is_renaming (fun vs H Q E h => ?_) (fun cdv A outer s H vs Q E hr h => ?_)
  · obtain ⟨v, t, ns, rfl, _⟩ := h
    rfl
  · obtain ⟨v, t, ns, rfl, ht, l6, hh⟩ := h
    have hu := hu_of hr
    refine ⟨_, pss_cons (ps_if (PW.pt (pw_or (pt_not (pt_val (pe_callB call_isi (by rfl) T.b_isinstance (by decide +kernel) (pa_cons (pv 0) (pa_cons (pe_bltn (v := .ty "dict") (by rfl) T.b_dict (by decide +kernel) rfl) pa_nil)))))
          (pw_or1 (pt_cmpR op_ne (pe_callB call_lenD (by rfl) T.b_len PySem.boot_len (pa_cons (pv 0) pa_nil)) (pe_callB call_len_seq (by rfl) T.b_len PySem.boot_len (pa_cons (pv 1) pa_nil)) (nomark _))))) (pss_one (ps_ret pe_bl)) pss_nil)
      (pss_cons (ps_if (pt_not (pt_val (pe_callB (cr_all rfl) (by rfl) T.b_all (by decide +kernel) (pa_cons (pe_lc (own := [("name", 2)]) (g := gName 2) (tt := tYes) rfl sc_is_renaming.nd (pi_tup (pv 1))
            (blkOk_by (N := NQ) (sc := defScope s_is_renaming) (by decide +kernel)) (fun _ _ _ _ _ => pg_name (i := 2) sc_is_renaming.nd rfl (.inl rfl)) (fun _ _ _ _ _ => pts_nil)
            (fun _ _ _ _ _ => pe_and (pe_cmp (pc_din hu (pv 2) (pv 0))) (pe_one (pe_cal cn hr (by rfl) (pa_cons (pe_dget hu (pv 0) (pv 2) (fun _ _ => rfl)) pa_nil))))) pa_nil)))) (pss_one (ps_ret pe_bl)) pss_nil)
      (pss_one (ps_ret (pe_cmpR op_eq (pe_callB cr_lenX2 (by rfl) T.b_len PySem.boot_len (pa_cons (pe_scX (own := [("name", 2)]) (g := gName 2) (tt := tYes) rfl sc_is_renaming.nd (pi_tup (pv 1))
            (blkOk_by (N := NQ) (sc := defScope s_is_renaming) (by decide +kernel)) (fun _ _ _ _ _ => pg_name (i := 2) sc_is_renaming.nd rfl (.inl rfl)) (fun _ _ _ _ _ => pts_nil)
            (fun _ _ _ _ _ => pe_dget hu (pv 0) (pv 2) (fun _ _ => rfl))) pa_nil)) (pe_callB call_len_seq (by rfl) T.b_len PySem.boot_len (pa_cons (pv 1) pa_nil)) (nomark _))))), ?_⟩
    have lnm : (ns.map V.str).length = ns.length := List.length_map _
    have sqm : ∀ {G : Hp}, Same H G → SqT K G t (ns.map V.str) := fun {G} s => by
      rcases ht with (h | ⟨o, h⟩) | h
      · exact .inl (.inl (s _ _ h))
      · exact .inl (.inr ⟨o, s _ _ h⟩)
      · exact .inr h
    rcases hh with ⟨⟨tt, h1, h2⟩, q⟩ | ⟨nd, kvs, rfl, hd, hl, q⟩ | ⟨nd, kvs, g, rfl, hd, hl, hg, q⟩
    · refine ⟨_, rfl, _, .ty "dict", tt, .type "dict", false, rfl, .ty _, h1, h2, false, rfl, ?_⟩
      show (if (!false) = true then _ else _)
      rw [if_pos (by decide)]
      exact q H (Same.refl H)
    · refine ⟨_, rfl, _, .ty "dict", .type "dict", .type "dict", true, rfl, .ty _, .base (.dK hd), kit_ty (by decide +kernel), true, rfl, ?_⟩
      show (if (!true) = true then _ else _)
      rw [if_neg (by decide)]
      refine ⟨_, rfl, nd, _, rfl, hd, _, rfl, t, _, rfl, .inr ht, rfl, _, rfl, ?_⟩
      rw [lnm, decide_eq_false (show ¬ V.int (kvs.length : Nat) = V.int (ns.length : Nat) from fun h => hl (by have := V.int.inj h; omega))]
      show (if (!false) = true then _ else _)
      rw [if_pos (by decide)]
      exact q H (Same.refl H)
    · refine ⟨_, rfl, _, .ty "dict", .type "dict", .type "dict", true, rfl, .ty _, .base (.dK hd), kit_ty (by decide +kernel), true, rfl, ?_⟩
      show (if (!true) = true then _ else _)
      rw [if_neg (by decide)]
      refine ⟨_, rfl, nd, _, rfl, hd, _, rfl, t, _, rfl, .inr ht, rfl, _, rfl, ?_⟩
      rw [lnm, hl, decide_eq_true (rfl : V.int (ns.length : Nat) = V.int (ns.length : Nat))]
      show (if (!true) = true then _ else _)
      rw [if_neg (by decide)]
      refine ⟨_, rfl, t, rfl, ⟨_, ht⟩, fun D hD => ?_⟩
      refine lc_it (g := gName 2) (tt := tYes) (vs := [2]) (walk_tup (K := K)) (fun j G => G D = some (.lst (((ns.take j).map fun z => nameV (g z)).map V.bl)) ∧ Same H G) ⟨upd_same, same_new (Same.refl H) hD⟩ (fun j G _ hP => sqm hP.2) (fun j v Gx G hj hP hy => ?_) (fun G hP => ?_)
      · obtain ⟨eD, sm⟩ := hP
        obtain ⟨rfl, hv⟩ := hy
        obtain ⟨z, hz, rfl⟩ := at_texts hv
        have hzn := List.mem_of_getElem? hz
        obtain ⟨hv', hna⟩ := hg z hzn
        refine ⟨rfl, _, rfl, _, rfl, nd, _, rfl, .inl ⟨_, Sum.inr z, .inl (sm _ _ hd), rfl, rfl⟩, ?_⟩
        rw [hv']
        refine ⟨_, rfl, ?_⟩
        show (if true = true then _ else _)
        rw [if_pos rfl]
        refine ⟨_, rfl, _, rfl, nd, _, rfl, .inl ⟨_, Sum.inr z, .inl (sm _ _ hd), rfl, hv'.symm⟩, g z, rfl, hna _ sm, ?_⟩
        refine ⟨_, eD, ?_, ?_, fun b u e => by rw [upd_ne (ne_of_none e hD)]; exact sm b u e⟩
        · rw [List.length_map, List.length_map, List.length_take]
          exact Nat.lt_of_le_of_lt (show _ ≤ 6 by omega) (by decide)
        · rw [upd_same, take_snoc hz, List.map_append, List.map_append]
          rfl
      obtain ⟨eD, sm⟩ := hP
      rw [lnm, List.take_length] at eD
      refine ⟨D, _, rfl, .inl (.inl eD), _, rfl, ?_⟩
      cases c : (ns.map fun z => nameV (g z)).all id with
      | false =>
        show (if (!false) = true then _ else _)
        rw [if_pos (by decide)]
        refine q false G ⟨fun h => (by cases h), fun h => ?_⟩ sm
        rw [List.all_eq_true.mpr (fun b hb => by
          obtain ⟨z, hz, rfl⟩ := List.mem_map.mp hb
          exact h.1 z hz)] at c
        cases c
      | true =>
        show (if (!true) = true then _ else _)
        rw [if_neg (by decide)]
        have hall : ∀ z ∈ ns, nameV (g z) = true := fun z hz => List.all_eq_true.mp c _ (List.mem_map.mpr ⟨z, hz, rfl⟩)
        refine ⟨_, rfl, t, rfl, ⟨_, sqm sm⟩, fun S nS => ?_⟩
        refine sc_it (g := gName 2) (tt := tYes) (vs := [2]) (walk_tup (K := K)) (fun j G2 => G2 S = some (SetO' P w S ((ns.take j).map fun z => txV (g z))) ∧ Same G G2) ⟨upd_same, same_new (Same.refl G) nS⟩ (fun j G2 _ h => sqm fun b u e => h.2 _ _ (sm _ _ e)) (fun j v Gx G2 hj h hy => ?_) (fun G2 h => ?_)
        · obtain ⟨eS, sm2⟩ := h
          obtain ⟨rfl, hv⟩ := hy
          obtain ⟨z, hz, rfl⟩ := at_texts hv
          have hzn := List.mem_of_getElem? hz
          obtain ⟨hv', _⟩ := hg z hzn
          obtain ⟨et, _⟩ := name_text (hall z hzn)
          rw [et] at hv'
          refine ⟨rfl, _, rfl, _, rfl, nd, _, rfl, .inl ⟨_, Sum.inr z, .inl (sm2 _ _ (sm _ _ hd)), rfl, hv'.symm⟩, txV (g z), _, rfl, eS, ?_, ?_, fun b u e => by rw [upd_ne (ne_of_none e nS)]; exact sm2 b u e⟩
          · rw [List.length_map, List.length_take]
            exact Nat.lt_of_le_of_lt (show _ ≤ 7 by omega) (by decide)
          · rw [upd_same, take_snoc hz, List.map_append]
            rfl
        obtain ⟨eS, sm2⟩ := h
        rw [lnm, List.take_length] at eS
        refine ⟨S, _, rfl, eS, by rw [List.length_map]; omega, fun m _ hm => ?_⟩
        rw [List.length_map] at hm
        refine ⟨_, rfl, t, _, rfl, .inr (sqm fun b u e => sm2 _ _ (sm _ _ e)), rfl, ?_⟩
        rw [lnm]
        refine q _ _ ?_ fun b u e => sm2 _ _ (sm _ _ e)
        rw [decide_eq_true_iff]
        constructor
        · intro h
          have h := V.int.inj h
          exact ⟨hall, hm.mp (by omega)⟩
        · intro h
          rw [hm.mpr h.2]
end
end Kl

set_option maxRecDepth 100000
set_option maxHeartbeats 4000000
namespace Kl
open PySem PySem.Spec PyProof.Rows L2 Gx Mx
section
variable {P : Program} {w : World} {K : PySem.W.Frag} {mg : Str → Option Value} {base : Heap}
/-! ### renamed by what is no renaming -/
/-- v is no renaming of ns -/
def NoRen (K : PySem.W.Frag) (H : Hp) (v : V) (ns : List Str) : Prop :=
  Not K H v "dict" ∨ (∃ (nd : Addr) (kvs : List (Key × V)), v = .ref nd ∧ H nd = some (.dK kvs) ∧ kvs.length ≠ ns.length) ∨
   ∃ (nd : Addr) (kvs : List (Key × V)) (g : Str → V), v = .ref nd ∧ H nd = some (.dK kvs) ∧ kvs.length = ns.length ∧ (∀ z ∈ ns, valV kvs (Sum.inr z) = some (g z) ∧ ∀ H', Same H H' → NameArg K H' (g z)) ∧ ¬ ((∀ z ∈ ns, nameV (g z) = true) ∧ (ns.map fun z => txV (g z)).Nodup)
def spKRenE (K : PySem.W.Frag) (C Co : Addr) : Sp := fun vs H Q E => ∃ (x md : Addr) (leaf : Str) (M : Mak) (ns : List Str) (v : V), vs = [V.ref x, v] ∧ KindsAt C H x md leaf M ns ∧ ns.length ≤ 6 ∧ NoRen K H v ns ∧ ∀ H', Same H H' → E (.ref Co) none H'
theorem ok_krenE {C Co f : Addr} {fd : FuncData} (F : Fun K "renamed" "Kinds.renamed" s_Kinds_renamed f fd) (T : Top K mg) (TC : Cl_Kinds K mg C)
    (XO : XPln K mg "InvalidOperation" "ValueError.__new__" "ValueError.__init__" [.type "ValueError", .type "Exception", .type "BaseException", .type "object"] Co) (XC : XCls K Co) :
    FnOk P w K mg base (L2.CX P w) 8 f fd ["self", "names"] (spKRenE K C Co) := by
  have ci : Cal P w K mg base 7 "is_renaming" ["names", "kinds"] (spIsRenV K) := (T.d_is_renaming.cal fun f fd F => ok_isrenV F T).mono (by decide)
  refine F.okX sc_Kinds_renamed (fun vs H Q E h => ?_) (fun cdv A outer s H vs Q E hr h => ?_)
  · obtain ⟨x, md, leaf, M, ns, v, rfl, _⟩ := h
    rfl
  · obtain ⟨x, md, leaf, M, ns, v, rfl, ⟨dx, nt, kvs, hx, hd, hM, hn⟩, l6, hv, q⟩ := h
    refine ⟨_, pss_cons (ps_if (pt_not (pt_val (pe_cal ci hr (by rfl) (pa_cons (pv 1) (pa_cons (pe_fld (pv 0) rfl) pa_nil))))) (pss_one (ps_raise rfl (takes_of rfl rfl rfl rfl) (pmk_P PySem.F.excBase_ValueError XO XC (pa_cons pe_str pa_nil) (by rfl)))) pss_nil)
      (pss_cons ps_never (pss_cons ps_never (pss_one ps_never))), ?_⟩
    have fin : ∀ {H' : Hp}, Same H H' → (1 ≤ 1000 ∧ E (.ref Co) none H') := fun s => ⟨by omega, q _ s⟩
    refine ⟨_, rfl, _, rfl, x, C, dx, _, _, rfl, hx, TC.cl, TC.n_names, kf_names _ _ _, v, nt, ns, rfl, .inl (.inl hn), l6, ?_⟩
    rcases hv with h | ⟨nd, kv, rfl, h1, h2⟩ | ⟨nd, kv, g, rfl, h1, h2, h3, h4⟩
    · refine .inl ⟨h, fun H' s => ⟨_, rfl, ?_⟩⟩
      show (if (!false) = true then _ else _)
      rw [if_pos (by decide)]
      exact fin s
    · refine .inr (.inl ⟨nd, kv, rfl, h1, h2, fun H' s => ⟨_, rfl, ?_⟩⟩)
      show (if (!false) = true then _ else _)
      rw [if_pos (by decide)]
      exact fin s
    · refine .inr (.inr ⟨nd, kv, g, rfl, h1, h2, h3, fun b H' hb s => ⟨_, rfl, ?_⟩⟩)
      have e : b = false := by
        cases b with
        | false => rfl
        | true => exact absurd (hb.mp rfl) h4
      rw [e]
      show (if (!false) = true then _ else _)
      rw [if_pos (by decide)]
      exact fin s
def spKRenX (K : PySem.W.Frag) (C Co : Addr) : Sp := fun vs H Q E => spKRenE K C Co vs H Q E ∨ spKRen C vs H Q E
theorem ok_krenX {C Co f : Addr} {fd : FuncData} (F : Fun K "renamed" "Kinds.renamed" s_Kinds_renamed f fd) (T : Top K mg) (TC : Cl_Kinds K mg C)
    (XO : XPln K mg "InvalidOperation" "ValueError.__new__" "ValueError.__init__" [.type "ValueError", .type "Exception", .type "BaseException", .type "object"] Co) (XC : XCls K Co) :
    FnOk P w K mg base (L2.CX P w) 8 f fd ["self", "names"] (spKRenX K C Co) := FnOk.or (ok_krenE F T TC XO XC) (fnOk_lift (ok_kren F T TC))
def spKLosX (K : PySem.W.Frag) (C CU Co : Addr) : Sp := fun vs H Q E => spKLosE K C CU Co vs H Q E ∨ spKLos K C vs H Q E
theorem ok_klosX {C CU Co fI f : Addr} {fd fdI : FuncData} (F : Fun K "losers" "Kinds.losers" s_Kinds_losers f fd) (T : Top K mg) (TC : Cl_Kinds K mg C) (TX : XT_UnknownName K mg CU fI) (FX : Fun K "__init__" "UnknownName.__init__" s_UnknownName_init fI fdI)
    (XO : XPln K mg "InvalidOperation" "ValueError.__new__" "ValueError.__init__" [.type "ValueError", .type "Exception", .type "BaseException", .type "object"] Co) (XC : XCls K Co) :
    FnOk P w K mg base (L2.CX P w) 7 f fd ["self", "name", "winner"] (spKLosX K C CU Co) := FnOk.or (ok_klosE F T TC TX FX XO XC) (fnOk_lift ((ok_klos F T TC).mono (by decide)))
end
end Kl

set_option maxRecDepth 100000
set_option maxHeartbeats 4000000
namespace Kl
open PySem PySem.Spec PyProof.Rows L2 Gx Mx LamX
/-- what all lambdas of k07 ask of the errors -/
structure Ers (K : PySem.W.Frag) (mg : Str → Option Value) (CU fI Co : Addr) : Prop where
  TX : XT_UnknownName K mg CU fI
  XO : XPln K mg "InvalidOperation" "ValueError.__new__" "ValueError.__init__" [.type "ValueError", .type "Exception", .type "BaseException", .type "object"] Co
  eo : PySem.W.exmOne K (.ref Co) (.ref Co) = some true
  en : PySem.W.exmOne K (.ref Co) (.ref CU) = some false
section
variable {X : Cx}
/-- _law_told(lambda: body) -/
theorem pe_tl7 {Tb : List (Addr × Str)} {c P CU fI Co : Addr} {k : Nat} {params : Arguments} {body : Expr} {scope : Scope} {t : XK → TE} {p lpos pos : Pos} (T : Top X.K X.mg) (R : Ers X.K X.mg CU fI Co) (hgl : Gl X "_law_told") (hg : Gd X.A) (hr : Room (k + 2) X.A)
    (TB : TabB X.base X.mg c P) (hcode : X.env.code = .ref c) (hmT : (P, X.env.qual ++ "<lambda>") ∈ Tb) (hu : ∀ p ∈ Tb, p.1 = P → p.2 = X.env.qual ++ "<lambda>") (L : LamS X.env.scope scope) (hdef : defaultsOf params X.env = ([], []))
    (hbind : ∀ (q : Str) (cl : List (Str × Addr)) (pm cv ctv : Value), bindArgs (PySem.W.kla_fn "<lambda>" q params body scope cl pm cv ctv) ⟨[], []⟩ = pure [])
    (hbody : ∀ (A : Around) (outer : List Env) (s : Shared) (H : Hp) (E : XK) (f c' : Addr), Room k (A.deeper (lamEnv X scope s.heap.objs.size f c')) → PE (lamCx X A outer s H E scope f c') body (t E)) :
    PE X (.Call (.Name "_law_told" p) [.Lambda params body scope lpos] [] pos) (tLam Tb (TTold7 X.K CU Co) t) := by
  obtain ⟨g, fd, F, b, hm⟩ := T.d_law_told
  have kp := F.kp
  obtain ⟨oc, od, kV, doc, pm, an, cdv, ct, osl, rfl, lk, hcd⟩ := F.ex
  exact pe_lamcall (Ng := ["_law_call", "e"]) hgl hm kp lk hcd b sc_law_told rfl (.inl rfl) (told_gives7 T R.TX R.XO R.eo R.en hg hr) TB hcode hmT hu hr L hdef hbind hbody
end
end Kl

set_option maxRecDepth 100000
set_option maxHeartbeats 4000000
namespace Gx
open PySem PySem.Spec PyProof.Rows L2
/-! ### list(d.values()) -/
theorem vals_second {kvs : List (Key × V)} {vs : List (Key × Value)} (r : KV kvs vs) : Vals (kvs.map (·.2)) (vs.map (·.2)) := by
  unfold KV at r
  induction r with
  | nil => exact .nil
  | cons h _ ih => exact .cons h.2 ih
section
variable {X : Cx} {e : Expr} {te : TE} {p apos cpos pos : Pos}
def tListVals (te : TE) : TE := fun σ G Q => te σ G fun x G1 => ∃ (d : Addr) (kvs : List (Key × V)), x = .ref d ∧ G1 d = some (.dK kvs) ∧ ∀ l, G1 l = none → Q (.ref l) (upd G1 l (.lst (kvs.map (·.2))))
theorem pe_listVals (hc : X.calm = true) (he : PE X e te) (hg : Gl X "list") (hm : X.mg "list" = none) (hv : bootBuiltins "list" = some (.type "list")) (hbase : attributeBase e "values" X.env (eval e X.env) = eval e X.env := by rfl) (hline : (apos.endLine == cpos.line) = true := by rfl)
    (hs : starEach [.Call (.Attribute e "values" apos) [] [] cpos] X.env = (false, eval (.Call (.Attribute e "values" apos) [] [] cpos) X.env) :: starEach [] X.env := by rfl) :
    PE X (.Call (.Name "list" p) [.Call (.Attribute e "values" apos) [] [] cpos] [] pos) (tListVals te) := by
  refine ⟨fun pins s σ G Q inv want => wpAny_Call_Name_kw (ld_blt inv hg hm hv (PyProof.Rows.callWith_type1 ?_ hs rfl))⟩
  rw [hs]
  refine (fun k => Calls.spliced_cons k) (wpAny_Call_method0_late hbase hline (thn (he.run pins s σ G _ inv want) fun v s1 ⟨x, G1, inv1, r1, d, kvs, ex, hd, q⟩ => ?_))
  subst ex
  obtain rfl : v = Value.ref d := r1
  obtain ⟨few, low, vs, rel, dict⟩ := dk_of inv1.hok hd
  obtain ⟨ep, at1⟩ := dict.dictAt
  obtain ⟨ob, es, here, ex, _⟩ := id at1
  refine ⟨"dict", "dict.values", PySem.F.plainAttrs_dict, PySem.F.slot_dict_values, PySem.F.type_dict_values, ⟨ob, here, ex.1⟩, fun b eb => ?_, Calls.callWith_builtin rfl (PySem.evalArgs_none ?_)⟩
  · cases eb
    exact ⟨ob, here, ex.2.1⟩
  refine call_meetsIn PySem.F.slot_dict_values ⟨ob, here, ex.1⟩ PySem.F.entry_dict_values (PySem.F.args_dict_values_1 _) (meets_dict_values (mixKind X.prog X.w) d low) ⟨⟨vs, dict⟩, ?_⟩
  have inv2 : Inv X pins σ G1 { s1 with heap := s1.heap.push { cls := .type "dict_values", data := .fields #[.ref d] } } := inv1.kept (t' := s1.toks) fun b o eb => Heap.get?_push_of_some _ eb
  refine Calls.spliced_nil ?_
  refine PySem.W.kdl_call (PySem.W.kdl_values (knd := mixKind X.prog X.w) (kvs := vs) (ep := ep) (r := s1.heap.objs.size) (d := d)) (inv1.ok.hd hc) ⟨⟨_, Heap.get?_push_size _ rfl, rfl, rfl⟩, at1.push _⟩ (by rw [← rel.length]; exact few) fun h2 tk acc c keep at2 all => ?_
  have eqv : acc.toList = vs.map (·.2) := PySem.W.kdl_vals_eq acc.toList (by rw [Array.length_toList]; exact all.1) fun j v ej => all.2 j v (by rw [← Array.getElem?_toList]; exact ej)
  have fresh := inv2.hok.fresh (Nat.le_refl _)
  refine ⟨.ref _, upd G1 _ (.lst (kvs.map (·.2))), inv2.laid (t' := tk) keep (Nat.le_refl _) ?_, rfl, q _ fresh⟩
  exact ⟨by rw [List.length_map]; exact few, acc.toList, c, by rw [eqv]; exact vals_second rel, by rw [Array.toArray_toList]; exact at2⟩
end
end Gx

set_option maxRecDepth 100000
set_option maxHeartbeats 4000000
namespace Kl
open PySem PySem.Spec PyProof.Rows L2 Gx Mx
theorem imgs_vals (f : Str → Str) (ks : List Str) : (imgs f ks).map (·.2) = (ks.map f).map V.str := by
  unfold imgs
  rw [List.map_map, List.map_map]
  rfl
theorem imgs_put {f : Str → Str} {ks : List Str} {z im : Str} (h : z ∉ ks) : imgs f ks ++ [(Sum.inr z, V.str im)] = imgs (fun y => if y = z then im else f y) (ks ++ [z]) := by
  unfold imgs
  rw [List.map_append]
  congr 1
  · refine List.map_congr_left fun y hy => ?_
    show (Sum.inr y, V.str (f y)) = (Sum.inr y, V.str (if y = z then im else f y))
    have n : ¬ y = z := fun q => h (by rw [← q]; exact hy)
    rw [if_neg n]
  · show [_] = [(Sum.inr z, V.str (if z = z then im else f z))]
    rw [if_pos rfl]
theorem map_put {f : Str → Str} {ks : List Str} {z im : Str} (h : z ∉ ks) : (ks ++ [z]).map (fun y => if y = z then im else f y) = ks.map f ++ [im] := by
  rw [List.map_append]
  congr 1
  · refine List.map_congr_left fun y hy => ?_
    have n : ¬ y = z := fun q => h (by rw [← q]; exact hy)
    show (if y = z then im else f y) = f y
    rw [if_neg n]
  · show [if z = z then im else f z] = _
    rw [if_pos rfl]
theorem op_notInSeqK {X : Cx} {K : PySem.W.Frag} (hk : X.K = K) : OpR X (compareOp .NotIn) (rIn K true) := by
  subst hk
  exact op_notIn_seq
def MORE : List Str := ["new", "ab", "m", "later", "z"]
theorem more_in {z : Str} (h : z ∈ MORE) : z ∈ POOL := by
  have e : MORE.all (fun z => decide (z ∈ POOL)) = true := by decide +kernel
  exact of_decide_eq_true (List.all_eq_true.mp e z h)
section
variable {P : Program} {w : World} {K : PySem.W.Frag} {mg : Str → Option Value} {base : Heap}
/-! ### _law_images -/
def spImages (K : PySem.W.Frag) : Sp := fun vs H Q _ => ∃ (d t : Addr) (ns : List Str), vs = [.ref d, V.ref t] ∧ DiceAt H d ∧ SqT K H t (ns.map V.str) ∧ ns.Nodup ∧ ns.length ≤ 6 ∧ (∀ z ∈ ns, z ∈ POOL) ∧
  ∀ (nd : Addr) (f : Str → Str) (ks : List Str) (H' : Hp), ks.Perm ns → H' nd = some (.dK (imgs f ks)) → (∀ z ∈ ns, f z ∈ POOL) → (ns.map f).Nodup → SameX d H H' → DiceAt H' d → H nd = none → Q (.ref nd) H'
abbrev NM : List Str := ["_law_dice_here", "_law_names", "_law_pool", "_law_found", "_law_name", "_law_free", "_law_image"]
theorem ok_images {f : Addr} {fd : FuncData} (F : Fun K "_law_images" "_law_images" s_law_images f fd) (T : Top K mg) : FnOk P w K mg base CX0 3 f fd ["_law_dice_here", "_law_names"] (spImages K) := by
  have cm : Cal P w K mg base 2 "_law_mixed" ["_law_dice_here", "_law_items"] (spMixed K) := T.d_law_mixed.cal fun f fd F => ok_mixed F T
  have cp : Cal P w K mg base 2 "_law_pick" ["_law_dice_here", "_law_items"] (spPick K) := T.d_law_pick.cal fun f fd F => ok_pick F T
  refine F.ok sc_law_images (fun vs H Q E h => ?_) (fun cdv A outer s H vs Q E hr h => ?_)
  · obtain ⟨d, t, ns, rfl, _⟩ := h
    rfl
  · obtain ⟨d, t, ns, rfl, hdi, ht, nn, l6, hns, q⟩ := h
    have hu := hu_of hr
    refine ⟨_, pss_cut (ps_asg (pe_tup (pa_cons (pe_cal cm hr (by rfl) (pa_cons (pv 0) (pa_cons (pe_op op_cat (pe_callTy call_list_of (by rfl) T.b_list (by decide +kernel) (pa_cons (pv 1) pa_nil))
            (pe_lst (pa_cons pe_str (pa_cons pe_str (pa_cons pe_str (pa_cons pe_str (pa_cons pe_str pa_nil))))))) pa_nil))) (pa_cons pe_dnewK pa_nil)))
          (pg_tup rfl (pgs_cons (pg_name (i := 2) sc_law_images.nd rfl (.inl rfl)) (pgs_cons (pg_name (i := 3) sc_law_images.nd rfl (.inr rfl)) pgs_nil))))
      (pss_cut (ps_for PassesOwn.never rfl (pi_list (pe_cal cm hr (by rfl) (pa_cons (pv 0) (pa_cons (pe_callTy call_list_of (by rfl) T.b_list (by decide +kernel) (pa_cons (pv 1) pa_nil)) pa_nil)))) (pg_name (i := 4) sc_law_images.nd rfl (.inl rfl))
        (pss_cut (ps_setLc (i := 5) (own := [("_law_image", 6)]) (g := gName 6) (by rfl) sc_law_images.nd rfl rfl (sw_true rfl rfl rfl (by decide +kernel)) (pi_list (pv 2))
            (blkOk_by (N := NM) (sc := defScope s_law_images) (by decide +kernel)) (fun _ _ _ _ _ => pg_name (i := 6) sc_law_images.nd rfl (.inl rfl))
            (fun _ _ _ _ _ => pts_one (pt_cmpR (op_notInSeqK (K := K) (by exact rfl)) (pv 6) (pe_listVals rfl (pv 3) (by rfl) T.b_list (by decide +kernel)) (by rfl))) (fun _ _ _ _ _ => pv 6))
        (pss_one (ps_asg (pe_cal cp hr (by rfl) (pa_cons (pv 0) (pa_cons (pv 5) pa_nil))) (pg_sub (pv 3) (pv 4) (set_dict hu))))))
      (pss_one (ps_ret (pv 3)))), ?_⟩
    have big : 100000 ≤ sizeLine := by decide
    have lnm : (ns.map V.str).length = ns.length := List.length_map _
    have sqm : ∀ {G : Hp}, SameX d H G → SqT K G t (ns.map V.str) := fun {G} s => by
      obtain ⟨_, _, _, ed⟩ := hdi
      rcases ht with (h | ⟨o, h⟩) | h
      · exact .inl (.inl (s _ _ (fun z => by rw [z, ed] at h; cases h) h))
      · exact .inl (.inr ⟨o, s _ _ (fun z => by rw [z, ed] at h; cases h) h⟩)
      · exact .inr h
    -- the pool
    refine ⟨fun σ' G => ∃ (pl nd : Addr) (ps : List Str), σ' = [some (.ref d), some (.ref t), some (.ref pl), some (.ref nd), none, none, none] ∧ G pl = some (.lst (ps.map V.str)) ∧ ps.length ≤ 11 ∧ (∀ z ∈ ns, z ∈ ps) ∧ (∀ z ∈ ps, z ∈ POOL) ∧
      G nd = some (.dK []) ∧ H nd = none ∧ pl ≠ d ∧ nd ≠ d ∧ pl ≠ nd ∧ SameX d H G ∧ DiceAt G d, ?_, ?_⟩
    · refine ⟨_, rfl, _, rfl, t, _, rfl, .inr ht, fun l1 n1 => ?_⟩
      have s1 := same_new (o := .lst (ns.map V.str)) (Same.refl H) n1
      refine ⟨by show 5 ≤ sizeLine; omega, fun l2 n2 => ?_⟩
      rw [show ([V.str "new", V.str "ab", V.str "m", V.str "later", V.str "z"] : List V) = MORE.map V.str from rfl]
      have s2 := same_new (o := .lst (MORE.map V.str)) s1 n2
      refine ⟨l1, l2, _, _, rfl, rfl, by rw [upd_ne (ne_of_none upd_same n2)]; exact upd_same, upd_same, by rw [lnm]; show _ + 5 ≤ sizeLine; omega, fun l3 n3 => ?_⟩
      have s3 := same_new (o := .lst (ns.map V.str ++ MORE.map V.str)) s2 n3
      have x3 : (upd (upd (upd H l1 (.lst (ns.map V.str))) l2 (.lst (MORE.map V.str))) l3 (.lst (ns.map V.str ++ MORE.map V.str))) l3 = some (.lst (ns.map V.str ++ MORE.map V.str)) := upd_same
      have hl3 : l3 ≠ d := fun z => by
        obtain ⟨_, _, _, ed⟩ := hdi
        rw [z, s2 _ _ ed] at n3
        cases n3
      generalize eG : upd (upd (upd H l1 (.lst (ns.map V.str))) l2 (.lst (MORE.map V.str))) l3 (.lst (ns.map V.str ++ MORE.map V.str)) = G1 at s3 x3
      have hd1 : DiceAt G1 d := by
        obtain ⟨a, b, c, ed⟩ := hdi
        exact ⟨a, b, c, s3 _ _ ed⟩
      refine ⟨d, l3, ns ++ MORE, rfl, hd1, hl3, .inl (.inl (by rw [List.map_append]; exact x3)), by rw [List.length_append]; show _ + 5 ≤ 1000; omega, fun pl G2 ps hperm npl epl sx2 hd2 => ?_⟩
      have hpl : pl ≠ d := dice_ne hd1 npl
      have sxH : SameX d H G2 := (SameX.of s3).trans sx2
      refine fun nd nnd => ⟨by show 2 ≤ sizeLine; omega, fun tp ntp => ?_⟩
      have hnd : nd ≠ d := dice_ne hd2 nnd
      have s4 := same_new (o := .dK []) (Same.refl G2) nnd
      have s5 := same_new (o := .tup [.ref pl, .ref nd]) s4 ntp
      have end5 : (upd (upd G2 nd (.dK [])) tp (.tup [.ref pl, .ref nd])) nd = some (.dK []) := by rw [upd_ne (ne_of_none upd_same ntp), upd_same]
      have ndH := sxH.free hnd nnd
      have hpn : pl ≠ nd := ne_of_none epl nnd
      refine ⟨tp, _, rfl, .inl (.inl upd_same), rfl, _, _, rfl, _, _, rfl, rfl, pl, nd, ps, rfl, s5 _ _ epl, ?_, fun z hz => ?_, fun z hz => ?_, end5, ndH, hpl, hnd, hpn, sxH.trans (SameX.of s5), ?_⟩
      · rw [hperm.length_eq, List.length_append]
        show _ + 5 ≤ 11
        omega
      · exact hperm.mem_iff.mpr (List.mem_append_left _ hz)
      · rcases List.mem_append.mp (hperm.mem_iff.mp hz) with h | h
        · exact hns z h
        · exact more_in h
      · obtain ⟨a, b, c, ed⟩ := hd2
        exact ⟨a, b, c, s5 _ _ ed⟩
    rintro σ' G2 ⟨pl, nd, ps, rfl, epl, lps, hps, hpp, end2, ndH, hpl, hnd, hpn, sx2, hd2⟩
    -- an image for each name
    refine ⟨fun σ' G => ∃ y4 y5 f ks, σ' = [some (.ref d), some (.ref t), some (.ref pl), some (.ref nd), y4, y5, none] ∧ ks.Perm ns ∧ G nd = some (.dK (imgs f ks)) ∧ (∀ z ∈ ks, f z ∈ POOL) ∧ (ks.map f).Nodup ∧ SameX d H G ∧ DiceAt G d, ?_, ?_⟩
    · refine ⟨_, rfl, _, rfl, t, _, rfl, .inr (sqm sx2), fun l1 n1 => ?_⟩
      have hl1 : l1 ≠ d := dice_ne hd2 n1
      have s1 := same_new (o := .lst (ns.map V.str)) (Same.refl G2) n1
      refine ⟨d, l1, ns, rfl, dice_upd hd2 hl1, hl1, .inl (.inl upd_same), by omega, fun zl G3 zs hp nzl ezl sx3 hd3 => ?_⟩
      have sx23 : SameX d G2 G3 := (SameX.of s1).trans sx3
      have hzl : zl ≠ d := dice_ne (dice_upd hd2 hl1) nzl
      have e1 : zl ≠ nd := fun z => by
        rw [z, upd_ne (ne_of_none end2 n1), end2] at nzl
        cases nzl
      have lz : zs.length = ns.length := hp.length_eq
      have ndz : zs.Nodup := hp.nodup_iff.mpr nn
      refine ⟨zl, rfl, ⟨_, .inl (.inl ezl)⟩, ?_⟩
      refine for_it (walk_list (K := K) (a := zl) (xs := zs.map V.str)) (fun i σ' G => ∃ y4 y5 f, σ' = [some (.ref d), some (.ref t), some (.ref pl), some (.ref nd), y4, y5, none] ∧ G nd = some (.dK (imgs f (zs.take i))) ∧ (∀ z ∈ zs.take i, f z ∈ POOL) ∧ ((zs.take i).map f).Nodup ∧
          G zl = some (.lst (zs.map V.str)) ∧ G pl = some (.lst (ps.map V.str)) ∧ SameX d H G ∧ DiceAt G d)
        ⟨_, _, fun z => z, rfl, sx23 _ _ hnd end2, nofun, List.nodup_nil, ezl, sx23 _ _ hpl epl, sx2.trans sx23, hd3⟩ (fun i σ' G _ hP => by obtain ⟨_, _, _, _, _, _, _, h, _⟩ := hP; exact .inl (.inl h)) (fun i v σ' Gx G hi hP hy => ?_) (fun σ' G hP => ?_)
      · obtain ⟨y4, y5, f, rfl, eN, hfP, hfn, ez, ep, sx, hdG⟩ := hP
        obtain ⟨rfl, hv⟩ := hy
        obtain ⟨z, hz, rfl⟩ := at_texts hv
        rw [List.length_map] at hi
        have hzi := take_not ndz hz
        have lti : (zs.take i).length = i := by rw [List.length_take]; omega
        -- what is free
        refine ⟨fun σ' G' => ∃ (fr : Addr) (im : List Str), σ' = [some (.ref d), some (.ref t), some (.ref pl), some (.ref nd), some (.str z), some (.ref fr), none] ∧ G' fr = some (.lst (im.map V.str)) ∧ fr ≠ d ∧ im ≠ [] ∧ im.length ≤ 11 ∧ (∀ y ∈ im, y ∈ POOL ∧ y ∉ (zs.take i).map f) ∧ Same G G', ?_, ?_⟩
        · refine ⟨_, rfl, pl, rfl, ⟨_, .inl (.inl ep)⟩, fun D hD => ?_⟩
          refine lc_it (g := gName 6) (vs := [6]) walk_list (fun j G' => G' D = some (.lst (((ps.take j).filter fun y => decide (y ∉ (zs.take i).map f)).map V.str)) ∧ Same G G') ⟨upd_same, same_new (Same.refl G) hD⟩ (fun j G' _ h => .inl (.inl (h.2 _ _ ep))) (fun j v Gx G' hj h hy => ?_) (fun G' h => ?_)
          · obtain ⟨eD, sm⟩ := h
            obtain ⟨rfl, hv⟩ := hy
            obtain ⟨y, hy, rfl⟩ := at_texts hv
            refine ⟨rfl, _, rfl, _, rfl, nd, _, rfl, sm _ _ eN, fun l nl => ?_⟩
            rw [imgs_vals]
            have s6 := same_new (o := .lst (((zs.take i).map f).map V.str)) (Same.refl G') nl
            refine ⟨l, _, rfl, .inl (.inl (.inl upd_same)), rfl, flat_strs' _, _, rfl, ?_⟩
            have ei : inV (V.str y) (((zs.take i).map f).map V.str) = decide (y ∈ (zs.take i).map f) := inV_strs y _
            have ef : (ps.take (j + 1)).filter (fun y => decide (y ∉ (zs.take i).map f)) = (ps.take j).filter (fun y => decide (y ∉ (zs.take i).map f)) ++ (if y ∈ (zs.take i).map f then [] else [y]) := by
              rw [take_snoc hy, List.filter_append]
              congr 1
              by_cases c : y ∈ (zs.take i).map f
              · rw [if_pos c]
                simp only [List.filter_cons, List.filter_nil]
                rw [if_neg (by rw [decide_eq_true_eq]; exact fun q => q c)]
              · rw [if_neg c]
                simp only [List.filter_cons, List.filter_nil]
                rw [if_pos (decide_eq_true c)]
            have eD6 := s6 _ _ eD
            have sm6 : Same G (upd G' l (.lst (((zs.take i).map f).map V.str))) := fun b u e => s6 _ _ (sm _ _ e)
            generalize upd G' l (.lst (((zs.take i).map f).map V.str)) = G6 at eD6 sm6
            simp only [ei, if_true]
            by_cases c : y ∈ (zs.take i).map f
            · rw [if_pos c, List.append_nil] at ef
              rw [decide_eq_true c]
              show (if false = true then _ else _)
              rw [if_neg (by decide), ef]
              exact ⟨eD6, sm6⟩
            · rw [if_neg c] at ef
              rw [decide_eq_false c]
              show (if true = true then _ else _)
              rw [if_pos rfl]
              refine ⟨_, rfl, _, eD6, ?_, ?_, fun b u e => by rw [upd_ne (ne_of_none e hD)]; exact sm6 b u e⟩
              · rw [List.length_map]
                have := List.length_filter_le (fun y => decide (y ∉ (zs.take i).map f)) (ps.take j)
                rw [List.length_take] at this
                exact Nat.lt_of_le_of_lt (show _ ≤ 11 by omega) (by decide)
              · rw [upd_same, ef, List.map_append]
                rfl
          · obtain ⟨eD, sm⟩ := h
            rw [List.length_map, List.take_length] at eD
            have hDd : D ≠ d := dice_ne hdG hD
            refine ⟨D, _, rfl, eD, hDd, fun q0 => ?_, ?_, fun y hy => ?_, sm⟩
            · -- some name of ns is free
              have all : ∀ y ∈ ns, y ∈ (zs.take i).map f := fun y hy => by
                by_cases c : y ∈ (zs.take i).map f
                · exact c
                · have : y ∈ ps.filter fun y => decide (y ∉ (zs.take i).map f) := List.mem_filter.mpr ⟨hps y hy, decide_eq_true c⟩
                  rw [q0] at this
                  cases this
              have := sub_len nn all
              rw [List.length_map, lti] at this
              omega
            · exact Nat.le_trans (List.length_filter_le _ _) lps
            · obtain ⟨h1, h2⟩ := List.mem_filter.mp hy
              exact ⟨hpp y h1, of_decide_eq_true h2⟩
        rintro σ' G' ⟨fr, im, rfl, efr, hfr, ne0, l11, him, sm⟩
        have hdG' : DiceAt G' d := by
          obtain ⟨a, b, c, ed⟩ := hdG
          exact ⟨a, b, c, sm _ _ ed⟩
        refine ⟨_, rfl, _, rfl, d, .ref fr, _, rfl, hdG', .inl ⟨fr, rfl, hfr, .inl (.inl (.inl efr))⟩, fun q0 => ne0 (List.map_eq_nil_iff.mp q0), by rw [List.length_map]; omega, fun v xx b c hv => ?_⟩
        obtain ⟨y, hy, rfl⟩ := List.mem_map.mp hv
        obtain ⟨hyP, hyn⟩ := him y hy
        have eN' : (upd G' d (.lst [.int xx, .int b, .int c])) nd = some (.dK (imgs f (zs.take i))) := by rw [upd_ne hnd]; exact sm _ _ eN
        refine ⟨_, rfl, _, rfl, nd, _, rfl, .inl ⟨_, Sum.inr z, eN', rfl, by rw [imgs_len, lti]; omega, rfl⟩, ?_⟩
        rw [putK_new _ (imgs_no hzi), imgs_put hzi]
        refine ⟨_, _, fun y' => if y' = z then y else f y', rfl, by rw [upd_same, take_snoc hz], fun y' hy' => ?_, ?_, ?_, ?_, ?_, dice_upd (dice_new xx b c) hnd⟩
        · show (if y' = z then y else f y') ∈ POOL
          rw [take_snoc hz, List.mem_append, List.mem_singleton] at hy'
          by_cases c' : y' = z
          · rw [if_pos c']
            exact hyP
          · rw [if_neg c']
            rcases hy' with h | h
            · exact hfP y' h
            · exact absurd h c'
        · rw [take_snoc hz, map_put hzi, List.nodup_append]
          refine ⟨hfn, List.nodup_cons.mpr ⟨List.not_mem_nil, List.nodup_nil⟩, fun a ha b' hb => ?_⟩
          rw [List.mem_singleton] at hb
          subst hb
          exact fun q0 => hyn (by rw [← q0]; exact ha)
        · rw [upd_ne e1, upd_ne hzl]
          exact sm _ _ ez
        · rw [upd_ne hpn, upd_ne hpl]
          exact sm _ _ ep
        · exact (((sx.trans (SameX.of sm)).atd).at ndH)
      · obtain ⟨y4, y5, f, rfl, eN, hfP, hfn, _, _, sx, hdG⟩ := hP
        rw [List.length_map, List.take_length] at eN hfP hfn
        exact ⟨_, _, f, zs, rfl, hp, eN, hfP, hfn, sx, hdG⟩
    rintro σ' G4 ⟨y4, y5, f, ks, rfl, hp, eN, hfP, hfn, sx, hdG⟩
    exact ⟨_, rfl, q nd f ks G4 hp eN (fun z hz => hfP z (hp.mem_iff.mpr hz)) ((hp.map f).nodup_iff.mp hfn) sx hdG ndH⟩
end
end Kl

set_option maxRecDepth 100000
set_option maxHeartbeats 4000000
namespace Kl
open PySem PySem.Spec PyProof.Rows L2 Gx Mx LamX
/-! ### what stays while lambdas are made -/
theorem KindsAt.exX {C : Addr} {H H' : Hp} {x md d : Addr} {leaf : Str} {M : Mak} {ns : List Str} (h : KindsAt C H x md leaf M ns) (s : ExtX d H H') (hd : DiceAt H d) : KindsAt C H' x md leaf M ns := by
  obtain ⟨dx, nt, kvs, h1, h2, h3, h4⟩ := h
  obtain ⟨a, b, c, e⟩ := hd
  have nd : ∀ {p : Addr} {o : HO}, H p = some o → (∀ xs, o ≠ .lst xs) → p ≠ d := fun h1 n w => by
    rw [w, e] at h1
    exact n _ (Option.some.inj h1).symm
  exact ⟨dx, nt, kvs, s _ _ (nd h1 fun _ => nofun) h1 (fun _ => nofun), s _ _ (nd h2 fun _ => nofun) h2 (fun _ => nofun), h3.same fun b xs q => q.at fun o e' => by
    obtain ⟨ob, dn, e2⟩ := q
    rw [e2] at e'
    cases e'
    exact s _ _ (nd e2 fun _ => nofun) e2 (fun _ => nofun), s _ _ (nd h4 fun _ => nofun) h4 (fun _ => nofun)⟩
theorem KindsAt.exN {C : Addr} {H H' : Hp} {x md : Addr} {leaf : Str} {M : Mak} {ns : List Str} (h : KindsAt C H x md leaf M ns) (s : ExtN H H') : KindsAt C H' x md leaf M ns := by
  obtain ⟨dx, nt, kvs, h1, h2, h3, h4⟩ := h
  exact ⟨dx, nt, kvs, s _ _ h1 (fun _ => nofun), s _ _ h2 (fun _ => nofun), h3.same fun b xs q => q.at fun o e' => by
    obtain ⟨ob, dn, e2⟩ := q
    rw [e2] at e'
    cases e'
    exact s _ _ e2 (fun _ => nofun), s _ _ h4 (fun _ => nofun)⟩
theorem dice_exN {H H' : Hp} {d : Addr} (s : ExtN H H') (h : DiceAt H d) : DiceAt H' d := by
  obtain ⟨a, b, c, e⟩ := h
  exact ⟨a, b, c, s _ _ e fun _ => nofun⟩
theorem tabs_dice {Tb : List (Addr × Str)} {H H' : Hp} {d : Addr} (t : Tabs Tb H) (hd : DiceAt H d) (s : SameX d H H') : Tabs Tb H' := fun p hp => by
  obtain ⟨ps, h1, h2, h3⟩ := t p hp
  obtain ⟨a, b, c, e⟩ := hd
  refine ⟨ps, s _ _ (fun w => by rw [w, e] at h1; cases h1) h1, h2, fun pos cv hc => ?_⟩
  obtain ⟨c1, e1, e2⟩ := h3 pos cv hc
  exact ⟨c1, e1, s _ _ (fun w => by rw [w, e] at e2; cases (Option.some.inj e2)) e2⟩
theorem ext_ofX {d : Addr} {H H' : Hp} (s : SameX d H H') : ExtX d H H' := fun b o n e _ => s b o n e
/-- what stands while the kinds are asked -/
structure AKs (K : PySem.W.Frag) (C : Addr) (Tb : List (Addr × Str)) (H0 : Hp) (d x md : Addr) (leaf : Str) (M : Mak) (ns : List Str) (v : V) (od : PyData) (u : V) (wd : PyData) (G : Hp) : Prop where
  tb : Tabs Tb G
  hK : KindsAt C G x md leaf M ns
  ho : AnyV K d G v od
  hw : AnyV K d G u wd
  hd : DiceAt G d
  sx : ExtX d H0 G
theorem AKs.exN {K : PySem.W.Frag} {C : Addr} {Tb : List (Addr × Str)} {H0 : Hp} {d x md : Addr} {leaf : Str} {M : Mak} {ns : List Str} {v u : V} {od wd : PyData} {G G' : Hp} (h : AKs K C Tb H0 d x md leaf M ns v od u wd G) (s : ExtN G G') (t : Tabs Tb G') : AKs K C Tb H0 d x md leaf M ns v od u wd G' :=
  ⟨t, h.hK.exX (.ofN s) h.hd, h.ho.ext (.ofN s), h.hw.ext (.ofN s), dice_exN s h.hd, h.sx.trans (.ofN s)⟩
theorem AKs.sm {K : PySem.W.Frag} {C : Addr} {Tb : List (Addr × Str)} {H0 : Hp} {d x md : Addr} {leaf : Str} {M : Mak} {ns : List Str} {v u : V} {od wd : PyData} {G G' : Hp} (h : AKs K C Tb H0 d x md leaf M ns v od u wd G) (s : Same G G') : AKs K C Tb H0 d x md leaf M ns v od u wd G' := h.exN (.of s) (h.tb.ext s)
/-! ### values -/
section
variable {K : PySem.W.Frag} {H : Hp} {d : Addr}
theorem any_pool {z : Str} (hz : z ∈ POOL) : AnyV K d H (.str z) (.str z) := by
  have e : POOL.all (fun z => PyData.canLay0 (.str z) && decide ((PyData.shown (.str z)).length ≤ 20000) && PyData.strOk (PyData.shown (.str z))) = true := by decide +kernel
  have e2 := List.all_eq_true.mp e z hz
  rw [Bool.and_eq_true, Bool.and_eq_true] at e2
  exact .dat (fun _ _ => .str z) rfl e2.1.1 (Nat.zero_le _) rfl (of_decide_eq_true e2.1.2) e2.2 (fun H' s => ⟨_, true, .base (.str z), kit_ty (by decide +kernel), by simp, kit_ty (by decide +kernel)⟩)
theorem any_non : AnyV K d H .non .none := .dat (fun _ _ => .non) rfl (by decide +kernel) (by decide +kernel) (by decide +kernel) (by decide +kernel) (by decide +kernel) (fun H' s => ⟨_, false, .base .non, kit_ty (by decide +kernel), by simp, kit_ty (by decide +kernel)⟩)
theorem any_zero : AnyV K d H (.int 0) (.int 0) := .dat (fun _ _ => .int 0) rfl (by decide +kernel) (by decide +kernel) (by decide +kernel) (by decide +kernel) (by decide +kernel) (fun H' s => ⟨_, false, .base (.int 0), kit_ty (by decide +kernel), by simp, kit_ty (by decide +kernel)⟩)
theorem any_empty : AnyV K d H (.str "") (.str "") := .dat (fun _ _ => .str "") rfl (by decide +kernel) (by decide +kernel) (by decide +kernel) (by decide +kernel) (by decide +kernel) (fun H' s => ⟨_, true, .base (.str ""), kit_ty (by decide +kernel), by simp, kit_ty (by decide +kernel)⟩)
theorem any_tup1 {t : Addr} {z : Str} (hz : z ∈ POOL) (e : H t = some (.tup [.str z])) (n : t ≠ d) : AnyV K d H (.ref t) (.tuple [.str z]) := by
  have e1 : POOL.all (fun z => PyData.canLay0 (.tuple [.str z]) && decide ((PyData.shown (.tuple [.str z])).length ≤ 20000) && PyData.strOk (PyData.shown (.tuple [.str z])) && decide ((PyData.tuple [.str z]).depth ≤ 10)) = true := by decide +kernel
  have e2 := List.all_eq_true.mp e1 z hz
  rw [Bool.and_eq_true, Bool.and_eq_true, Bool.and_eq_true] at e2
  exact .dat (fun H' s => .tup (.inl (.inl (s _ _ n e fun _ => nofun))) (.cons (.str z) .nil)) rfl e2.1.1.1 (of_decide_eq_true e2.2) rfl (of_decide_eq_true e2.1.1.2) e2.1.2 (fun H' s => ⟨_, false, .base (.tup (s _ _ n e fun _ => nofun)), kit_ty (by decide +kernel), by simp, kit_ty (by decide +kernel)⟩)
theorem any_lst1 {t : Addr} {z : Str} (hz : z ∈ POOL) (e : H t = some (.lst [.str z])) (n : t ≠ d) : AnyV K d H (.ref t) (.list [.str z]) := by
  have e1 : POOL.all (fun z => PyData.canLay0 (.list [.str z]) && decide ((PyData.shown (.list [.str z])).length ≤ 20000) && PyData.strOk (PyData.shown (.list [.str z])) && decide ((PyData.list [.str z]).depth ≤ 10)) = true := by decide +kernel
  have e2 := List.all_eq_true.mp e1 z hz
  rw [Bool.and_eq_true, Bool.and_eq_true, Bool.and_eq_true] at e2
  exact .dat (fun H' s => .lst (.inl (.inl (s _ _ n e fun _ => nofun))) (.cons (.str z) .nil)) rfl e2.1.1.1 (of_decide_eq_true e2.2) rfl (of_decide_eq_true e2.1.1.2) e2.1.2 (fun H' s => ⟨_, false, .base (.lst (s _ _ n e fun _ => nofun)), kit_ty (by decide +kernel), by simp, kit_ty (by decide +kernel)⟩)
end
/-! ### a list made while lambdas are made -/
/-- p is new since H (as far as what is no table tells) -/
def NewN (H : Hp) (p : Addr) : Prop := ∀ o, H p = some o → ¬ ∀ ps, o ≠ .tbl ps
theorem new_n {H H' : Hp} {p : Addr} (s : ExtN H H') (n : H' p = none) : NewN H p := fun o e t => by
  rw [s _ _ e t] at n
  cases n
theorem ext_lst {H G : Hp} {p : Addr} {o : HO} (s : ExtN H G) (n : NewN H p) : ExtN H (upd G p o) := fun b u e t => by
  by_cases c : b = p
  · rw [c] at e
    exact (n u e t).elim
  · rw [upd_ne c]
    exact s b u e t
theorem tabs_lst {Tb : List (Addr × Str)} {G : Hp} {p : Addr} {xs : List V} {o : HO} (t : Tabs Tb G) (e : G p = some (.lst xs)) : Tabs Tb (upd G p o) := fun q hq => by
  obtain ⟨ps, h1, h2, h3⟩ := t q hq
  refine ⟨ps, by rw [upd_ne (fun w => by rw [w, e] at h1; cases h1)]; exact h1, h2, fun pos cv hc => ?_⟩
  obtain ⟨c1, e1, e2⟩ := h3 pos cv hc
  exact ⟨c1, e1, by rw [upd_ne (fun w => by rw [w, e] at e2; cases (Option.some.inj e2))]; exact e2⟩
theorem ext_sm {H G G' : Hp} (a : ExtN H G) (s : Same G G') : ExtN H G' := a.trans (.of s)
/-- the sort of a value, as far as isinstance(x, str) asks -/
theorem any_ty {K : PySem.W.Frag} {H : Hp} {d : Addr} {u : V} {wd : PyData} (h : AnyV K d H u wd) : ∃ (tt : Value) (b : Bool), TyX K H u tt ∧ PySem.W.kitOne K tt (.type "str") = some b ∧ (b = true ↔ ∃ z, u = .str z) := by
  cases h with
  | dat h a b c e f g y =>
    obtain ⟨tt, b, h1, h2, h3, _⟩ := y H (ExtX.refl d H)
    exact ⟨tt, b, h1, h2, h3⟩
  | emp e n => exact ⟨_, false, .base (.dK e), kit_ty (by decide +kernel), by simp⟩
end Kl

set_option maxRecDepth 100000
set_option maxHeartbeats 4000000
namespace Gx
open PySem PySem.Spec PyProof.Rows L2 LamX
/-- an own class of errors is not caught by the name of another -/
theorem exm_no {K : PySem.W.Frag} {S C : Addr} (b : PySem.W.subIn K (.ref C) (.type "BaseException") = some true) (i : PySem.W.isClsIn K C = true) (t : PySem.W.typeIn K (.ref C) = some (.type "type")) (s : PySem.W.subIn K (.ref S) (.ref C) = some false) : PySem.W.exmOne K (.ref S) (.ref C) = some false := by
  have i' : (PySem.W.clsIn K C).isSome = true := i
  unfold PySem.W.exmOne PySem.W.kitCls
  simp [b, i', t, s]
/-- one table, one name -/
theorem one_of : ∀ {Tb : List (Addr × Str)} {P : Addr} {q : Str}, (Tb.map (·.1)).Nodup → (P, q) ∈ Tb → ∀ p ∈ Tb, p.1 = P → p.2 = q
  | (P0, q0) :: r, P, q, nd, m, p, hp, e => by
    rw [List.map_cons, List.nodup_cons] at nd
    rcases List.mem_cons.mp m with h | h
    · cases h
      rcases List.mem_cons.mp hp with rfl | h2
      · rfl
      · exact absurd (List.mem_map.mpr ⟨p, h2, e⟩) nd.1
    · rcases List.mem_cons.mp hp with rfl | h2
      · exact absurd (List.mem_map.mpr ⟨_, h, e.symm⟩) nd.1
      · exact one_of nd.2 h p h2 e
/-- as Def.calG, the name's address handed on -/
theorem Def.calGL {P : Program} {w : World} {K : PySem.W.Frag} {mg : Str → Option Value} {base : Heap} {x qual : Str} {st : Stmt} {ps : List Str} (d : Def K mg x qual st ps) {k : Nat} {sp : Sp} (h : ∀ f fd, mg x = some (.ref f) → Fun K x qual st f fd → FnG P w K mg base CX0 k f fd ps sp) : CalG P w K mg base k x ps sp := by
  obtain ⟨f, fd, F, b, g⟩ := d
  exact ⟨f, fd, h f fd g F, F.kp, b, g⟩
abbrev ln (x : Str) : Str := (x ++ ".<locals>.") ++ "<lambda>"
/-- a def of the module that makes lambdas: its code and its table -/
structure Lam (K : PySem.W.Frag) (mg : Str → Option Value) (base : Heap) (Tb : List (Addr × Str)) (x : Str) (c Pt : Addr) : Prop where
  tb : TabB base mg c Pt
  mem : (Pt, ln x) ∈ Tb
  one : ∀ p ∈ Tb, p.1 = Pt → p.2 = ln x
  code : ∀ (f : Addr) (oc : Value) (od : Option Addr) (fd : FuncData) (sl : Array (Option Value)), mg x = some (.ref f) → K.lookup f = some ⟨oc, od, .func fd, sl⟩ → fd.code = .ref c
theorem Lam.of {K : PySem.W.Frag} {mg : Str → Option Value} {base : Heap} {Tb : List (Addr × Str)} {x : Str} {c Pt : Addr} (L : Lam K mg base Tb x c Pt) {qual : Str} {st : Stmt} {f : Addr} {fd : FuncData} (g : mg x = some (.ref f)) (F : Fun K x qual st f fd) : fd.code = .ref c := by
  obtain ⟨oc, od, kV, doc, pm, an, cdv, ct, osl, _, lk, _⟩ := F.ex
  exact L.code f oc od fd osl g lk
theorem tabIn_of {K : PySem.W.Frag} {x : Str} {f c Pt : Addr} {oc oc2 : Value} {od od2 : Option Addr} {fd : FuncData} {sl sl2 : Array (Option Value)} {vs : Array Value} (a : PySem.W.nsIn K mainGlobals x = some (some (.ref f))) (l : K.lookup f = some ⟨oc, od, .func fd, sl⟩) (hc : fd.code = .ref c) (lc : K.lookup c = some ⟨oc2, od2, .fields vs, sl2⟩) (hp : vs[11]? = some (.ref Pt)) : PySem.W.tabIn K x = some (c, Pt) := by
  unfold PySem.W.tabIn
  simp only [a, l, hc, lc, hp]
/-- .. as the top has made it -/
theorem Lam.mk_of {K : PySem.W.Frag} {mg : Str → Option Value} {base : Heap} {Tb : List (Addr × Str)} {x : Str} {c Pt : Addr} (X : K.In base) (G : base.Ns mainGlobals mg) (ht : PySem.W.tabIn K x = some (c, Pt)) (tb : TabB base mg c Pt) (nd : (Tb.map (·.1)).Nodup) (m : (Pt, ln x) ∈ Tb) : Lam K mg base Tb x c Pt :=
  ⟨tb, m, one_of nd m, fun f oc od fd sl g lk => PySem.W.law_code X G ht g (X _ _ lk) rfl⟩
end Gx

set_option maxRecDepth 100000
set_option maxHeartbeats 4000000
namespace Kl
open PySem PySem.Spec PyProof.Rows L2 Gx Mx LamX
section
variable {P : Program} {w : World} {K : PySem.W.Frag} {mg : Str → Option Value} {base : Heap}
/-! ### _law_asked_right -/
def spAK (K : PySem.W.Frag) (C : Addr) (Tb : List (Addr × Str)) : Sp := fun vs H Q _ => ∃ (d x md : Addr) (leaf : Str) (M : Mak) (ns : List Str) (v : V) (od : PyData), vs = [.ref d, .ref x, v] ∧ DiceAt H d ∧ Tabs Tb H ∧ KindsAt C H x md leaf M ns ∧ Vld leaf M ∧ IsNames leaf (keysOf M) ns ∧ AnyV K d H v od ∧ inD ns od = false ∧
  ∀ H', ExtX d H H' → Tabs Tb H' → DiceAt H' d → Q (.bl true) H'
theorem ok_ak {f c Pt C CU fI Co : Addr} {fd fdI : FuncData} {Tb : List (Addr × Str)} (F : Fun K "_law_asked_right" "_law_asked_right" s_law_asked_right f fd) (hc : fd.code = .ref c) (TB : TabB base mg c Pt) (hm : (Pt, ln "_law_asked_right") ∈ Tb) (hu0 : ∀ p ∈ Tb, p.1 = Pt → p.2 = ln "_law_asked_right")
    (T : Top K mg) (TC : Cl_Kinds K mg C) (R : Ers K mg CU fI Co) (FX : Fun K "__init__" "UnknownName.__init__" s_UnknownName_init fI fdI) (XC : XCls K Co) : FnG P w K mg base CX0 11 f fd ["_law_dice_here", "_law_kinds_here", "_law_odd"] (spAK K C Tb) := by
  have cp : Cal P w K mg base 10 "_law_pick" ["_law_dice_here", "_law_items"] (spPick K) := (T.d_law_pick.cal fun f fd F => ok_pick F T).mono (by decide)
  have cgv : CalM P w K mg base C "__getitem__" 1 ["self", "name"] (spKGet C) := TC.m_getitem.cal fun f fd F => ok_kget F T TC
  have cg : CalMY P w K mg base C "__getitem__" 4 ["self", "name"] (spKGetX K C CU) := TC.m_getitem.calY fun f fd F => ok_kgetX F T TC R.TX FX
  have cu : CalMY P w K mg base C "users" 4 ["self", "name"] (spKUseX K C CU) := TC.m_users.calY fun f fd F => ok_kuseX F T TC R.TX FX
  have cl : CalMY P w K mg base C "losers" 7 ["self", "name", "winner"] (spKLosX K C CU Co) := TC.m_losers.calY fun f fd F => ok_klosX F T TC R.TX FX R.XO XC
  have kNam : CalP P w K mg base C "names" 9 (spKNam C) := (TC.p_names.cal fun f fd F => ok_knam F TC).mono (by decide)
  refine okGL F hc sc_law_asked_right (fun vs H Q E h => ?_) (fun A outer s H vs Q E hg hr h => ?_)
  · obtain ⟨d, x, md, leaf, M, ns, v, od, rfl, _⟩ := h
    rfl
  · obtain ⟨d, x, md, leaf, M, ns, v, od, rfl, hd, hTb, hK, hV, hN, hv, hod, q⟩ := h
    have hu := hu_of hr
    have hu80 := hu80_of hr
    refine ⟨_, pss_cut (ps_set (i := 3) sc_law_asked_right.nd rfl (.inr rfl) (pe_cal cp hr (by rfl) (pa_cons (pv 0) (pa_cons (pe_propC (pv 1) TC.cl kNam hr rfl) pa_nil))))
      (pss_cut (ps_set (i := 4) sc_law_asked_right.nd rfl (.inr rfl) (pe_cal cp hr (by rfl) (pa_cons (pv 0) (pa_cons (pe_op op_cat (pe_callTy call_list_of (by rfl) T.b_list (by decide +kernel) (pa_cons (pe_propC (pv 1) TC.cl kNam hr rfl) pa_nil))
          (pe_lst (pa_cons (pv 2) (pa_cons pe_non (pa_cons pe_int (pa_cons pe_str (pa_cons (pe_tup (pa_cons (pv 3) pa_nil)) (pa_cons (pe_lst (pa_cons (pv 3) pa_nil)) pa_nil)))))))) pa_nil))))
      (pss_cut (ps_set (i := 5) sc_law_asked_right.nd rfl (.inl rfl) (pe_lst (pa_cons (pe_tl7 (k := 8) T R (by rfl) hg hr TB rfl hm hu0 (lamS_by (sc := defScope s_law_asked_right) (by decide +kernel)) rfl (fun _ _ _ _ _ => rfl) (fun A outer s H E f c' hr' => pe_ixMX cg (hr'.mono (by decide)) (fun σ => passAt (takes_of rfl rfl rfl rfl) σ) (pv 1) (pv 2) (fun _ _ => rfl))) pa_nil)))
      (pss_cut (ps_expr (pe_bm PySem.F.plainAttrs_list PySem.F.slot_list_append PySem.F.type_list_append mt_append (pv 5) (pa_cons (pe_tl7 (k := 8) T R (by rfl) hg hr TB rfl hm hu0 (lamS_by (sc := defScope s_law_asked_right) (by decide +kernel)) rfl (fun _ _ _ _ _ => rfl) (fun A outer s H E f c' hr' => pe_methXo (pv 1) TC.cl cu (hr'.mono (by decide)) (fun σ => passAt (takes_of rfl rfl rfl rfl) σ) (pa_cons (pv 2) pa_nil))) pa_nil)))
      (pss_cut (ps_expr (pe_bm PySem.F.plainAttrs_list PySem.F.slot_list_append PySem.F.type_list_append mt_append (pv 5) (pa_cons (pe_tl7 (k := 8) T R (by rfl) hg hr TB rfl hm hu0 (lamS_by (sc := defScope s_law_asked_right) (by decide +kernel)) rfl (fun _ _ _ _ _ => rfl) (fun A outer s H E f c' hr' => pe_methXo (pv 1) TC.cl cl (hr'.mono (by decide)) (fun σ => passAt (takes_of rfl rfl rfl rfl) σ) (pa_cons (pv 2) (pa_cons (pv 4) pa_nil)))) pa_nil)))
      (pss_cut (ps_expr (pe_bm PySem.F.plainAttrs_list PySem.F.slot_list_append PySem.F.type_list_append mt_append (pv 5) (pa_cons (pe_tl7 (k := 8) T R (by rfl) hg hr TB rfl hm hu0 (lamS_by (sc := defScope s_law_asked_right) (by decide +kernel)) rfl (fun _ _ _ _ _ => rfl) (fun A outer s H E f c' hr' => pe_methXo (pv 1) TC.cl cl (hr'.mono (by decide)) (fun σ => passAt (takes_of rfl rfl rfl rfl) σ) (pa_cons (pv 2) (pa_cons (pv 2) pa_nil)))) pa_nil)))
      (pss_cut (ps_if (pt_cmpR (op_neD hr.units) (pv 5) (pe_op op_rep (pe_lst (pa_cons (pe_op op_add_str pe_str (pe_callB (call_reprAK (K := K) (by rfl) hg hu80) (by rfl) T.b_repr (by decide +kernel) (pa_cons (pv 2) pa_nil))) pa_nil)) pe_int) (by rfl)) (pss_one (ps_ret pe_bl)) pss_nil)
      (pss_cut (ps_set (i := 6) sc_law_asked_right.nd rfl (.inl rfl) (pe_and (pe_callB call_isi (by rfl) T.b_isinstance (by decide +kernel) (pa_cons (pv 4) (pa_cons (pe_bltn (v := .ty "str") (by rfl) T.b_str (by decide +kernel) rfl) pa_nil))) (pe_one (pe_cmpR op_in_seq (pv 4) (pe_ixM cgv (hr.mono (by decide : 2 ≤ 10)) (pv 1) (pv 3) (fun _ _ => rfl)) (by rfl)))))
      (pss_cut (ps_set (i := 5) sc_law_asked_right.nd rfl (.inl rfl) (pe_lst (pa_cons (pe_tl7 (k := 8) T R (by rfl) hg hr TB rfl hm hu0 (lamS_by (sc := defScope s_law_asked_right) (by decide +kernel)) rfl (fun _ _ _ _ _ => rfl) (fun A outer s H E f c' hr' => pe_methXo (pv 1) TC.cl cl (hr'.mono (by decide)) (fun σ => passAt (takes_of rfl rfl rfl rfl) σ) (pa_cons (pv 3) (pa_cons (pv 4) pa_nil)))) pa_nil)))
      (pss_cut (ps_expr (pe_bm PySem.F.plainAttrs_list PySem.F.slot_list_append PySem.F.type_list_append mt_append (pv 5) (pa_cons (pe_tl7 (k := 8) T R (by rfl) hg hr TB rfl hm hu0 (lamS_by (sc := defScope s_law_asked_right) (by decide +kernel)) rfl (fun _ _ _ _ _ => rfl) (fun A outer s H E f c' hr' => pe_methXo (pv 1) TC.cl cl (hr'.mono (by decide)) (fun σ => passAt (takes_of rfl rfl rfl rfl) σ) (pa_cons (pv 3) (pa_cons (pv 2) pa_nil)))) pa_nil)))
      (pss_cut (ps_expr (pe_bm PySem.F.plainAttrs_list PySem.F.slot_list_append PySem.F.type_list_append mt_append (pv 5) (pa_cons (pe_tl7 (k := 8) T R (by rfl) hg hr TB rfl hm hu0 (lamS_by (sc := defScope s_law_asked_right) (by decide +kernel)) rfl (fun _ _ _ _ _ => rfl) (fun A outer s H E f c' hr' => pe_methXo (pv 1) TC.cl cu (hr'.mono (by decide)) (fun σ => passAt (takes_of rfl rfl rfl rfl) σ) (pa_cons (pv 3) pa_nil))) pa_nil)))
      (pss_cut (ps_expr (pe_bm PySem.F.plainAttrs_list PySem.F.slot_list_append PySem.F.type_list_append mt_append (pv 5) (pa_cons (pe_tl7 (k := 8) T R (by rfl) hg hr TB rfl hm hu0 (lamS_by (sc := defScope s_law_asked_right) (by decide +kernel)) rfl (fun _ _ _ _ _ => rfl) (fun A outer s H E f c' hr' => pe_ixMX cg (hr'.mono (by decide)) (fun σ => passAt (takes_of rfl rfl rfl rfl) σ) (pv 1) (pv 3) (fun _ _ => rfl))) pa_nil)))
      (pss_one (ps_ret (pe_cmpR (op_eqD hr.units) (pv 5) (pe_lst (pa_cons (pe_ifExp (pt_val (pv 6)) pe_str pe_str) (pa_cons pe_str (pa_cons pe_str (pa_cons pe_str pa_nil))))) (by rfl))))))))))))))), ?_⟩
    have big : 100000 ≤ sizeLine := by decide
    have lns : ns.length ≤ 6 := hV.few ns hN.nd fun z hz => (hN.mem z).mp hz
    have npool : ∀ {z : Str}, z ∈ ns → z ∈ POOL := fun {z} hz => by
      rcases (hN.mem z).mp hz with rfl | h
      · exact hV.lf
      · exact hV.keys z h
    have nok : ∀ z ∈ ns, PyData.strOk z = true := fun z hz => pool_ok (npool hz)
    have nne : ns.map V.str ≠ [] := fun h => by
      have h1 : leaf ∈ ns := (hN.mem leaf).mpr (.inl rfl)
      rw [List.map_eq_nil_iff.mp h] at h1
      cases h1
    have nin : ∀ y ∈ ns, v = .str y → False := fun y hy ev => by
      subst ev
      rw [any_str hv, inD_str, decide_eq_true hy] at hod
      cases hod
    have okS : PyData.strOk (("unknown " : Str) ++ od.shown) = true := by
      rw [ok_app, hv.okS]
      decide +kernel
    -- a name
    refine ⟨fun σ' G => ∃ z : Str, σ' = [some (.ref d), some (.ref x), some v, some (.str z), none, none, none] ∧ z ∈ ns ∧ AKs K C Tb H d x md leaf M ns v od v od G, ?_, ?_⟩
    · obtain ⟨dx, nt, kvs, hx, hmd, hM, hn⟩ := id hK
      refine ⟨_, rfl, _, rfl, x, dx, _, rfl, hx, x, md, leaf, M, ns, rfl, hK, fun p hp => ?_⟩
      refine ⟨d, _, ns.map V.str, rfl, hd, .inl ⟨p, rfl, fun w => ?_, .inr (.inl (.inl hp))⟩, nne, by rw [List.length_map]; omega, fun u a b c hu => ?_⟩
      · obtain ⟨a, b, c, e⟩ := hd
        rw [w, e] at hp
        cases hp
      obtain ⟨z, hz, rfl⟩ := List.mem_map.mp hu
      have sx : SameX d H (upd H d (.lst [.int a, .int b, .int c])) := (SameX.refl d H).atd
      exact ⟨z, rfl, hz, tabs_dice hTb hd sx, hK.exX (ext_ofX sx) hd, hv.ext (ext_ofX sx), hv.ext (ext_ofX sx), dice_new a b c, ext_ofX sx⟩
    rintro σ' G ⟨z, rfl, hz, k1⟩
    -- a winner
    refine ⟨fun σ' G2 => ∃ (u : V) (wd : PyData), σ' = [some (.ref d), some (.ref x), some v, some (.str z), some u, none, none] ∧ AKs K C Tb H d x md leaf M ns v od u wd G2, ?_, ?_⟩
    · obtain ⟨dx, nt, kvs, hx, hmd, hM, hn⟩ := id k1.hK
      refine ⟨_, rfl, _, rfl, x, dx, _, rfl, hx, x, md, leaf, M, ns, rfl, k1.hK, fun p hp => ?_⟩
      refine ⟨p, _, rfl, .inr (.inl (.inl hp)), fun l nl => ?_⟩
      have s1 := same_new (o := .lst (ns.map V.str)) (Same.refl G) nl
      have el : (upd G l (.lst (ns.map V.str))) l = some (.lst (ns.map V.str)) := upd_same
      have k2 := k1.sm s1
      generalize upd G l (.lst (ns.map V.str)) = G1 at el k2
      refine ⟨_, rfl, _, rfl, by show 1 ≤ sizeLine; omega, fun t1 nt1 => ⟨_, rfl, by show 1 ≤ sizeLine; omega, fun l1 nl1 => ⟨by show 6 ≤ sizeLine; omega, fun l2 nl2 => ?_⟩⟩⟩
      have nd1 := dice_ne k2.hd nt1
      have s2 := same_new (o := .tup [.str z]) (Same.refl G1) nt1
      have et1 : (upd G1 t1 (.tup [.str z])) t1 = some (.tup [.str z]) := upd_same
      have k3 := k2.sm s2
      generalize upd G1 t1 (.tup [.str z]) = G2 at s2 et1 k3 nl1 nl2
      have nd2 := dice_ne k3.hd nl1
      have s3 := same_new (o := .lst [.str z]) (Same.refl G2) nl1
      have el1 : (upd G2 l1 (.lst [.str z])) l1 = some (.lst [.str z]) := upd_same
      have k4 := k3.sm s3
      generalize upd G2 l1 (.lst [.str z]) = G3 at s3 el1 k4 nl2
      have s4 := same_new (o := .lst [v, .non, .int 0, .str "", .ref t1, .ref l1]) (Same.refl G3) nl2
      have el2 : (upd G3 l2 (.lst [v, .non, .int 0, .str "", .ref t1, .ref l1])) l2 = some (.lst [v, .non, .int 0, .str "", .ref t1, .ref l1]) := upd_same
      have k5 := k4.sm s4
      generalize upd G3 l2 (.lst [v, .non, .int 0, .str "", .ref t1, .ref l1]) = G4 at s4 el2 k5
      refine ⟨l, l2, _, _, rfl, rfl, s4 _ _ (s3 _ _ (s2 _ _ el)), el2, by rw [List.length_map]; show _ + 6 ≤ sizeLine; omega, fun l3 nl3 => ?_⟩
      have nd3 := dice_ne k5.hd nl3
      have s5 := same_new (o := .lst (ns.map V.str ++ [v, .non, .int 0, .str "", .ref t1, .ref l1])) (Same.refl G4) nl3
      have el3 : (upd G4 l3 (.lst (ns.map V.str ++ [v, .non, .int 0, .str "", .ref t1, .ref l1]))) l3 = some (.lst (ns.map V.str ++ [v, .non, .int 0, .str "", .ref t1, .ref l1])) := upd_same
      have k6 := k5.sm s5
      generalize upd G4 l3 (.lst (ns.map V.str ++ [v, .non, .int 0, .str "", .ref t1, .ref l1])) = G5 at s5 el3 k6
      refine ⟨d, _, _, rfl, k6.hd, .inl ⟨l3, rfl, nd3, .inl (.inl (.inl el3))⟩, by simp, by rw [List.length_append, List.length_map]; show _ + 6 ≤ 100000; omega, fun u a b c hu => ?_⟩
      have sx : SameX d G5 (upd G5 d (.lst [.int a, .int b, .int c])) := (SameX.refl d G5).atd
      have fin : ∀ {wd : PyData}, AnyV K d G5 u wd → AKs K C Tb H d x md leaf M ns v od u wd (upd G5 d (.lst [.int a, .int b, .int c])) := fun {wd} hw =>
        ⟨tabs_dice k6.tb k6.hd sx, k6.hK.exX (ext_ofX sx) k6.hd, k6.ho.ext (ext_ofX sx), hw.ext (ext_ofX sx), dice_new a b c, k6.sx.trans (ext_ofX sx)⟩
      rcases List.mem_append.mp hu with hu | hu
      · obtain ⟨y, hy, rfl⟩ := List.mem_map.mp hu
        exact ⟨_, _, rfl, fin (any_pool (npool hy))⟩
      · simp only [List.mem_cons, List.not_mem_nil, or_false] at hu
        rcases hu with rfl | rfl | rfl | rfl | rfl | rfl
        · exact ⟨_, _, rfl, fin k6.ho⟩
        · exact ⟨_, _, rfl, fin any_non⟩
        · exact ⟨_, _, rfl, fin any_zero⟩
        · exact ⟨_, _, rfl, fin any_empty⟩
        · exact ⟨_, _, rfl, fin (any_tup1 (npool hz) (s5 _ _ (s4 _ _ (s3 _ _ et1))) nd1)⟩
        · exact ⟨_, _, rfl, fin (any_lst1 (npool hz) (s5 _ _ (s4 _ _ el1)) nd2)⟩
    rintro σ' G2 ⟨u, wd, rfl, k2⟩
    clear k1
    -- told of a wrong name
    have kk : ∀ {G : Hp}, ExtN G2 G → Tabs Tb G → AKs K C Tb H d x md leaf M ns v od u wd G := fun e t => k2.exN e t
    refine ⟨fun σ' G3 => ∃ D : Addr, σ' = [some (.ref d), some (.ref x), some v, some (.str z), some u, some (.ref D), none] ∧ G3 D = some (.lst [.str (("unknown " : Str) ++ od.shown)]) ∧ ExtN G2 G3 ∧ Tabs Tb G3 ∧ NewN G2 D, ?_, ?_⟩
    · refine ⟨k2.tb, fun G3 eN t3 => ?_⟩
      have k3 := kk eN t3
      obtain ⟨dx, nt, kvs, hx, hmd, hM, hn⟩ := id k3.hK
      refine ⟨_, rfl, _, rfl, x, dx, _, rfl, hx, x, md, leaf, M, ns, v, od, d, rfl, k3.hK, nok, k3.ho, fun _ dd G4 s4 e4 => ?_, fun y hy ev => ?_⟩
      · refine .inl ⟨rfl, dd, v, od, d, rfl, e4, k3.ho.same s4, by show 1 ≤ sizeLine; omega, fun D hD => ?_⟩
        exact ⟨D, rfl, upd_same, ext_sm (ext_sm eN s4) (same_new (Same.refl G4) hD), (t3.ext s4).ext (same_new (Same.refl G4) hD), new_n (ext_sm eN s4) hD⟩
      · exact (nin y hy ev).elim
    rintro σ' G3 ⟨D, rfl, eD, e3, t3, nD⟩
    -- its users
    refine ⟨fun σ' G4 => σ' = [some (.ref d), some (.ref x), some v, some (.str z), some u, some (.ref D), none] ∧ G4 D = some (.lst [.str (("unknown " : Str) ++ od.shown), .str (("unknown " : Str) ++ od.shown)]) ∧ ExtN G2 G4 ∧ Tabs Tb G4, ?_, ?_⟩
    · refine ⟨_, rfl, ⟨.inl ⟨rfl, _, .inl (.inl eD)⟩, ?_⟩⟩
      refine ⟨t3, fun G4 eN t4 => ?_⟩
      have k4 := kk (e3.trans eN) t4
      have eD4 := eN _ _ eD fun _ => nofun
      obtain ⟨dx, nt, kvs, hx, hmd, hM, hn⟩ := id k4.hK
      refine ⟨_, rfl, x, dx, _, rfl, hx, kf_no _ _ _ (by decide) (by decide) (by decide), _, rfl, .inl ⟨x, md, leaf, M, ns, v, od, d, rfl, k4.hK, nok, k4.ho, hod, fun dd G5 s5 e5 => ?_⟩⟩
      exact .inl ⟨rfl, dd, v, od, d, rfl, e5, k4.ho.same s5, D, _, _, rfl, rfl, s5 _ _ eD4, by show 1 < sizeLine; omega, rfl, upd_same, ext_lst (ext_sm (e3.trans eN) s5) nD, tabs_lst (t4.ext s5) (s5 _ _ eD4)⟩
    clear eD e3 t3
    rintro σ' G4 ⟨rfl, eD, e3, t3⟩
    -- its losers
    refine ⟨fun σ' G4 => σ' = [some (.ref d), some (.ref x), some v, some (.str z), some u, some (.ref D), none] ∧ G4 D = some (.lst [.str (("unknown " : Str) ++ od.shown), .str (("unknown " : Str) ++ od.shown), .str (("unknown " : Str) ++ od.shown)]) ∧ ExtN G2 G4 ∧ Tabs Tb G4, ?_, ?_⟩
    · refine ⟨_, rfl, ⟨.inl ⟨rfl, _, .inl (.inl eD)⟩, ?_⟩⟩
      refine ⟨t3, fun G4 eN t4 => ?_⟩
      have k4 := kk (e3.trans eN) t4
      have eD4 := eN _ _ eD fun _ => nofun
      obtain ⟨dx, nt, kvs, hx, hmd, hM, hn⟩ := id k4.hK
      refine ⟨_, rfl, x, dx, _, rfl, hx, kf_no _ _ _ (by decide) (by decide) (by decide), _, rfl, _, rfl, .inl ⟨x, md, leaf, M, ns, v, u, od, wd, d, rfl, k4.hK, hV, nok, k4.ho, k4.hw, .inl ⟨hod, fun dd G5 s5 e5 => ?_⟩⟩⟩
      exact .inl ⟨rfl, dd, v, od, d, rfl, e5, k4.ho.same s5, D, _, _, rfl, rfl, s5 _ _ eD4, by show 2 < sizeLine; omega, rfl, upd_same, ext_lst (ext_sm (e3.trans eN) s5) nD, tabs_lst (t4.ext s5) (s5 _ _ eD4)⟩
    clear eD e3 t3
    rintro σ' G5 ⟨rfl, eD, e3, t3⟩
    refine ⟨fun σ' G4 => σ' = [some (.ref d), some (.ref x), some v, some (.str z), some u, some (.ref D), none] ∧ G4 D = some (.lst [.str (("unknown " : Str) ++ od.shown), .str (("unknown " : Str) ++ od.shown), .str (("unknown " : Str) ++ od.shown), .str (("unknown " : Str) ++ od.shown)]) ∧ ExtN G2 G4 ∧ Tabs Tb G4, ?_, ?_⟩
    · refine ⟨_, rfl, ⟨.inl ⟨rfl, _, .inl (.inl eD)⟩, ?_⟩⟩
      refine ⟨t3, fun G4 eN t4 => ?_⟩
      have k4 := kk (e3.trans eN) t4
      have eD4 := eN _ _ eD fun _ => nofun
      obtain ⟨dx, nt, kvs, hx, hmd, hM, hn⟩ := id k4.hK
      refine ⟨_, rfl, x, dx, _, rfl, hx, kf_no _ _ _ (by decide) (by decide) (by decide), _, rfl, _, rfl, .inl ⟨x, md, leaf, M, ns, v, v, od, od, d, rfl, k4.hK, hV, nok, k4.ho, k4.ho, .inl ⟨hod, fun dd G5 s5 e5 => ?_⟩⟩⟩
      exact .inl ⟨rfl, dd, v, od, d, rfl, e5, k4.ho.same s5, D, _, _, rfl, rfl, s5 _ _ eD4, by show 3 < sizeLine; omega, rfl, upd_same, ext_lst (ext_sm (e3.trans eN) s5) nD, tabs_lst (t4.ext s5) (s5 _ _ eD4)⟩
    clear eD e3 t3
    rintro σ' G6 ⟨rfl, eD, e3, t3⟩
    -- all four are the error
    refine ⟨fun σ' G7 => σ' = [some (.ref d), some (.ref x), some v, some (.str z), some u, some (.ref D), none] ∧ ExtN G2 G7 ∧ Tabs Tb G7, ?_, ?_⟩
    · have k6 := kk e3 t3
      refine ⟨_, rfl, _, rfl, v, od, d, rfl, k6.ho, _, _, rfl, rfl, ?_, by show 1 ≤ sizeLine; omega, fun l nl => ?_⟩
      · exact Nat.le_trans (Nat.add_le_add (show ("unknown " : Str).length ≤ 8 by decide +kernel) k6.ho.size) (by decide)
      have s1 := same_new (o := .lst [.str (("unknown " : Str) ++ od.shown)]) (Same.refl G6) nl
      have el : (upd G6 l (.lst [.str (("unknown " : Str) ++ od.shown)])) l = some (.lst [.str (("unknown " : Str) ++ od.shown)]) := upd_same
      generalize upd G6 l (.lst [.str (("unknown " : Str) ++ od.shown)]) = G7 at s1 el
      refine ⟨l, 4, _, rfl, rfl, el, by decide, by decide, by show 1 * 4 ≤ sizeLine; omega, fun l2 nl2 => ?_⟩
      have s2 := same_new (o := .lst [.str (("unknown " : Str) ++ od.shown), .str (("unknown " : Str) ++ od.shown), .str (("unknown " : Str) ++ od.shown), .str (("unknown " : Str) ++ od.shown)]) (Same.refl G7) nl2
      have sh4 : SeqAt.shaped (.list (tD [(("unknown " : Str) ++ od.shown), (("unknown " : Str) ++ od.shown), (("unknown " : Str) ++ od.shown), (("unknown " : Str) ++ od.shown)])) = true := shaped_texts fun y hy => by
        simp only [List.mem_cons, List.not_mem_nil, or_false, or_self] at hy
        rw [hy]
        exact okS
      refine ⟨.list (tD [(("unknown " : Str) ++ od.shown), (("unknown " : Str) ++ od.shown), (("unknown " : Str) ++ od.shown), (("unknown " : Str) ++ od.shown)]), .list (tD [(("unknown " : Str) ++ od.shown), (("unknown " : Str) ++ od.shown), (("unknown " : Str) ++ od.shown), (("unknown " : Str) ++ od.shown)]), .lst (.inl (.inl (s2 _ _ (s1 _ _ eD)))) (dp_texts [(("unknown " : Str) ++ od.shown), (("unknown " : Str) ++ od.shown), (("unknown " : Str) ++ od.shown), (("unknown " : Str) ++ od.shown)]), .lst (.inl (.inl upd_same)) (dp_texts [(("unknown " : Str) ++ od.shown), (("unknown " : Str) ++ od.shown), (("unknown " : Str) ++ od.shown), (("unknown " : Str) ++ od.shown)]), sh4, sh4, ?_⟩
      rw [PyData.eqv, eqv_texts, decide_eq_true rfl]
      refine ⟨_, rfl, ?_⟩
      show (if (!true) = true then _ else _)
      rw [if_neg (by decide)]
      exact ⟨rfl, ext_sm (ext_sm e3 s1) s2, (t3.ext s1).ext s2⟩
    clear eD e3 t3
    rintro σ' G7 ⟨rfl, e3, t3⟩
    -- is the winner a part?
    obtain ⟨PS, hPS⟩ : ∃ PS, PS = (lookM M z).getD [] := ⟨_, rfl⟩
    have psns : ∀ y ∈ PS, y ∈ ns := fun y hy => by
      rw [hPS] at hy
      cases e : lookM M z with
      | none =>
        rw [e] at hy
        cases hy
      | some ps =>
        rw [e] at hy
        exact (hN.mem y).mpr ((hV.parts _ (lookM_some e)).2.2.2 y hy)
    refine ⟨fun σ' G8 => σ' = [some (.ref d), some (.ref x), some v, some (.str z), some u, some (.ref D), some (.bl (inD PS wd))] ∧ ExtN G2 G8 ∧ Tabs Tb G8, ?_, ?_⟩
    · have k7 := kk e3 t3
      obtain ⟨tt, b, h1, h2, h3⟩ := any_ty k7.hw
      obtain ⟨dx, nt, kvs, hx, hmd, hM, hn⟩ := id k7.hK
      refine ⟨_, rfl, _, .ty "str", tt, .type "str", b, rfl, .ty _, h1, h2, b, rfl, ?_⟩
      cases b with
      | false =>
        show (if false = true then _ else _)
        rw [if_neg (by decide)]
        have e : inD PS wd = false := by
          cases c : inD PS wd with
          | false => rfl
          | true =>
            obtain ⟨y, hy, rfl⟩ := inD_true c
            exact absurd (h3.mpr ⟨y, any_text k7.hw⟩) (by decide)
        rw [e]
        exact ⟨rfl, e3, t3⟩
      | true =>
        show (if true = true then _ else _)
        rw [if_pos rfl]
        obtain ⟨y, rfl⟩ := h3.mp rfl
        refine ⟨_, rfl, _, rfl, _, rfl, x, dx, _, rfl, hx, x, md, leaf, M, ns, z, rfl, k7.hK, hz, fun p G8 s8 hp => ?_⟩
        have hq : SqT K G8 p (PS.map V.str) := by
          rcases hp with ⟨ps, e1, e2⟩ | ⟨e1, e2⟩
          · rw [hPS, e1]
            exact e2.sq
          · rw [hPS, e1]
            exact .inl (.inl e2)
        refine ⟨p, _, rfl, .inr hq, rfl, flat_strs' PS, ?_⟩
        rw [any_str k7.hw, inD_str]
        have ei : inV (V.str y) (PS.map V.str) = decide (y ∈ PS) := inV_strs y PS
        show _ ∧ _
        rw [show (if false = true then !inV (V.str y) (PS.map V.str) else inV (V.str y) (PS.map V.str)) = decide (y ∈ PS) from ei]
        exact ⟨rfl, ext_sm e3 s8, t3.ext s8⟩
    clear e3 t3
    rintro σ' G8 ⟨rfl, e3, t3⟩
    have zin : inD ns (.str z) = true := by rw [inD_str, decide_eq_true hz]
    have nodd : inD PS od = false := by
      cases c : inD PS od with
      | false => rfl
      | true =>
        obtain ⟨y, hy, rfl⟩ := inD_true c
        rw [inD_str, decide_eq_true (psns y hy)] at hod
        cases hod
    -- losers of a name
    refine ⟨fun σ' G9 => ∃ D : Addr, σ' = [some (.ref d), some (.ref x), some v, some (.str z), some u, some (.ref D), some (.bl (inD PS wd))] ∧ G9 D = some (.lst [.str (if inD PS wd = true then ("fine" : Str) else "operation")]) ∧ ExtN G2 G9 ∧ Tabs Tb G9 ∧ NewN G2 D, ?_, ?_⟩
    · refine ⟨t3, fun G9 eN t9 => ?_⟩
      have k9 := kk (e3.trans eN) t9
      obtain ⟨dx, nt, kvs, hx, hmd, hM, hn⟩ := id k9.hK
      refine ⟨_, rfl, x, dx, _, rfl, hx, kf_no _ _ _ (by decide) (by decide) (by decide), _, rfl, _, rfl, ?_⟩
      cases c : inD PS wd with
      | false =>
        refine .inl ⟨x, md, leaf, M, ns, .str z, u, .str z, wd, d, rfl, k9.hK, hV, nok, any_pool (npool hz), k9.hw, .inr ⟨z, rfl, hz, by rw [← hPS]; exact c, fun G s => .inr ⟨rfl, by show 1 ≤ sizeLine; omega, fun D2 hD2 => ?_⟩⟩⟩
        exact ⟨D2, rfl, upd_same, ext_sm (ext_sm (e3.trans eN) s) (same_new (Same.refl G) hD2), (t9.ext s).ext (same_new (Same.refl G) hD2), new_n (ext_sm (e3.trans eN) s) hD2⟩
      | true =>
        obtain ⟨y, hy, rfl⟩ := inD_true c
        have eu := any_text k9.hw
        subst eu
        obtain ⟨ps, e1, e2⟩ : ∃ ps, lookM M z = some ps ∧ PS = ps := by
          cases e : lookM M z with
          | none =>
            rw [hPS, e] at hy
            cases hy
          | some ps => exact ⟨ps, rfl, by rw [hPS, e]; rfl⟩
        rw [e2] at hy
        refine .inr ⟨x, md, leaf, M, ns, z, y, ps, rfl, k9.hK, hz, e1, hy, (hV.parts _ (lookM_some e1)).2.2.1, fun p G s _ => ⟨by show 1 ≤ sizeLine; omega, fun D2 hD2 => ?_⟩⟩
        exact ⟨D2, rfl, upd_same, ext_sm (ext_sm (e3.trans eN) s) (same_new (Same.refl G) hD2), (t9.ext s).ext (same_new (Same.refl G) hD2), new_n (ext_sm (e3.trans eN) s) hD2⟩
    clear e3 t3 nD
    rintro σ' G9 ⟨D2, rfl, eD, e3, t3, nD⟩
    -- by a wrong winner
    refine ⟨fun σ' G4 => σ' = [some (.ref d), some (.ref x), some v, some (.str z), some u, some (.ref D2), some (.bl (inD PS wd))] ∧ G4 D2 = some (.lst [.str (if inD PS wd = true then ("fine" : Str) else "operation"), .str "operation"]) ∧ ExtN G2 G4 ∧ Tabs Tb G4, ?_, ?_⟩
    · refine ⟨_, rfl, ⟨.inl ⟨rfl, _, .inl (.inl eD)⟩, ?_⟩⟩
      refine ⟨t3, fun G4 eN t4 => ?_⟩
      have k4 := kk (e3.trans eN) t4
      have eD4 := eN _ _ eD fun _ => nofun
      obtain ⟨dx, nt, kvs, hx, hmd, hM, hn⟩ := id k4.hK
      refine ⟨_, rfl, x, dx, _, rfl, hx, kf_no _ _ _ (by decide) (by decide) (by decide), _, rfl, _, rfl, .inl ⟨x, md, leaf, M, ns, .str z, v, .str z, od, d, rfl, k4.hK, hV, nok, any_pool (npool hz), k4.ho, .inr ⟨z, rfl, hz, by rw [← hPS]; exact nodd, fun G5 s5 => .inr ⟨rfl, ?_⟩⟩⟩⟩
      exact ⟨D2, _, _, rfl, rfl, s5 _ _ eD4, by show 1 < sizeLine; omega, rfl, upd_same, ext_lst (ext_sm (e3.trans eN) s5) nD, tabs_lst (t4.ext s5) (s5 _ _ eD4)⟩
    clear eD e3 t3
    rintro σ' G10 ⟨rfl, eD, e3, t3⟩
    -- users of a name
    refine ⟨fun σ' G4 => σ' = [some (.ref d), some (.ref x), some v, some (.str z), some u, some (.ref D2), some (.bl (inD PS wd))] ∧ G4 D2 = some (.lst [.str (if inD PS wd = true then ("fine" : Str) else "operation"), .str "operation", .str "fine"]) ∧ ExtN G2 G4 ∧ Tabs Tb G4, ?_, ?_⟩
    · refine ⟨_, rfl, ⟨.inl ⟨rfl, _, .inl (.inl eD)⟩, ?_⟩⟩
      refine ⟨t3, fun G4 eN t4 => ?_⟩
      have k4 := kk (e3.trans eN) t4
      have eD4 := eN _ _ eD fun _ => nofun
      obtain ⟨dx, nt, kvs, hx, hmd, hM, hn⟩ := id k4.hK
      refine ⟨_, rfl, x, dx, _, rfl, hx, kf_no _ _ _ (by decide) (by decide) (by decide), _, rfl, .inr ⟨x, md, leaf, M, ns, z, rfl, k4.hK, hV, hz, fun p G5 s5 _ => ?_⟩⟩
      exact ⟨D2, _, _, rfl, rfl, s5 _ _ eD4, by show 2 < sizeLine; omega, rfl, upd_same, ext_lst (ext_sm (e3.trans eN) s5) nD, tabs_lst (t4.ext s5) (s5 _ _ eD4)⟩
    clear eD e3 t3
    rintro σ' G11 ⟨rfl, eD, e3, t3⟩
    -- its making
    refine ⟨fun σ' G4 => σ' = [some (.ref d), some (.ref x), some v, some (.str z), some u, some (.ref D2), some (.bl (inD PS wd))] ∧ G4 D2 = some (.lst [.str (if inD PS wd = true then ("fine" : Str) else "operation"), .str "operation", .str "fine", .str "fine"]) ∧ ExtN G2 G4 ∧ Tabs Tb G4, ?_, ?_⟩
    · refine ⟨_, rfl, ⟨.inl ⟨rfl, _, .inl (.inl eD)⟩, ?_⟩⟩
      refine ⟨t3, fun G4 eN t4 => ?_⟩
      have k4 := kk (e3.trans eN) t4
      have eD4 := eN _ _ eD fun _ => nofun
      obtain ⟨dx, nt, kvs, hx, hmd, hM, hn⟩ := id k4.hK
      refine ⟨_, rfl, _, rfl, x, dx, _, rfl, hx, x, md, leaf, M, ns, .str z, .str z, d, rfl, k4.hK, nok, any_pool (npool hz), fun c => ?_, fun y hy ey p G5 s5 _ => ?_⟩
      · rw [zin] at c
        cases c
      · exact ⟨D2, _, _, rfl, rfl, s5 _ _ eD4, by show 3 < sizeLine; omega, rfl, upd_same, ext_lst (ext_sm (e3.trans eN) s5) nD, tabs_lst (t4.ext s5) (s5 _ _ eD4)⟩
    clear eD e3 t3
    rintro σ' G12 ⟨rfl, eD, e3, t3⟩
    have okL : ∀ y ∈ ([(if inD PS wd = true then ("fine" : Str) else "operation"), "operation", "fine", "fine"] : List Str), PyData.strOk y = true := fun y hy => by
      simp only [List.mem_cons, List.not_mem_nil, or_false, or_self] at hy
      rcases hy with rfl | rfl | rfl
      · split <;> decide +kernel
      · decide +kernel
      · decide +kernel
    have fin : ∀ {G : Hp}, ExtN G12 G → Tabs Tb G → Q (.bl true) G := fun {G} e t => by
      have k := kk (e3.trans e) t
      exact q G k.sx t k.hd
    refine ⟨_, rfl, _, rfl, _, rfl, ?_⟩
    cases c : inD PS wd with
    | true =>
      rw [c] at eD okL
      show (if true = true then _ else _)
      rw [if_pos rfl]
      refine ⟨by show 4 ≤ sizeLine; omega, fun l nl => ?_⟩
      have s1 := same_new (o := .lst [.str "fine", .str "operation", .str "fine", .str "fine"]) (Same.refl G12) nl
      have sh : SeqAt.shaped (.list (tD ["fine", "operation", "fine", "fine"])) = true := shaped_texts okL
      refine ⟨.list (tD ["fine", "operation", "fine", "fine"]), .list (tD ["fine", "operation", "fine", "fine"]), .lst (.inl (.inl (s1 _ _ eD))) (dp_texts ["fine", "operation", "fine", "fine"]), .lst (.inl (.inl upd_same)) (dp_texts ["fine", "operation", "fine", "fine"]), sh, sh, ?_⟩
      rw [PyData.eqv, eqv_texts, decide_eq_true rfl]
      exact fin (.of s1) (t3.ext s1)
    | false =>
      rw [c] at eD okL
      show (if false = true then _ else _)
      rw [if_neg (by decide)]
      refine ⟨by show 4 ≤ sizeLine; omega, fun l nl => ?_⟩
      have s1 := same_new (o := .lst [.str "operation", .str "operation", .str "fine", .str "fine"]) (Same.refl G12) nl
      have sh : SeqAt.shaped (.list (tD ["operation", "operation", "fine", "fine"])) = true := shaped_texts okL
      refine ⟨.list (tD ["operation", "operation", "fine", "fine"]), .list (tD ["operation", "operation", "fine", "fine"]), .lst (.inl (.inl (s1 _ _ eD))) (dp_texts ["operation", "operation", "fine", "fine"]), .lst (.inl (.inl upd_same)) (dp_texts ["operation", "operation", "fine", "fine"]), sh, sh, ?_⟩
      rw [PyData.eqv, eqv_texts, decide_eq_true rfl]
      exact fin (.of s1) (t3.ext s1)
end
end Kl

set_option maxRecDepth 100000
set_option maxHeartbeats 4000000
namespace Kl
open PySem PySem.Spec PyProof.Rows L2 Gx Mx LamX
/-! ### dicts from names to values -/
def valsD (g : Str → V) (ks : List Str) : List (Key × V) := ks.map fun z => (Sum.inr z, g z)
theorem vals_imgs (f : Str → Str) (ks : List Str) : imgs f ks = valsD (fun z => .str (f z)) ks := rfl
theorem vals_keys (g : Str → V) (ks : List Str) : (valsD g ks).map (·.1) = ks.map Sum.inr := by
  unfold valsD
  rw [List.map_map]
  rfl
theorem vals_len (g : Str → V) (ks : List Str) : (valsD g ks).length = ks.length := List.length_map _
theorem vals_in {g : Str → V} : ∀ {ks : List Str} {z : Str}, z ∈ ks → valV (valsD g ks) (Sum.inr z) = some (g z)
  | y :: ks, z, h => by
    show valV ((Sum.inr y, g y) :: valsD g ks) (Sum.inr z) = _
    by_cases c : y = z
    · rw [valV_pos (by rw [c]), c]
    · rw [valV_neg fun q => c (Sum.inr.inj q)]
      rcases List.mem_cons.mp h with e | h
      · exact absurd e.symm c
      · exact vals_in h
theorem vals_merge {g : Str → V} {ks : List Str} (nd : ks.Nodup) : mergeK [] (valsD g ks) = valsD g ks :=
  merge_nil (by rw [vals_keys]; exact List.Pairwise.map Sum.inr (fun a b h q => h (Sum.inr.inj q)) nd)
theorem merge_app (kvs a b : List (Key × V)) : mergeK kvs (a ++ b) = mergeK (mergeK kvs a) b := List.foldl_append
theorem put_in {g : Str → V} {ks : List Str} {k : Str} {v : V} (h : k ∈ ks) : putK (valsD g ks) (Sum.inr k) v = valsD (fun z => if z = k then v else g z) ks := by
  have e : ((valsD g ks).any fun kv => decide (kv.1 = Sum.inr k)) = true := List.any_eq_true.mpr ⟨(Sum.inr k, g k), List.mem_map.mpr ⟨k, h, rfl⟩, decide_eq_true rfl⟩
  unfold putK
  rw [if_pos e]
  unfold valsD
  rw [List.map_map]
  refine List.map_congr_left fun z _ => ?_
  show (if (Sum.inr z : Key) = Sum.inr k then ((Sum.inr z : Key), v) else (Sum.inr z, g z)) = ((Sum.inr z : Key), if z = k then v else g z)
  by_cases c : z = k
  · rw [if_pos (by rw [c]), if_pos c]
  · rw [if_neg (fun q => c (Sum.inr.inj q)), if_neg c]
theorem put_out {g : Str → V} {ks : List Str} {k : Str} {v : V} (h : k ∉ ks) : putK (valsD g ks) (Sum.inr k) v = valsD g ks ++ [(Sum.inr k, v)] := by
  unfold putK
  rw [if_neg]
  intro q
  obtain ⟨x, hx, e⟩ := List.any_eq_true.mp q
  obtain ⟨z, hz, rfl⟩ := List.mem_map.mp hx
  have e := Sum.inr.inj (of_decide_eq_true e)
  exact h (e ▸ hz)
/-! ### what is no renaming -/
section
variable {K : PySem.W.Frag} {H : Hp} {ns : List Str}
theorem noren_dict {p : Addr} {kvs : List (Key × V)} (e : H p = some (.dK kvs)) (hl : kvs.length ≠ ns.length) : NoRen K H (.ref p) ns := .inr (.inl ⟨p, kvs, rfl, e, hl⟩)
theorem noren_vals {p : Addr} {g : Str → V} {ks : List Str} (e : H p = some (.dK (valsD g ks))) (hp : ks.Perm ns) (hn : ∀ z ∈ ns, ∀ H', Same H H' → NameArg K H' (g z)) (no : ¬ ((∀ z ∈ ns, nameV (g z) = true) ∧ (ns.map fun z => txV (g z)).Nodup)) : NoRen K H (.ref p) ns :=
  .inr (.inr ⟨p, _, g, rfl, e, by rw [vals_len]; exact hp.length_eq, fun z hz => ⟨vals_in (hp.mem_iff.mpr hz), hn z hz⟩, no⟩)
theorem noren_any {d : Addr} {v : V} {od : PyData} (h : AnyV K d H v od) (hl : ns ≠ []) : NoRen K H v ns := by
  cases h with
  | dat h a b c e f g y =>
    obtain ⟨tt, b, h1, _, _, h4⟩ := y H (ExtX.refl d H)
    exact .inl ⟨tt, h1, h4⟩
  | emp e n => exact noren_dict e (fun q => hl (List.eq_nil_of_length_eq_zero q.symm))
theorem noren_lst {a : Addr} {xs : List V} (e : H a = some (.lst xs)) : NoRen K H (.ref a) ns := .inl ⟨_, .base (.lst e), kit_ty (by decide +kernel)⟩
theorem noren_tup {a : Addr} {xs : List V} (e : H a = some (.tup xs)) : NoRen K H (.ref a) ns := .inl ⟨_, .base (.tup e), kit_ty (by decide +kernel)⟩
theorem noren_non : NoRen K H .non ns := .inl ⟨_, .base .non, kit_ty (by decide +kernel)⟩
/-! ### what is_name is asked of -/
theorem na_text {z : Str} (h : z.length ≤ 1000) : NameArg K H (.str z) := .inl ⟨z, rfl, Nat.le_trans h (by decide)⟩
theorem na_non : NameArg K H .non := .inr ⟨nofun, _, .base .non, kit_ty (by decide +kernel)⟩
theorem na_bl' (b : Bool) : NameArg K H (.bl b) := .inr ⟨nofun, _, .base (.bl b), kit_ty (by decide +kernel)⟩
theorem na_int' (i : Int) : NameArg K H (.int i) := .inr ⟨nofun, _, .base (.int i), kit_ty (by decide +kernel)⟩
theorem na_tup {a : Addr} {xs : List V} (e : H a = some (.tup xs)) : NameArg K H (.ref a) := .inr ⟨nofun, _, .base (.tup e), kit_ty (by decide +kernel)⟩
theorem na_lst {a : Addr} {xs : List V} (e : H a = some (.lst xs)) : NameArg K H (.ref a) := .inr ⟨nofun, _, .base (.lst e), kit_ty (by decide +kernel)⟩
end
/-! ### twice -/
/-- two names share an image -/
def twF (f : Str → Str) (n0 n : Str) (z : Str) : Str := if z = n0 then f n else f z
theorem tw_dict (f : Str → Str) {ks : List Str} {n0 n : Str} (nd : ks.Nodup) (h0 : n0 ∈ ks) (h : n ∈ ks) : mergeK [] (imgs f ks ++ [(Sum.inr n, .str (f n0)), (Sum.inr n0, .str (f n)), (Sum.inr n, .str (f n))]) = imgs (twF f n0 n) ks := by
  rw [merge_app, vals_imgs, vals_merge nd]
  show putK (putK (putK (valsD (fun z => .str (f z)) ks) (Sum.inr n) (.str (f n0))) (Sum.inr n0) (.str (f n))) (Sum.inr n) (.str (f n)) = _
  rw [put_in h, put_in h0, put_in h, vals_imgs]
  unfold valsD
  refine List.map_congr_left fun z _ => ?_
  show (Sum.inr z, _) = (Sum.inr z, _)
  congr 1
  show (if z = n then V.str (f n) else if z = n0 then V.str (f n) else if z = n then V.str (f n0) else V.str (f z)) = V.str (if z = n0 then f n else f z)
  by_cases c : z = n
  · rw [if_pos c, c]
    by_cases c0 : n = n0
    · rw [if_pos c0]
    · rw [if_neg c0]
  · rw [if_neg c]
    by_cases c0 : z = n0
    · rw [if_pos c0, if_pos c0]
    · rw [if_neg c0, if_neg c, if_neg c0]
theorem more_dict (f : Str → Str) {ks : List Str} {k : Str} {v : V} (nd : ks.Nodup) (h : k ∉ ks) : (mergeK [] (imgs f ks ++ [(Sum.inr k, v)])).length = ks.length + 1 := by
  rw [merge_app, vals_imgs, vals_merge nd]
  show (putK (valsD (fun z => .str (f z)) ks) (Sum.inr k) v).length = _
  rw [put_out h, List.length_append, vals_len]
  rfl
theorem bad_dict (f : Str → Str) {ks : List Str} {k : Str} {v : V} (nd : ks.Nodup) (h : k ∈ ks) : mergeK [] (imgs f ks ++ [(Sum.inr k, v)]) = valsD (fun z => if z = k then v else .str (f z)) ks := by
  rw [merge_app, vals_imgs, vals_merge nd]
  show putK (valsD (fun z => .str (f z)) ks) (Sum.inr k) v = _
  rw [put_in h]
theorem less_len {ks : List Str} {n : Str} (nd : ks.Nodup) (h : n ∈ ks) : (ks.filter fun z => decide (z ≠ n)).length ≠ ks.length := by
  intro e
  have := List.length_filter_eq_length_iff.mp e n h
  simp at this
end Kl

set_option maxRecDepth 100000
set_option maxHeartbeats 4000000
namespace Kl
open PySem PySem.Spec PyProof.Rows L2 Gx Mx LamX
theorem paired_snoc {α β : Type} {R : α → β → Prop} {xs : List α} {ys : List β} {a : α} {b : β} (h : Paired R xs ys) (r : R a b) : Paired R (xs ++ [a]) (ys ++ [b]) := by
  induction h with
  | nil => exact .cons r .nil
  | cons h _ ih => exact .cons h ih
/-- what stands while the renamings are asked for -/
structure RRs (K : PySem.W.Frag) (C : Addr) (Tb : List (Addr × Str)) (H0 : Hp) (d x md p nd : Addr) (leaf : Str) (M : Mak) (ns ks : List Str) (f : Str → Str) (v : V) (od : PyData) (G : Hp) : Prop where
  k : AKs K C Tb H0 d x md leaf M ns v od v od G
  hp : G p = some (.tup (ns.map V.str))
  hn : G nd = some (.dK (imgs f ks))
theorem RRs.exN {K : PySem.W.Frag} {C : Addr} {Tb : List (Addr × Str)} {H0 : Hp} {d x md p nd : Addr} {leaf : Str} {M : Mak} {ns ks : List Str} {f : Str → Str} {v : V} {od : PyData} {G G' : Hp} (h : RRs K C Tb H0 d x md p nd leaf M ns ks f v od G) (s : ExtN G G') (t : Tabs Tb G') : RRs K C Tb H0 d x md p nd leaf M ns ks f v od G' :=
  ⟨h.k.exN s t, s _ _ h.hp fun _ => nofun, s _ _ h.hn fun _ => nofun⟩
theorem RRs.sm {K : PySem.W.Frag} {C : Addr} {Tb : List (Addr × Str)} {H0 : Hp} {d x md p nd : Addr} {leaf : Str} {M : Mak} {ns ks : List Str} {f : Str → Str} {v : V} {od : PyData} {G G' : Hp} (h : RRs K C Tb H0 d x md p nd leaf M ns ks f v od G) (s : Same G G') : RRs K C Tb H0 d x md p nd leaf M ns ks f v od G' := h.exN (.of s) (h.k.tb.ext s)
theorem RRs.dice {K : PySem.W.Frag} {C : Addr} {Tb : List (Addr × Str)} {H0 : Hp} {d x md p nd : Addr} {leaf : Str} {M : Mak} {ns ks : List Str} {f : Str → Str} {v : V} {od : PyData} {G : Hp} (h : RRs K C Tb H0 d x md p nd leaf M ns ks f v od G) (a b c : Int) : RRs K C Tb H0 d x md p nd leaf M ns ks f v od (upd G d (.lst [.int a, .int b, .int c])) := by
  have sx : SameX d G (upd G d (.lst [.int a, .int b, .int c])) := (SameX.refl d G).atd
  obtain ⟨a', b', c', e⟩ := id h.k.hd
  exact ⟨⟨tabs_dice h.k.tb h.k.hd sx, h.k.hK.exX (ext_ofX sx) h.k.hd, h.k.ho.ext (ext_ofX sx), h.k.hw.ext (ext_ofX sx), dice_new a b c, h.k.sx.trans (ext_ofX sx)⟩,
    sx _ _ (fun w => by have := h.hp; rw [w, e] at this; cases this) h.hp, sx _ _ (fun w => by have := h.hn; rw [w, e] at this; cases this) h.hn⟩
section
variable {P : Program} {w : World} {K : PySem.W.Frag} {mg : Str → Option Value} {base : Heap}
/-! ### _law_renamed_right -/
abbrev NRR : List Str := ["_law_dice_here", "_law_kinds_here", "_law_odd", "_law_names", "_law_images_here", "_law_name", "_law_less", "_law_more", "_law_bad", "_law_twice", "_law_same", "_law_wrong", "_law_value", "_law_is_twice", "_law_told_here", "_law_one"]
def spRR (K : PySem.W.Frag) (C : Addr) (Tb : List (Addr × Str)) : Sp := fun vs H Q _ => ∃ (d x md : Addr) (leaf : Str) (M : Mak) (ns : List Str) (v : V) (od : PyData), vs = [.ref d, .ref x, v] ∧ DiceAt H d ∧ Tabs Tb H ∧ KindsAt C H x md leaf M ns ∧ Vld leaf M ∧ IsNames leaf (keysOf M) ns ∧ AnyV K d H v od ∧ inD ns od = false ∧
  ∀ H', ExtX d H H' → Tabs Tb H' → DiceAt H' d → Q (.bl true) H'
theorem ok_rr {f c Pt C CU fI Co : Addr} {fd fdI : FuncData} {Tb : List (Addr × Str)} (F : Fun K "_law_renamed_right" "_law_renamed_right" s_law_renamed_right f fd) (hc : fd.code = .ref c) (TB : TabB base mg c Pt) (hm : (Pt, ln "_law_renamed_right") ∈ Tb) (hu0 : ∀ p ∈ Tb, p.1 = Pt → p.2 = ln "_law_renamed_right")
    (T : Top K mg) (TC : Cl_Kinds K mg C) (R : Ers K mg CU fI Co) (XC : XCls K Co) : FnG P w K mg base CX0 12 f fd ["_law_dice_here", "_law_kinds_here", "_law_odd"] (spRR K C Tb) := by
  have cp : Cal P w K mg base 11 "_law_pick" ["_law_dice_here", "_law_items"] (spPick K) := (T.d_law_pick.cal fun f fd F => ok_pick F T).mono (by decide)
  have ci : Cal P w K mg base 11 "_law_images" ["_law_dice_here", "_law_names"] (spImages K) := (T.d_law_images.cal fun f fd F => ok_images F T).mono (by decide)
  have cr : CalMY P w K mg base C "renamed" 9 ["self", "names"] (spKRenX K C Co) := (TC.m_renamed.calY fun f fd F => ok_krenX F T TC R.XO XC).up (by decide)
  have kNam : CalP P w K mg base C "names" 10 (spKNam C) := (TC.p_names.cal fun f fd F => ok_knam F TC).mono (by decide)
  refine okGL F hc sc_law_renamed_right (fun vs H Q E h => ?_) (fun A outer s H vs Q E hg hr h => ?_)
  · obtain ⟨d, x, md, leaf, M, ns, v, od, rfl, _⟩ := h
    rfl
  · obtain ⟨d, x, md, leaf, M, ns, v, od, rfl, hd, hTb, hK, hV, hN, hv, hod, q⟩ := h
    have hu := hu_of hr
    refine ⟨_, pss_cut (ps_asg (pe_tup (pa_cons (pe_propC (pv 1) TC.cl kNam hr rfl) (pa_cons (pe_cal ci hr (by rfl) (pa_cons (pv 0) (pa_cons (pe_propC (pv 1) TC.cl kNam hr rfl) pa_nil))) pa_nil)))
        (pg_tup (n := 2) rfl (pgs_cons (pg_name (i := 3) sc_law_renamed_right.nd rfl (.inl rfl)) (pgs_cons (pg_name (i := 4) sc_law_renamed_right.nd rfl (.inr rfl)) pgs_nil))))
      (pss_cut (ps_set (i := 5) sc_law_renamed_right.nd rfl (.inr rfl) (pe_cal cp hr (by rfl) (pa_cons (pv 0) (pa_cons (pv 3) pa_nil))))
      (pss_cut (ps_set (i := 6) sc_law_renamed_right.nd rfl (.inl rfl) (pe_callTy (call_dictP rfl) (by rfl) T.b_dict (by decide +kernel) (pa_cons (pe_lock (pe_lc (own := [("_law_one", 15)]) (g := gName 15) rfl sc_law_renamed_right.nd (pi_keys (pv 4))
          (blkOk_by (N := NRR) (sc := defScope s_law_renamed_right) (by decide +kernel)) (fun _ _ _ _ _ => pg_name (i := 15) sc_law_renamed_right.nd rfl (.inl rfl)) (fun _ _ _ _ _ => pts_one (pt_cmpR op_ne (pv 15) (pv 5) (nomark _)))
          (fun _ _ _ _ _ => pe_tup (pa_cons (pv 15) (pa_cons (pe_dget hu (pv 4) (pv 15) (fun _ _ => rfl)) pa_nil))))) pa_nil)))
      (pss_cut (ps_set (i := 7) sc_law_renamed_right.nd rfl (.inl rfl) (pe_callTy (call_dictP rfl) (by rfl) T.b_dict (by decide +kernel) (pa_cons (pe_op op_cat (LiI.pe_listItems rfl (pv 4) (by rfl) T.b_list (by decide +kernel)) (pe_lst (pa_cons (pe_tup (pa_cons pe_str (pa_cons pe_str pa_nil))) pa_nil))) pa_nil)))
      (pss_cut (ps_set (i := 8) sc_law_renamed_right.nd rfl (.inl rfl) (pe_callTy (call_dictP rfl) (by rfl) T.b_dict (by decide +kernel) (pa_cons (pe_op op_cat (LiI.pe_listItems rfl (pv 4) (by rfl) T.b_list (by decide +kernel)) (pe_lst (pa_cons (pe_tup (pa_cons (pv 5) (pa_cons (pe_cal cp hr (by rfl) (pa_cons (pv 0) (pa_cons (pe_lst (pa_cons pe_non (pa_cons pe_int (pa_cons pe_str (pa_cons pe_str (pa_cons pe_str (pa_cons (pe_tup (pa_cons pe_str pa_nil)) (pa_cons (pe_lst (pa_cons pe_str pa_nil)) (pa_cons pe_bl pa_nil))))))))) pa_nil))) pa_nil))) pa_nil))) pa_nil)))
      (pss_cut (ps_set (i := 9) sc_law_renamed_right.nd rfl (.inr rfl) (pe_callTy (call_dictP rfl) (by rfl) T.b_dict (by decide +kernel) (pa_cons (pe_op op_cat (LiI.pe_listItems rfl (pv 4) (by rfl) T.b_list (by decide +kernel)) (pe_lst (pa_cons (pe_tup (pa_cons (pv 5) (pa_cons (pe_dget hu (pv 4) (pe_ix ix_tup (pv 3) pe_int (fun _ _ => rfl)) (fun _ _ => rfl)) pa_nil))) (pa_cons (pe_tup (pa_cons (pe_ix ix_tup (pv 3) pe_int (fun _ _ => rfl)) (pa_cons (pe_dget hu (pv 4) (pv 5) (fun _ _ => rfl)) pa_nil))) (pa_cons (pe_tup (pa_cons (pv 5) (pa_cons (pe_dget hu (pv 4) (pv 5) (fun _ _ => rfl)) pa_nil))) pa_nil))))) pa_nil)))
      (pss_cut (ps_set (i := 10) sc_law_renamed_right.nd rfl (.inl rfl) (pe_callTy (call_dictP rfl) (by rfl) T.b_dict (by decide +kernel) (pa_cons (pe_lc (own := [("_law_one", 15)]) (g := gName 15) (tt := tYes) rfl sc_law_renamed_right.nd (pi_tup (pv 3)) (blkOk_by (N := NRR) (sc := defScope s_law_renamed_right) (by decide +kernel)) (fun _ _ _ _ _ => pg_name (i := 15) sc_law_renamed_right.nd rfl (.inl rfl)) (fun _ _ _ _ _ => pts_nil) (fun _ _ _ _ _ => pe_tup (pa_cons (pv 15) (pa_cons pe_str pa_nil)))) pa_nil)))
      (pss_cut (ps_set (i := 11) sc_law_renamed_right.nd rfl (.inl rfl) (pe_lst (pa_cons (pv 6) (pa_cons (pv 7) (pa_cons (pv 8) (pa_cons (LiI.pe_listItems rfl (pv 4) (by rfl) T.b_list (by decide +kernel)) (pa_cons (pv 2) (pa_cons (pv 3) (pa_cons pe_non (pa_cons (pe_tup (pa_cons (pv 4) pa_nil)) pa_nil))))))))))
      (pss_cut (ps_for PassesOwn.never rfl (pi_list (pe_op op_cat (pv 11) (pe_op op_rep (pe_lst (pa_cons (pv 10) pa_nil)) (pe_callTy call_int1 (by rfl) T.b_int (by decide +kernel) (pa_cons (pe_cmpR op_gt (pe_callB call_len_seq (by rfl) T.b_len PySem.boot_len (pa_cons (pv 3) pa_nil)) pe_int (nomark _)) pa_nil))))) (pg_name (i := 12) sc_law_renamed_right.nd rfl (.inr rfl)) (pss_one (ps_if (pt_cmpR op_ne (pe_tl7 (k := 9) T R (by rfl) hg hr TB rfl hm hu0 (lamS_by (sc := defScope s_law_renamed_right) (by decide +kernel)) rfl (fun _ _ _ _ _ => rfl) (fun A outer s H E f c' hr' => pe_methXo (pv 1) TC.cl cr (hr'.mono (by decide)) (fun σ => passAt (takes_of rfl rfl rfl rfl) σ) (pa_cons (pv 12) pa_nil))) pe_str (nomark _)) (pss_one (ps_ret pe_bl)) pss_nil)))
      (pss_cut (ps_set (i := 13) sc_law_renamed_right.nd rfl (.inl rfl) (pe_cmpR op_lt (pe_callB cr_lenX2 (by rfl) T.b_len PySem.boot_len (pa_cons (pe_callTy (cr_setX rfl) (by rfl) T.b_set (by decide +kernel) (pa_cons (pe_listVals rfl (pv 9) (by rfl) T.b_list (by decide +kernel)) pa_nil)) pa_nil)) (pe_callB call_len_seq (by rfl) T.b_len PySem.boot_len (pa_cons (pv 3) pa_nil)) (nomark _)))
      (pss_cut (ps_set (i := 14) sc_law_renamed_right.nd rfl (.inl rfl) (pe_lst (pa_cons (pe_tl7 (k := 9) T R (by rfl) hg hr TB rfl hm hu0 (lamS_by (sc := defScope s_law_renamed_right) (by decide +kernel)) rfl (fun _ _ _ _ _ => rfl) (fun A outer s H E f c' hr' => pe_methXo (pv 1) TC.cl cr (hr'.mono (by decide)) (fun σ => passAt (takes_of rfl rfl rfl rfl) σ) (pa_cons (pv 4) pa_nil))) pa_nil)))
      (pss_cut (ps_expr (pe_bm PySem.F.plainAttrs_list PySem.F.slot_list_append PySem.F.type_list_append mt_append (pv 14) (pa_cons (pe_tl7 (k := 9) T R (by rfl) hg hr TB rfl hm hu0 (lamS_by (sc := defScope s_law_renamed_right) (by decide +kernel)) rfl (fun _ _ _ _ _ => rfl) (fun A outer s H E f c' hr' => pe_methXo (pv 1) TC.cl cr (hr'.mono (by decide)) (fun σ => passAt (takes_of rfl rfl rfl rfl) σ) (pa_cons (pv 9) pa_nil))) pa_nil)))
      (pss_one (ps_ret (pe_cmpR (op_eqD hr.units) (pv 14) (pe_lst (pa_cons pe_str (pa_cons (pe_ifExp (pt_val (pv 13)) pe_str pe_str) pa_nil))) (by rfl))))))))))))))), ?_⟩
    have big : 100000 ≤ sizeLine := by decide
    have lns : ns.length ≤ 6 := hV.few ns hN.nd fun z hz => (hN.mem z).mp hz
    have npool : ∀ {z : Str}, z ∈ ns → z ∈ POOL := fun {z} hz => by
      rcases (hN.mem z).mp hz with rfl | h
      · exact hV.lf
      · exact hV.keys z h
    have nne : ns ≠ [] := fun h => by
      have h1 : leaf ∈ ns := (hN.mem leaf).mpr (.inl rfl)
      rw [h] at h1
      cases h1
    -- the names and their images
    refine ⟨fun σ' G => ∃ (p nd : Addr) (f : Str → Str) (ks : List Str), σ' = [some (.ref d), some (.ref x), some v, some (.ref p), some (.ref nd), none, none, none, none, none, none, none, none, none, none, none] ∧ ks.Perm ns ∧ (∀ z ∈ ns, f z ∈ POOL) ∧ (ns.map f).Nodup ∧ RRs K C Tb H d x md p nd leaf M ns ks f v od G, ?_, ?_⟩
    · obtain ⟨dx, nt, kvs, hx, hmd, hM, hn⟩ := id hK
      refine ⟨_, rfl, x, dx, _, rfl, hx, x, md, leaf, M, ns, rfl, hK, fun p hp => ?_⟩
      refine ⟨_, rfl, _, rfl, x, dx, _, rfl, hx, x, md, leaf, M, ns, rfl, hK, fun p2 hp2 => ?_⟩
      refine ⟨d, p2, ns, rfl, hd, .inl (.inl hp2), hN.nd, lns, fun z hz => npool hz, fun nd f ks G1 hperm hnd hfP hfn sx hd1 nnd => ?_⟩
      refine ⟨by show 2 ≤ sizeLine; omega, fun t nt => ⟨t, _, rfl, .inl (.inl upd_same), rfl, _, _, rfl, _, _, rfl, rfl, ?_⟩⟩
      have hpd : p ≠ d := fun w => by
        obtain ⟨a, b, c, e⟩ := hd
        rw [w, e] at hp
        cases hp
      have k1 : RRs K C Tb H d x md p nd leaf M ns ks f v od G1 := ⟨⟨tabs_dice hTb hd sx, hK.exX (ext_ofX sx) hd, hv.ext (ext_ofX sx), hv.ext (ext_ofX sx), hd1, ext_ofX sx⟩, sx _ _ hpd hp, hnd⟩
      exact ⟨p, nd, f, ks, rfl, hperm, hfP, hfn, k1.sm (same_new (Same.refl G1) nt)⟩
    rintro σ' G ⟨p, nd, f, ks, rfl, hperm, hfP, hfn, r0⟩
    have ksn : ks.Nodup := hperm.nodup_iff.mpr hN.nd
    -- a name
    refine ⟨fun σ' G => ∃ z : Str, σ' = [some (.ref d), some (.ref x), some v, some (.ref p), some (.ref nd), some (.str z), none, none, none, none, none, none, none, none, none, none] ∧ z ∈ ns ∧ RRs K C Tb H d x md p nd leaf M ns ks f v od G, ?_, ?_⟩
    · refine ⟨_, rfl, _, rfl, d, _, ns.map V.str, rfl, r0.k.hd, .inl ⟨p, rfl, fun w => ?_, .inr (.inl (.inl r0.hp))⟩, (fun h => nne (List.map_eq_nil_iff.mp h)), by rw [List.length_map]; omega, fun u a b c hu => ?_⟩
      · obtain ⟨a, b, c, e⟩ := r0.k.hd
        have := r0.hp
        rw [w, e] at this
        cases this
      obtain ⟨z, hz, rfl⟩ := List.mem_map.mp hu
      exact ⟨z, rfl, hz, r0.dice a b c⟩
    clear r0
    rintro σ' G ⟨z, rfl, hz, r0⟩
    have hzk : z ∈ ks := hperm.mem_iff.mpr hz
    -- fewer
    refine ⟨fun σ' G' => ∃ p6 : Addr, σ' = [some (.ref d), some (.ref x), some v, some (.ref p), some (.ref nd), some (.str z), some (.ref p6), none, none, none, none, none, none, none, none, none] ∧ G' p6 = some (.dK (imgs f (ks.filter fun y => decide (y ≠ z)))) ∧ RRs K C Tb H d x md p nd leaf M ns ks f v od G', ?_, ?_⟩
    · refine ⟨nd, _, r0.hn, trivial, fun o => ?_⟩
      refine ⟨_, rfl, nd, o, rfl, .inl ⟨_, upd_same, fun D hD => ?_⟩⟩
      refine lc_it (g := gName 15) (vs := [15]) walk_keys (fun j G5 => ∃ ts : List Addr, G5 D = some (.lst (ts.map V.ref)) ∧ Paired (fun t (kv : Key × V) => G5 t = some (.tup [kV kv.1, kv.2])) ts (imgs f ((ks.take j).filter fun y => decide (y ≠ z))) ∧ Same (upd G nd (.frz o (.dK (imgs f ks)))) G5)
        ⟨[], upd_same, .nil, same_new (Same.refl _) hD⟩ (fun j G5 _ hP => by obtain ⟨_, _, _, s⟩ := hP; exact s _ _ upd_same) (fun j u G5 G6 hj hP hy => ?_) (fun G5 hP => ?_)
      · obtain ⟨ts, eD, hPr, sm⟩ := hP
        obtain ⟨rfl, kk, vv, hkv, rfl⟩ := hy
        obtain ⟨y, hyk, ey⟩ : ∃ y, ks[j]? = some y ∧ (Sum.inr y, V.str (f y)) = (kk, vv) := by
          unfold imgs at hkv
          rw [List.getElem?_map] at hkv
          exact Option.map_eq_some_iff.mp hkv
        cases ey
        have hym := List.mem_of_getElem? hyk
        refine ⟨rfl, _, rfl, _, rfl, rfl, _, rfl, ?_⟩
        show (if (!decide (V.str y = V.str z)) = true then _ else _)
        rw [take_snoc hyk, List.filter_append]
        by_cases c : y = z
        · have e0 : [y].filter (fun y => decide (y ≠ z)) = [] := by simp [c]
          rw [decide_eq_true (show V.str y = V.str z by rw [c]), if_neg (by decide), e0, List.append_nil]
          exact ⟨ts, eD, hPr, sm⟩
        · have e0 : [y].filter (fun y => decide (y ≠ z)) = [y] := by simp [c]
          rw [decide_eq_false (show ¬ V.str y = V.str z from fun h => c (V.str.inj h)), if_pos (by decide), e0]
          refine ⟨_, rfl, _, rfl, _, rfl, nd, .str (f y), rfl, .inl ⟨imgs f ks, Sum.inr y, .inr ⟨o, sm _ _ upd_same⟩, rfl, (imgs_in hym).symm⟩, by show 2 ≤ sizeLine; omega, fun t nt => ?_⟩
          have s1 := same_new (o := .tup [.str y, .str (f y)]) (Same.refl G6) nt
          have lts := Paired.length hPr
          have lfl := List.length_filter_le (fun y => decide (y ≠ z)) (ks.take j)
          rw [imgs_len] at lts
          rw [List.length_take] at lfl
          have lks := hperm.length_eq
          have nDt : D ≠ t := fun w => by rw [w, nt] at eD; cases eD
          refine ⟨_, s1 _ _ eD, ?_, ts ++ [t], ?_, ?_, fun b u e => ?_⟩
          · rw [List.length_map]
            exact Nat.lt_of_le_of_lt (show _ ≤ 6 by omega) (by decide)
          · rw [upd_same, List.map_append]
            rfl
          · have keep : ∀ {b : Addr} {xs : List V}, G6 b = some (.tup xs) → (upd (upd G6 t (.tup [.str y, .str (f y)])) D (.lst (ts.map V.ref ++ [V.ref t]))) b = some (.tup xs) := fun {b xs} e => by
              rw [upd_ne (fun w => by rw [w, eD] at e; cases e)]
              exact s1 _ _ e
            have e2 : imgs f ((ks.take j).filter (fun y => decide (y ≠ z)) ++ [y]) = imgs f ((ks.take j).filter fun y => decide (y ≠ z)) ++ [(Sum.inr y, .str (f y))] := by
              unfold imgs
              rw [List.map_append]
              rfl
            rw [e2]
            refine paired_snoc (L2.Paired.mapP hPr fun _ _ e => keep e) ?_
            show (upd (upd G6 t (.tup [.str y, .str (f y)])) D _) t = some (.tup [.str y, .str (f y)])
            rw [upd_ne (Ne.symm nDt)]
            exact upd_same
          · have h := s1 _ _ (sm b u e)
            rw [upd_ne (fun w => by rw [w, hD] at e; cases e)]
            exact h
      · obtain ⟨ts, eD, hPr, sm⟩ := hP
        rw [imgs_len, List.take_length] at hPr
        have nDn : D ≠ nd := fun w => by
          rw [w, upd_same] at hD
          cases hD
        have s1 := same_unlock r0.hn sm
        have keep : ∀ {b : Addr} {xs : List V}, G5 b = some (.tup xs) → (upd G5 nd (.dK (imgs f ks))) b = some (.tup xs) := fun {b xs} e => by
          rw [upd_ne (fun w => by rw [w, sm _ _ upd_same] at e; cases e)]
          exact e
        refine ⟨sm _ _ upd_same, D, ts, _, rfl, .inl (.inl (by rw [upd_ne nDn]; exact eD)), L2.Paired.mapP hPr fun _ _ e => .inl (.inl (keep e)), fun p6 np => ?_⟩
        refine ⟨p6, rfl, ?_, (r0.sm s1).sm (same_new (Same.refl _) np)⟩
        rw [upd_same, vals_imgs, vals_merge (ksn.sublist List.filter_sublist)]
    rintro σ' G1 ⟨p6, rfl, e6, r1⟩
    -- more
    have lks := hperm.length_eq
    refine ⟨fun σ' G' => ∃ (p7 : Addr) (kv7 : List (Key × V)), σ' = [some (.ref d), some (.ref x), some v, some (.ref p), some (.ref nd), some (.str z), some (.ref p6), some (.ref p7), none, none, none, none, none, none, none, none] ∧ G' p7 = some (.dK kv7) ∧ kv7.length = ns.length + 1 ∧ ExtX d G1 G' ∧ RRs K C Tb H d x md p nd leaf M ns ks f v od G', ?_, ?_⟩
    · refine ⟨_, rfl, nd, _, rfl, r1.hn, fun G2 pl ts s1 npl nts nin epl hts => ?_⟩
      refine ⟨by show 2 ≤ sizeLine; omega, fun t nt => ⟨by show 1 ≤ sizeLine; omega, fun l nl => ?_⟩⟩
      have s2 := same_new (o := .tup [.str "beyond", .str "nowhere"]) (Same.refl G2) nt
      have et : (upd G2 t (.tup [.str "beyond", .str "nowhere"])) t = some (.tup [.str "beyond", .str "nowhere"]) := upd_same
      generalize upd G2 t (.tup [.str "beyond", .str "nowhere"]) = G3 at s2 et nl
      have s3 := same_new (o := .lst [.ref t]) (Same.refl G3) nl
      have el : (upd G3 l (.lst [.ref t])) l = some (.lst [.ref t]) := upd_same
      generalize upd G3 l (.lst [.ref t]) = G4 at s3 el
      have lts := Paired.length hts
      rw [imgs_len] at lts
      refine ⟨pl, l, _, _, rfl, rfl, s3 _ _ (s2 _ _ epl), el, by rw [List.length_map]; show _ + 1 ≤ sizeLine; omega, fun l2 nl2 => ?_⟩
      have s4 := same_new (o := .lst (ts.map V.ref ++ [V.ref t])) (Same.refl G4) nl2
      have el2 : (upd G4 l2 (.lst (ts.map V.ref ++ [V.ref t]))) l2 = some (.lst (ts.map V.ref ++ [V.ref t])) := upd_same
      generalize upd G4 l2 (.lst (ts.map V.ref ++ [V.ref t])) = G5 at s4 el2
      have s25 : Same G2 G5 := fun b o e => s4 _ _ (s3 _ _ (s2 _ _ e))
      refine ⟨l2, ts ++ [t], imgs f ks ++ [((Sum.inr "beyond" : Key), V.str "nowhere")], rfl, .inl (.inl (by rw [List.map_append]; exact el2)), paired_snoc (L2.Paired.mapP hts fun _ _ e => .inl (.inl (s25 _ _ e))) (.inl (.inl (s4 _ _ (s3 _ _ et)))), fun p7 np => ?_⟩
      have s6 := same_new (o := .dK (mergeK [] (imgs f ks ++ [((Sum.inr "beyond" : Key), V.str "nowhere")]))) (Same.refl G5) np
      have s16 : Same G1 _ := fun b o e => s6 _ _ (s25 _ _ (s1 _ _ e))
      refine ⟨p7, _, rfl, upd_same, ?_, .of s16, r1.sm s16⟩
      rw [more_dict f ksn (fun h => ?_), lks]
      have := npool (hperm.mem_iff.mp h)
      exact absurd this (by decide +kernel)
    rintro σ' G2 ⟨p7, kv7, rfl, e7, l7, x2, r2⟩
    have n6 : p6 ≠ d := fun w => by
      obtain ⟨a, b, c, e⟩ := r1.k.hd
      rw [w, e] at e6
      cases e6
    have e6 := x2 _ _ n6 e6 fun _ => nofun
    clear r1 x2
    -- a bad one
    refine ⟨fun σ' G' => ∃ (p8 : Addr) (bv : V), σ' = [some (.ref d), some (.ref x), some v, some (.ref p), some (.ref nd), some (.str z), some (.ref p6), some (.ref p7), some (.ref p8), none, none, none, none, none, none, none] ∧ G' p8 = some (.dK (valsD (fun y => if y = z then bv else .str (f y)) ks)) ∧ (∀ G'', ExtN G' G'' → NameArg K G'' bv) ∧ nameV bv = false ∧ ExtX d G2 G' ∧ RRs K C Tb H d x md p nd leaf M ns ks f v od G', ?_, ?_⟩
    · refine ⟨_, rfl, nd, _, rfl, r2.hn, fun J pl ts s1 npl nts nin epl hts => ?_⟩
      have r3 := r2.sm s1
      have npd := dice_ne r2.k.hd npl
      refine ⟨_, rfl, _, rfl, by show 1 ≤ sizeLine; omega, fun ta nta => ⟨by show 1 ≤ sizeLine; omega, fun la nla => ⟨by show 8 ≤ sizeLine; omega, fun lo nlo => ?_⟩⟩⟩
      have nad := dice_ne r3.k.hd nta
      have s2 := same_new (o := .tup [.str "a"]) (Same.refl J) nta
      have eta : (upd J ta (.tup [.str "a"])) ta = some (.tup [.str "a"]) := upd_same
      have r4 := r3.sm s2
      generalize upd J ta (.tup [.str "a"]) = J1 at s2 eta r4 nla nlo
      have nld := dice_ne r4.k.hd nla
      have s3 := same_new (o := .lst [.str "a"]) (Same.refl J1) nla
      have ela : (upd J1 la (.lst [.str "a"])) la = some (.lst [.str "a"]) := upd_same
      have r5 := r4.sm s3
      generalize upd J1 la (.lst [.str "a"]) = J2 at s3 ela r5 nlo
      have nod := dice_ne r5.k.hd nlo
      have s4 := same_new (o := .lst [.non, .int 7, .str "", .str "A", .str "ninelette", .ref ta, .ref la, .bl true]) (Same.refl J2) nlo
      have elo : (upd J2 lo (.lst [.non, .int 7, .str "", .str "A", .str "ninelette", .ref ta, .ref la, .bl true])) lo = some (.lst [.non, .int 7, .str "", .str "A", .str "ninelette", .ref ta, .ref la, .bl true]) := upd_same
      have r6 := r5.sm s4
      generalize upd J2 lo (.lst [.non, .int 7, .str "", .str "A", .str "ninelette", .ref ta, .ref la, .bl true]) = J3 at s4 elo r6
      have s13 : Same J J3 := fun b o e => s4 _ _ (s3 _ _ (s2 _ _ e))
      refine ⟨d, _, _, rfl, r6.k.hd, .inl ⟨lo, rfl, nod, .inl (.inl (.inl elo))⟩, (fun h => by cases h), by show 8 ≤ 100000; omega, fun bv a b c hbv => ?_⟩
      have r7 := r6.dice a b c
      have sx : SameX d J3 (upd J3 d (.lst [.int a, .int b, .int c])) := (SameX.refl d J3).atd
      have edJ := r6.k.hd
      generalize upd J3 d (.lst [.int a, .int b, .int c]) = J4 at r7 sx
      refine ⟨by show 2 ≤ sizeLine; omega, fun t nt => ⟨by show 1 ≤ sizeLine; omega, fun l nl => ?_⟩⟩
      have s5 := same_new (o := .tup [.str z, bv]) (Same.refl J4) nt
      have et : (upd J4 t (.tup [.str z, bv])) t = some (.tup [.str z, bv]) := upd_same
      generalize upd J4 t (.tup [.str z, bv]) = J5 at s5 et nl
      have s6 := same_new (o := .lst [.ref t]) (Same.refl J5) nl
      have el : (upd J5 l (.lst [.ref t])) l = some (.lst [.ref t]) := upd_same
      generalize upd J5 l (.lst [.ref t]) = J6 at s6 el
      have lts := Paired.length hts
      rw [imgs_len] at lts
      refine ⟨pl, l, _, _, rfl, rfl, s6 _ _ (s5 _ _ (sx _ _ npd (s13 _ _ epl))), el, by rw [List.length_map]; show _ + 1 ≤ sizeLine; omega, fun l2 nl2 => ?_⟩
      have s7 := same_new (o := .lst (ts.map V.ref ++ [V.ref t])) (Same.refl J6) nl2
      have el2 : (upd J6 l2 (.lst (ts.map V.ref ++ [V.ref t]))) l2 = some (.lst (ts.map V.ref ++ [V.ref t])) := upd_same
      generalize upd J6 l2 (.lst (ts.map V.ref ++ [V.ref t])) = J7 at s7 el2
      have s47 : Same J4 J7 := fun b o e => s7 _ _ (s6 _ _ (s5 _ _ e))
      have tupd : ∀ {b : Addr} {xs : List V}, J b = some (.tup xs) → J7 b = some (.tup xs) := fun {b xs} e => by
        have e3 := s13 _ _ e
        refine s47 _ _ (sx _ _ (fun w => ?_) e3)
        obtain ⟨a', b', c', ed⟩ := edJ
        rw [w, ed] at e3
        cases e3
      refine ⟨l2, ts ++ [t], imgs f ks ++ [((Sum.inr z : Key), bv)], rfl, .inl (.inl (by rw [List.map_append]; exact el2)), paired_snoc (L2.Paired.mapP hts fun _ _ e => .inl (.inl (tupd e))) (.inl (.inl (s7 _ _ (s6 _ _ et)))), fun p8 np => ?_⟩
      have s8 := same_new (o := .dK (mergeK [] (imgs f ks ++ [((Sum.inr z : Key), bv)]))) (Same.refl J7) np
      have s48 : Same J4 _ := fun b o e => s8 _ _ (s47 _ _ e)
      have x28 : ExtX d G2 (upd J7 p8 (.dK (mergeK [] (imgs f ks ++ [((Sum.inr z : Key), bv)])))) := ((ExtX.of (fun b o e => s13 _ _ (s1 _ _ e))).trans (ext_ofX sx)).trans (.of s48)
      have ta8 := s48 _ _ (sx _ _ nad (s4 _ _ (s3 _ _ eta)))
      have la8 := s48 _ _ (sx _ _ nld (s4 _ _ ela))
      refine ⟨p8, bv, rfl, by rw [upd_same, bad_dict f ksn hzk], ?_, ?_, x28, r7.sm s48⟩
      · intro G'' eN
        simp only [List.mem_cons, List.not_mem_nil, or_false] at hbv
        rcases hbv with rfl | rfl | rfl | rfl | rfl | rfl | rfl | rfl
        · exact na_non
        · exact na_int' 7
        · exact na_text (by decide +kernel)
        · exact na_text (by decide +kernel)
        · exact na_text (by decide +kernel)
        · exact na_tup (eN _ _ ta8 fun _ => nofun)
        · exact na_lst (eN _ _ la8 fun _ => nofun)
        · exact na_bl' true
      · simp only [List.mem_cons, List.not_mem_nil, or_false] at hbv
        rcases hbv with rfl | rfl | rfl | rfl | rfl | rfl | rfl | rfl <;> first | rfl | decide +kernel
    rintro σ' G3 ⟨p8, bv, rfl, e8, hb1, hb2, x3, r3⟩
    have n7 : p7 ≠ d := fun w => by
      obtain ⟨a, b, c, e⟩ := r2.k.hd
      rw [w, e] at e7
      cases e7
    have n6 : p6 ≠ d := fun w => by
      obtain ⟨a, b, c, e⟩ := r2.k.hd
      rw [w, e] at e6
      cases e6
    have e6 := x3 _ _ n6 e6 fun _ => nofun
    have e7 := x3 _ _ n7 e7 fun _ => nofun
    clear r2 x3
    -- two alike
    obtain ⟨n0, hn0, hat0⟩ : ∃ n0, n0 ∈ ns ∧ atI (ns.map V.str) 0 = some (.str n0) := by
      cases ns with
      | nil => exact absurd rfl nne
      | cons n0 rest =>
        refine ⟨n0, List.mem_cons_self, ?_⟩
        unfold atI ixN
        rw [if_pos (by omega), if_pos (by rw [List.length_map, List.length_cons]; omega)]
        rfl
    have hn0k : n0 ∈ ks := hperm.mem_iff.mpr hn0
    refine ⟨fun σ' G' => ∃ p9 : Addr, σ' = [some (.ref d), some (.ref x), some v, some (.ref p), some (.ref nd), some (.str z), some (.ref p6), some (.ref p7), some (.ref p8), some (.ref p9), none, none, none, none, none, none] ∧ G' p9 = some (.dK (imgs (twF f n0 z) ks)) ∧ Same G3 G' ∧ RRs K C Tb H d x md p nd leaf M ns ks f v od G', ?_, ?_⟩
    · refine ⟨_, rfl, nd, _, rfl, r3.hn, fun J pl ts s1 npl nts nin epl hts => ?_⟩
      have r4 := r3.sm s1
      refine ⟨_, rfl, _, rfl, _, rfl, p, _, _, _, rfl, rfl, .inl (.inl r4.hp), hat0, nd, .str (f n0), rfl, .inl ⟨_, Sum.inr n0, .inl r4.hn, rfl, (imgs_in hn0k).symm⟩, by show 2 ≤ sizeLine; omega, fun t1 nt1 => ?_⟩
      have s2 := same_new (o := .tup [.str z, .str (f n0)]) (Same.refl J) nt1
      have et1 : (upd J t1 (.tup [.str z, .str (f n0)])) t1 = some (.tup [.str z, .str (f n0)]) := upd_same
      have r5 := r4.sm s2
      generalize upd J t1 (.tup [.str z, .str (f n0)]) = J1 at s2 et1 r5
      refine ⟨_, rfl, p, _, _, _, rfl, rfl, .inl (.inl r5.hp), hat0, _, rfl, _, rfl, nd, .str (f z), rfl, .inl ⟨_, Sum.inr z, .inl r5.hn, rfl, (imgs_in hzk).symm⟩, by show 2 ≤ sizeLine; omega, fun t2 nt2 => ?_⟩
      have s3 := same_new (o := .tup [.str n0, .str (f z)]) (Same.refl J1) nt2
      have et2 : (upd J1 t2 (.tup [.str n0, .str (f z)])) t2 = some (.tup [.str n0, .str (f z)]) := upd_same
      have r6 := r5.sm s3
      generalize upd J1 t2 (.tup [.str n0, .str (f z)]) = J2 at s3 et2 r6
      refine ⟨_, rfl, _, rfl, _, rfl, nd, .str (f z), rfl, .inl ⟨_, Sum.inr z, .inl r6.hn, rfl, (imgs_in hzk).symm⟩, by show 2 ≤ sizeLine; omega, fun t3 nt3 => ⟨by show 3 ≤ sizeLine; omega, fun l nl => ?_⟩⟩
      have s4 := same_new (o := .tup [.str z, .str (f z)]) (Same.refl J2) nt3
      have et3 : (upd J2 t3 (.tup [.str z, .str (f z)])) t3 = some (.tup [.str z, .str (f z)]) := upd_same
      have r7 := r6.sm s4
      generalize upd J2 t3 (.tup [.str z, .str (f z)]) = J3 at s4 et3 r7 nl
      have s5 := same_new (o := .lst [.ref t1, .ref t2, .ref t3]) (Same.refl J3) nl
      have el : (upd J3 l (.lst [.ref t1, .ref t2, .ref t3])) l = some (.lst [.ref t1, .ref t2, .ref t3]) := upd_same
      have r8 := r7.sm s5
      generalize upd J3 l (.lst [.ref t1, .ref t2, .ref t3]) = J4 at s5 el r8
      have lts := Paired.length hts
      rw [imgs_len] at lts
      have s15 : Same J J4 := fun b o e => s5 _ _ (s4 _ _ (s3 _ _ (s2 _ _ e)))
      refine ⟨pl, l, _, _, rfl, rfl, s15 _ _ epl, el, by rw [List.length_map]; show _ + 3 ≤ sizeLine; omega, fun l2 nl2 => ?_⟩
      have s6 := same_new (o := .lst (ts.map V.ref ++ [V.ref t1, V.ref t2, V.ref t3])) (Same.refl J4) nl2
      have el2 : (upd J4 l2 (.lst (ts.map V.ref ++ [V.ref t1, V.ref t2, V.ref t3]))) l2 = some (.lst (ts.map V.ref ++ [V.ref t1, V.ref t2, V.ref t3])) := upd_same
      have r9 := r8.sm s6
      generalize upd J4 l2 (.lst (ts.map V.ref ++ [V.ref t1, V.ref t2, V.ref t3])) = J5 at s6 el2 r9
      have s16 : Same J J5 := fun b o e => s6 _ _ (s15 _ _ e)
      have q1 : Paired (fun t (kv : Key × V) => SqT K J5 t [kV kv.1, kv.2]) (((ts ++ [t1]) ++ [t2]) ++ [t3]) (((imgs f ks ++ [((Sum.inr z : Key), V.str (f n0))]) ++ [((Sum.inr n0 : Key), V.str (f z))]) ++ [((Sum.inr z : Key), V.str (f z))]) :=
        paired_snoc (paired_snoc (paired_snoc (L2.Paired.mapP hts fun _ _ e => .inl (.inl (s16 _ _ e))) (.inl (.inl (s6 _ _ (s5 _ _ (s4 _ _ (s3 _ _ et1))))))) (.inl (.inl (s6 _ _ (s5 _ _ (s4 _ _ et2)))))) (.inl (.inl (s6 _ _ (s5 _ _ et3))))
      refine ⟨l2, _, _, rfl, .inl (.inl (by rw [el2]; simp)), q1, fun p9 np => ?_⟩
      have s7 := same_new (o := .dK (mergeK [] (((imgs f ks ++ [((Sum.inr z : Key), V.str (f n0))]) ++ [((Sum.inr n0 : Key), V.str (f z))]) ++ [((Sum.inr z : Key), V.str (f z))]))) (Same.refl J5) np
      refine ⟨p9, rfl, ?_, fun b o e => s7 _ _ (s16 _ _ (s1 _ _ e)), r9.sm s7⟩
      rw [upd_same, List.append_assoc, List.append_assoc]
      exact congrArg (fun q => some (HO.dK q)) (tw_dict f ksn hn0k hzk)
    rintro σ' G4 ⟨p9, rfl, e9, s34, r4⟩
    have e6 := s34 _ _ e6
    have e7 := s34 _ _ e7
    have e8 := s34 _ _ e8
    have hb1 : ∀ G'', ExtN G4 G'' → NameArg K G'' bv := fun G'' e => hb1 G'' ((ExtN.of s34).trans e)
    clear r3 s34
    -- all alike
    refine ⟨fun σ' G' => ∃ p10 : Addr, σ' = [some (.ref d), some (.ref x), some v, some (.ref p), some (.ref nd), some (.str z), some (.ref p6), some (.ref p7), some (.ref p8), some (.ref p9), some (.ref p10), none, none, none, none, none] ∧ G' p10 = some (.dK (valsD (fun _ => .str "same") ns)) ∧ Same G4 G' ∧ RRs K C Tb H d x md p nd leaf M ns ks f v od G', ?_, ?_⟩
    · refine ⟨_, rfl, p, rfl, ⟨_, .inl (.inl r4.hp)⟩, fun D hD => ?_⟩
      refine lc_it (g := gName 15) (tt := tYes) (vs := [15]) (walk_tup (K := K) (a := p) (xs := ns.map V.str)) (fun j G5 => ∃ ts : List Addr, G5 D = some (.lst (ts.map V.ref)) ∧ Paired (fun t (kv : Key × V) => G5 t = some (.tup [kV kv.1, kv.2])) ts (valsD (fun _ => .str "same") (ns.take j)) ∧ Same G4 G5)
        ⟨[], upd_same, .nil, same_new (Same.refl _) hD⟩ (fun j G5 _ hP => by obtain ⟨_, _, _, s⟩ := hP; exact .inl (.inl (s _ _ r4.hp))) (fun j u Gx G6 hj hP hy => ?_) (fun G5 hP => ?_)
      · obtain ⟨ts, eD, hPr, sm⟩ := hP
        obtain ⟨rfl, hu'⟩ := hy
        obtain ⟨y, hyk, rfl⟩ := at_texts hu'
        refine ⟨rfl, _, rfl, by show 2 ≤ sizeLine; omega, fun t nt => ?_⟩
        have s1 := same_new (o := .tup [.str y, .str "same"]) (Same.refl G6) nt
        have lts := Paired.length hPr
        rw [vals_len, List.length_take] at lts
        have nDt : D ≠ t := fun w => by rw [w, nt] at eD; cases eD
        refine ⟨_, s1 _ _ eD, ?_, ts ++ [t], ?_, ?_, fun b u e => ?_⟩
        · rw [List.length_map]
          exact Nat.lt_of_le_of_lt (show _ ≤ 6 by omega) (by decide)
        · rw [upd_same, List.map_append]
          rfl
        · have keep : ∀ {b : Addr} {xs : List V}, G6 b = some (.tup xs) → (upd (upd G6 t (.tup [.str y, .str "same"])) D (.lst (ts.map V.ref ++ [V.ref t]))) b = some (.tup xs) := fun {b xs} e => by
            rw [upd_ne (fun w => by rw [w, eD] at e; cases e)]
            exact s1 _ _ e
          have e2 : valsD (fun _ => .str "same") (ns.take (j + 1)) = valsD (fun _ => .str "same") (ns.take j) ++ [(Sum.inr y, .str "same")] := by
            rw [take_snoc hyk]
            unfold valsD
            rw [List.map_append]
            rfl
          rw [e2]
          refine paired_snoc (L2.Paired.mapP hPr fun _ _ e => keep e) ?_
          show (upd (upd G6 t (.tup [.str y, .str "same"])) D _) t = some (.tup [.str y, .str "same"])
          rw [upd_ne (Ne.symm nDt)]
          exact upd_same
        · rw [upd_ne (fun w => by rw [w, hD] at e; cases e)]
          exact s1 _ _ (sm b u e)
      · obtain ⟨ts, eD, hPr, sm⟩ := hP
        rw [List.length_map, List.take_length] at hPr
        refine ⟨D, ts, _, rfl, .inl (.inl eD), L2.Paired.mapP hPr fun _ _ e => .inl (.inl e), fun p10 np => ?_⟩
        have s2 := same_new (o := .dK (mergeK [] (valsD (fun _ => .str "same") ns))) sm np
        exact ⟨p10, rfl, by rw [upd_same, vals_merge hN.nd], s2, r4.sm s2⟩
    rintro σ' G5 ⟨p10, rfl, e10, s45, r5⟩
    -- what is wrong
    refine ⟨fun σ' G' => ∃ (l11 pl t : Addr) (xl : List V), σ' = [some (.ref d), some (.ref x), some v, some (.ref p), some (.ref nd), some (.str z), some (.ref p6), some (.ref p7), some (.ref p8), some (.ref p9), some (.ref p10), some (.ref l11), none, none, none, none] ∧ G' l11 = some (.lst [.ref p6, .ref p7, .ref p8, .ref pl, v, .ref p, .non, .ref t]) ∧ G' pl = some (.lst xl) ∧ G' t = some (.tup [.ref nd]) ∧ Same G5 G' ∧ RRs K C Tb H d x md p nd leaf M ns ks f v od G', ?_, ?_⟩
    · refine ⟨_, rfl, _, rfl, _, rfl, _, rfl, nd, _, rfl, r5.hn, fun J pl ts s1 npl nts nin epl hts => ?_⟩
      refine ⟨_, rfl, _, rfl, _, rfl, by show 1 ≤ sizeLine; omega, fun t nt => ⟨by show 8 ≤ sizeLine; omega, fun l11 nl => ?_⟩⟩
      have s2 := same_new (o := .tup [.ref nd]) (Same.refl J) nt
      have et : (upd J t (.tup [.ref nd])) t = some (.tup [.ref nd]) := upd_same
      generalize upd J t (.tup [.ref nd]) = J1 at s2 et nl
      have s3 := same_new (o := .lst [.ref p6, .ref p7, .ref p8, .ref pl, v, .ref p, .non, .ref t]) (Same.refl J1) nl
      exact ⟨l11, pl, t, _, rfl, upd_same, s3 _ _ (s2 _ _ epl), s3 _ _ et, fun b o e => s3 _ _ (s2 _ _ (s1 _ _ e)), r5.sm fun b o e => s3 _ _ (s2 _ _ (s1 _ _ e))⟩
    rintro σ' G6 ⟨l11, pl, t, xl, rfl, e11, epl, et, s56, r6⟩
    have s46 : Same G4 G6 := fun b o e => s56 _ _ (s45 _ _ e)
    have e6 := s46 _ _ e6
    have e7 := s46 _ _ e7
    have e8 := s46 _ _ e8
    have e9 := s46 _ _ e9
    have e10 := s56 _ _ e10
    have hb1 : ∀ G'', ExtN G6 G'' → NameArg K G'' bv := fun G'' e => hb1 G'' ((ExtN.of s46).trans e)
    clear r4 r5 s45 s56 s46
    have noren : ∀ u ∈ [V.ref p6, .ref p7, .ref p8, .ref pl, v, .ref p, .non, .ref t], ∀ G, ExtN G6 G → NoRen K G u ns := fun u hu' G eN => by
      simp only [List.mem_cons, List.not_mem_nil, or_false] at hu'
      rcases hu' with rfl | rfl | rfl | rfl | rfl | rfl | rfl | rfl
      · exact noren_dict (eN _ _ e6 fun _ => nofun) (by rw [imgs_len, ← lks]; exact less_len ksn hzk)
      · exact noren_dict (eN _ _ e7 fun _ => nofun) (by omega)
      · refine noren_vals (eN _ _ e8 fun _ => nofun) hperm (fun y hy G' s => ?_) fun h => ?_
        · by_cases c : y = z
          · rw [if_pos c]
            exact hb1 G' (eN.trans (.of s))
          · rw [if_neg c]
            exact na_text (Nat.le_trans (pool_len (hfP y hy)) (by decide))
        · have := h.1 z hz
          rw [if_pos rfl, hb2] at this
          cases this
      · exact noren_lst (eN _ _ epl fun _ => nofun)
      · exact noren_any (r6.k.ho.ext (.ofN eN)) nne
      · exact noren_tup (eN _ _ r6.hp fun _ => nofun)
      · exact noren_non
      · exact noren_tup (eN _ _ et fun _ => nofun)
    have same2 : 1 < ns.length → ∀ G, ExtN G6 G → NoRen K G (.ref p10) ns := fun h1 G eN => by
      refine noren_vals (eN _ _ e10 fun _ => nofun) (List.Perm.refl ns) (fun y hy G' s => na_text (by decide +kernel)) fun h => ?_
      have h2 := h.2
      cases ns with
      | nil => exact absurd rfl nne
      | cons a r =>
        cases r with
        | nil => exact absurd h1 (by show ¬ 1 < 1; omega)
        | cons b r =>
          rw [List.map_cons, List.map_cons, List.nodup_cons] at h2
          exact h2.1 List.mem_cons_self
    -- none of these renames
    refine ⟨fun σ' G' => ∃ (y12 : Option V), σ' = [some (.ref d), some (.ref x), some v, some (.ref p), some (.ref nd), some (.str z), some (.ref p6), some (.ref p7), some (.ref p8), some (.ref p9), some (.ref p10), some (.ref l11), y12, none, none, none] ∧ ExtN G6 G' ∧ Tabs Tb G', ?_, ?_⟩
    · refine ⟨_, rfl, _, rfl, by show 1 ≤ sizeLine; omega, fun l nl => ?_⟩
      have s1 := same_new (o := .lst [.ref p10]) (Same.refl G6) nl
      have el : (upd G6 l (.lst [.ref p10])) l = some (.lst [.ref p10]) := upd_same
      have r7 := r6.sm s1
      generalize upd G6 l (.lst [.ref p10]) = G7 at s1 el r7
      refine ⟨_, rfl, p, _, rfl, .inr (.inl (.inl r7.hp)), _, _, rfl, rfl, .inr ⟨_, rfl, ?_⟩⟩
      obtain ⟨kI, hkI, k01, kpos⟩ : ∃ kI : Int, (if decide ((1 : Int) < ((ns.map V.str).length : Nat)) = true then (1 : Int) else 0) = kI ∧ (kI = 0 ∨ kI = 1) ∧ (kI = 1 → 1 < ns.length) := by
        refine ⟨_, rfl, ?_, fun h => ?_⟩
        · split
          · exact .inr rfl
          · exact .inl rfl
        · split at h
          · rename_i c
            have := of_decide_eq_true c
            rw [List.length_map] at this
            omega
          · cases h
      rw [hkI]
      obtain ⟨tail, htail, ltail, ttail⟩ : ∃ tail, (List.replicate kI.toNat [V.ref p10]).flatten = tail ∧ tail.length ≤ 1 ∧ ∀ u ∈ tail, u = V.ref p10 ∧ 1 < ns.length := by
        rcases k01 with rfl | rfl
        · exact ⟨[], rfl, Nat.zero_le _, nofun⟩
        · refine ⟨[V.ref p10], rfl, Nat.le_refl _, fun u hu' => ⟨List.mem_singleton.mp hu', kpos rfl⟩⟩
      refine ⟨l, kI, _, rfl, rfl, el, by rcases k01 with rfl | rfl <;> decide, by rcases k01 with rfl | rfl <;> decide, ?_, fun l2 nl2 => ?_⟩
      · rcases k01 with rfl | rfl
        · show 1 * 0 ≤ sizeLine
          omega
        · show 1 * 1 ≤ sizeLine
          omega
      rw [htail]
      have s2 := same_new (o := .lst tail) (Same.refl G7) nl2
      have el2 : (upd G7 l2 (.lst tail)) l2 = some (.lst tail) := upd_same
      generalize upd G7 l2 (.lst tail) = G8 at s2 el2
      refine ⟨l11, l2, _, _, rfl, rfl, s2 _ _ (s1 _ _ e11), el2, by show 8 + _ ≤ sizeLine; omega, fun l3 nl3 => ?_⟩
      have s3 := same_new (o := .lst ([.ref p6, .ref p7, .ref p8, .ref pl, v, .ref p, .non, .ref t] ++ tail)) (Same.refl G8) nl3
      have el3 : (upd G8 l3 (.lst ([.ref p6, .ref p7, .ref p8, .ref pl, v, .ref p, .non, .ref t] ++ tail))) l3 = some (.lst ([.ref p6, .ref p7, .ref p8, .ref pl, v, .ref p, .non, .ref t] ++ tail)) := upd_same
      have r9 := (r7.sm s2).sm s3
      generalize upd G8 l3 (.lst ([.ref p6, .ref p7, .ref p8, .ref pl, v, .ref p, .non, .ref t] ++ tail)) = G9 at s3 el3 r9
      have s69 : Same G6 G9 := fun b o e => s3 _ _ (s2 _ _ (s1 _ _ e))
      have allno : ∀ u ∈ [V.ref p6, .ref p7, .ref p8, .ref pl, v, .ref p, .non, .ref t] ++ tail, ∀ G, ExtN G6 G → NoRen K G u ns := fun u hu' G eN => by
        rcases List.mem_append.mp hu' with h | h
        · exact noren u h G eN
        · obtain ⟨rfl, h1⟩ := ttail u h
          exact same2 h1 G eN
      generalize [V.ref p6, .ref p7, .ref p8, .ref pl, v, .ref p, .non, .ref t] ++ tail = us at el3 allno
      refine ⟨l3, rfl, ⟨_, .inl (.inl el3)⟩, ?_⟩
      refine for_it (walk_list (K := K) (a := l3) (xs := us)) (fun k σ' G' => ∃ (y12 : Option V), σ' = [some (.ref d), some (.ref x), some v, some (.ref p), some (.ref nd), some (.str z), some (.ref p6), some (.ref p7), some (.ref p8), some (.ref p9), some (.ref p10), some (.ref l11), y12, none, none, none] ∧ ExtN G6 G' ∧ Tabs Tb G' ∧ G' l3 = some (.lst us)) ⟨none, rfl, .of s69, r9.k.tb, el3⟩
        (fun k σ' G' _ h => by obtain ⟨_, _, _, _, e⟩ := h; exact .inl (.inl e)) (fun k u σ' Gx G' hk h hy => ?_) (fun σ' G' h => ?_)
      · obtain ⟨y12, rfl, eN, tb, e3⟩ := h
        obtain ⟨rfl, hu'⟩ := hy
        have hum : u ∈ us := List.mem_of_getElem? hu'
        refine ⟨tb, fun G10 eN2 t10 => ?_⟩
        have r10 := r6.exN (eN.trans eN2) t10
        obtain ⟨dx, nt, kvs, hx, hmd, hM, hn⟩ := id r10.k.hK
        refine ⟨_, rfl, x, dx, _, rfl, hx, kf_no _ _ _ (by decide) (by decide) (by decide), _, rfl, .inl ⟨x, md, leaf, M, ns, u, rfl, r10.k.hK, lns, allno u hum _ (eN.trans eN2), fun G11 s11 => .inr ⟨rfl, rfl, _, rfl, ?_⟩⟩⟩
        show (if (!decide (V.str "operation" = V.str "operation")) = true then _ else _)
        rw [decide_eq_true (rfl : V.str "operation" = V.str "operation"), if_neg (by decide)]
        exact ⟨_, rfl, ext_sm (eN.trans eN2) s11, t10.ext s11, s11 _ _ (eN2 _ _ e3 fun _ => nofun)⟩
      · obtain ⟨y12, rfl, eN, tb, _⟩ := h
        exact ⟨y12, rfl, eN, tb⟩
    rintro σ' G7 ⟨y12, rfl, e67, t7⟩
    -- are two of them alike?
    refine ⟨fun σ' G' => σ' = [some (.ref d), some (.ref x), some v, some (.ref p), some (.ref nd), some (.str z), some (.ref p6), some (.ref p7), some (.ref p8), some (.ref p9), some (.ref p10), some (.ref l11), y12, some (.bl (!decide ((ks.map (twF f n0 z)).Nodup))), none, none] ∧ ExtN G6 G' ∧ Tabs Tb G', ?_, ?_⟩
    · have r7 := r6.exN e67 t7
      refine ⟨_, rfl, p9, _, rfl, e67 _ _ e9 fun _ => nofun, fun l nl => ?_⟩
      rw [imgs_vals]
      have s1 := same_new (o := .lst ((ks.map (twF f n0 z)).map V.str)) (Same.refl G7) nl
      have el : (upd G7 l (.lst ((ks.map (twF f n0 z)).map V.str))) l = some (.lst ((ks.map (twF f n0 z)).map V.str)) := upd_same
      generalize upd G7 l (.lst ((ks.map (twF f n0 z)).map V.str)) = G8 at s1 el
      refine ⟨l, _, rfl, .inl (.inl el), by rw [List.length_map]; omega, fun S nS => ?_⟩
      have s2 := same_new (o := SetO' P w S (ks.map (twF f n0 z))) (Same.refl G8) nS
      refine ⟨S, _, rfl, upd_same, by rw [List.length_map]; omega, fun m hm1 hm2 => ?_⟩
      refine ⟨_, rfl, p, _, rfl, .inr (.inl (.inl (s2 _ _ (s1 _ _ r7.hp)))), _, _, rfl, rfl, ?_⟩
      rw [List.length_map] at hm1 hm2
      have eb : decide (((m : Nat) : Int) < ((ns.map V.str).length : Nat)) = !decide ((ks.map (twF f n0 z)).Nodup) := by
        rw [List.length_map]
        by_cases c : (ks.map (twF f n0 z)).Nodup
        · rw [decide_eq_true c, decide_eq_false]
          · rfl
          · have := hm2.mpr c
            omega
        · rw [decide_eq_false c, decide_eq_true]
          · rfl
          · have : m ≠ ks.length := fun h => c (hm2.mp h)
            omega
      refine ⟨?_, ext_sm (ext_sm e67 s1) s2, (t7.ext s1).ext s2⟩
      show [some (V.ref d), some (V.ref x), some v, some (V.ref p), some (V.ref nd), some (V.str z), some (V.ref p6), some (V.ref p7), some (V.ref p8), some (V.ref p9), some (V.ref p10), some (V.ref l11), y12, some (V.bl (decide (((m : Nat) : Int) < ((ns.map V.str).length : Nat)))), none, none] = _
      rw [eb]
    clear e67 t7
    rintro σ' G8 ⟨rfl, e3, t3⟩
    have mdn : ∀ {G : Hp}, KindsAt C G x md leaf M ns → G nd = some (.dK (imgs f ks)) → md ≠ nd := fun {G} hK2 h w => by
      obtain ⟨dx, nt, kvs, hx, hmd, hM, hn⟩ := hK2
      rw [w, h] at hmd
      have e := HO.dK.inj (Option.some.inj hmd)
      cases ks with
      | nil => cases hzk
      | cons a r =>
        obtain ⟨_, b, _, _, hb, _⟩ := hM.at (i := 0) (k := Sum.inr a) (v := .str (f a)) (by rw [← e]; rfl)
        cases hb
    have mdn9 : ∀ {G : Hp}, KindsAt C G x md leaf M ns → G p9 = some (.dK (imgs (twF f n0 z) ks)) → md ≠ p9 := fun {G} hK2 h w => by
      obtain ⟨dx, nt, kvs, hx, hmd, hM, hn⟩ := hK2
      rw [w, h] at hmd
      have e := HO.dK.inj (Option.some.inj hmd)
      cases ks with
      | nil => cases hzk
      | cons a r =>
        obtain ⟨_, b, _, _, hb, _⟩ := hM.at (i := 0) (k := Sum.inr a) (v := .str (twF f n0 z a)) (by rw [← e]; rfl)
        cases hb
    -- the images rename
    refine ⟨fun σ' G' => ∃ D : Addr, σ' = [some (.ref d), some (.ref x), some v, some (.ref p), some (.ref nd), some (.str z), some (.ref p6), some (.ref p7), some (.ref p8), some (.ref p9), some (.ref p10), some (.ref l11), y12, some (.bl (!decide ((ks.map (twF f n0 z)).Nodup))), some (.ref D), none] ∧ G' D = some (.lst [.str "fine"]) ∧ ExtN G6 G' ∧ Tabs Tb G' ∧ NewN G6 D, ?_, ?_⟩
    · refine ⟨t3, fun G9 eN t9 => ?_⟩
      have r9 := r6.exN (e3.trans eN) t9
      obtain ⟨dx, nt, kvs, hx, hmd, hM, hn⟩ := id r9.k.hK
      refine ⟨_, rfl, x, dx, _, rfl, hx, kf_no _ _ _ (by decide) (by decide) (by decide), _, rfl, .inr ⟨x, md, nd, leaf, M, ns, ks, f, rfl, r9.k.hK, hV, hN, r9.hn, mdn r9.k.hK r9.hn, hperm, hfP, hfn, fun y md' N N' ns' G10 _ _ _ _ s10 _ => ?_⟩⟩
      refine ⟨by show 1 ≤ sizeLine; omega, fun D hD => ?_⟩
      exact ⟨D, rfl, upd_same, ext_sm (ext_sm (e3.trans eN) s10) (same_new (Same.refl G10) hD), (t9.ext s10).ext (same_new (Same.refl G10) hD), new_n (ext_sm (e3.trans eN) s10) hD⟩
    clear e3 t3
    rintro σ' G9 ⟨D, rfl, eD, e3, t3, nD⟩
    -- and these do, if they differ
    refine ⟨fun σ' G' => σ' = [some (.ref d), some (.ref x), some v, some (.ref p), some (.ref nd), some (.str z), some (.ref p6), some (.ref p7), some (.ref p8), some (.ref p9), some (.ref p10), some (.ref l11), y12, some (.bl (!decide ((ks.map (twF f n0 z)).Nodup))), some (.ref D), none] ∧ G' D = some (.lst [.str "fine", .str (if (ks.map (twF f n0 z)).Nodup then ("fine" : Str) else "operation")]) ∧ ExtN G6 G' ∧ Tabs Tb G', ?_, ?_⟩
    · refine ⟨_, rfl, ⟨.inl ⟨rfl, _, .inl (.inl eD)⟩, ?_⟩⟩
      refine ⟨t3, fun G10 eN t10 => ?_⟩
      have r10 := r6.exN (e3.trans eN) t10
      have eD4 := eN _ _ eD fun _ => nofun
      have e9' := (e3.trans eN) _ _ e9 fun _ => nofun
      obtain ⟨dx, nt, kvs, hx, hmd, hM, hn⟩ := id r10.k.hK
      have twP : ∀ y ∈ ns, twF f n0 z y ∈ POOL := fun y hy => by
        unfold twF
        split
        · exact hfP z hz
        · exact hfP y hy
      refine ⟨_, rfl, x, dx, _, rfl, hx, kf_no _ _ _ (by decide) (by decide) (by decide), _, rfl, ?_⟩
      by_cases c : (ks.map (twF f n0 z)).Nodup
      · rw [if_pos c]
        have c2 : (ns.map (twF f n0 z)).Nodup := (hperm.map _).nodup_iff.mp c
        refine .inr ⟨x, md, p9, leaf, M, ns, ks, twF f n0 z, rfl, r10.k.hK, hV, hN, e9', mdn9 r10.k.hK e9', hperm, twP, c2, fun y md' N N' ns' G11 _ _ _ _ s11 _ => ?_⟩
        exact ⟨D, _, _, rfl, rfl, s11 _ _ eD4, by show 1 < sizeLine; omega, rfl, upd_same, ext_lst (ext_sm (e3.trans eN) s11) nD, tabs_lst (t10.ext s11) (s11 _ _ eD4)⟩
      · rw [if_neg c]
        refine .inl ⟨x, md, leaf, M, ns, .ref p9, rfl, r10.k.hK, lns, noren_vals (g := fun y => .str (twF f n0 z y)) e9' hperm (fun y hy G' s => na_text (Nat.le_trans (pool_len (twP y hy)) (by decide))) (fun h => c ((hperm.map _).nodup_iff.mpr h.2)), fun G11 s11 => .inr ⟨rfl, ?_⟩⟩
        exact ⟨D, _, _, rfl, rfl, s11 _ _ eD4, by show 1 < sizeLine; omega, rfl, upd_same, ext_lst (ext_sm (e3.trans eN) s11) nD, tabs_lst (t10.ext s11) (s11 _ _ eD4)⟩
    clear eD e3 t3
    rintro σ' G10 ⟨rfl, eD, e3, t3⟩
    have fin : ∀ {G : Hp}, ExtN G10 G → Tabs Tb G → Q (.bl true) G := fun {G} e t => by
      have r := r6.exN (e3.trans e) t
      exact q G r.k.sx t r.k.hd
    refine ⟨_, rfl, _, rfl, _, rfl, ?_⟩
    by_cases c : (ks.map (twF f n0 z)).Nodup
    · rw [if_pos c] at eD
      rw [decide_eq_true c]
      show (if (!true) = true then _ else _)
      rw [if_neg (by decide)]
      refine ⟨by show 2 ≤ sizeLine; omega, fun l nl => ?_⟩
      have s1 := same_new (o := .lst [.str "fine", .str "fine"]) (Same.refl G10) nl
      have sh : SeqAt.shaped (.list (tD ["fine", "fine"])) = true := by decide +kernel
      refine ⟨.list (tD ["fine", "fine"]), .list (tD ["fine", "fine"]), .lst (.inl (.inl (s1 _ _ eD))) (dp_texts ["fine", "fine"]), .lst (.inl (.inl upd_same)) (dp_texts ["fine", "fine"]), sh, sh, ?_⟩
      rw [PyData.eqv, eqv_texts, decide_eq_true rfl]
      exact fin (.of s1) (t3.ext s1)
    · rw [if_neg c] at eD
      rw [decide_eq_false c]
      show (if (!false) = true then _ else _)
      rw [if_pos (by decide)]
      refine ⟨by show 2 ≤ sizeLine; omega, fun l nl => ?_⟩
      have s1 := same_new (o := .lst [.str "fine", .str "operation"]) (Same.refl G10) nl
      have sh : SeqAt.shaped (.list (tD ["fine", "operation"])) = true := by decide +kernel
      refine ⟨.list (tD ["fine", "operation"]), .list (tD ["fine", "operation"]), .lst (.inl (.inl (s1 _ _ eD))) (dp_texts ["fine", "operation"]), .lst (.inl (.inl upd_same)) (dp_texts ["fine", "operation"]), sh, sh, ?_⟩
      rw [PyData.eqv, eqv_texts, decide_eq_true rfl]
      exact fin (.of s1) (t3.ext s1)
end
end Kl

set_option maxRecDepth 100000
set_option maxHeartbeats 4000000
namespace Kl
open PySem PySem.Spec PyProof.Rows L2 Gx Mx
/-! ### what repr shows of texts is text -/
theorem char_lt (c : Char) : c.toNat < 0x110000 := by
  have h := c.valid
  show c.val.toNat < 0x110000
  rcases h with h | ⟨_, h⟩
  · exact Nat.lt_trans h (by decide)
  · exact h
theorem reprChar_ok {q c : Nat} (hc : c < 0x110000) : ∀ n ∈ Builtin.Str.reprChar q c, n < 0x110000 := by
  intro n hn
  unfold Builtin.Str.reprChar at hn
  have hex : ∀ k, ∀ n ∈ List.replicate (k - ((Nat.toDigits 16 c).map Char.toNat).length) 48 ++ (Nat.toDigits 16 c).map Char.toNat, n < 0x110000 := fun k n h => by
    rcases List.mem_append.mp h with h | h
    · rw [(List.mem_replicate.mp h).2]
      decide
    · obtain ⟨d, _, rfl⟩ := List.mem_map.mp h
      exact char_lt d
  have two : ∀ a b : Nat, a < 0x110000 → b < 0x110000 → ∀ n ∈ [a, b], n < 0x110000 := fun a b ha hb n h => by
    simp only [List.mem_cons, List.not_mem_nil, or_false] at h
    rcases h with rfl | rfl
    · exact ha
    · exact hb
  have app : ∀ (a b k : Nat), a < 0x110000 → b < 0x110000 → ∀ n ∈ [a, b] ++ (List.replicate (k - ((Nat.toDigits 16 c).map Char.toNat).length) 48 ++ (Nat.toDigits 16 c).map Char.toNat), n < 0x110000 := fun a b k ha hb n h => by
    rcases List.mem_append.mp h with h | h
    · exact two a b ha hb n h
    · exact hex k n h
  split at hn
  · exact two 92 c (by decide) hc n hn
  · split at hn
    · exact two 92 110 (by decide) (by decide) n hn
    · split at hn
      · exact two 92 114 (by decide) (by decide) n hn
      · split at hn
        · exact two 92 116 (by decide) (by decide) n hn
        · split at hn
          · rw [List.mem_singleton.mp hn]
            exact hc
          · split at hn
            · exact app 92 120 2 (by decide) (by decide) n hn
            · split at hn
              · exact app 92 117 4 (by decide) (by decide) n hn
              · exact app 92 85 8 (by decide) (by decide) n hn
theorem fold_ok (q : Nat) : ∀ (l : List Nat) (acc : Array Nat), (∀ c ∈ l, c < 0x110000) → (∀ n ∈ acc.toList, n < 0x110000) → ∀ n ∈ (l.foldl (fun out c => out ++ (Builtin.Str.reprChar q c).toArray) acc).toList, n < 0x110000
  | [], _, _, h => h
  | c :: l, acc, hl, h => by
    rw [List.foldl_cons]
    refine fold_ok q l _ (fun x hx => hl x (List.mem_cons_of_mem _ hx)) fun n hn => ?_
    rw [Array.toList_append] at hn
    rcases List.mem_append.mp hn with hn | hn
    · exact h n hn
    · exact reprChar_ok (hl c List.mem_cons_self) n hn
theorem strOk_iff (s : Str) : PyData.strOk s = true ↔ ∀ n ∈ s.cps.toList, n < 0x110000 := by
  unfold PyData.strOk
  rw [Array.all_eq_true_iff_forall_mem]
  constructor
  · intro h n hn
    exact of_decide_eq_true (h n (Array.mem_toList_iff.mp hn))
  · intro h n hn
    exact decide_eq_true (h n (Array.mem_toList_iff.mpr hn))
theorem repr_ok {x : Str} (h : PyData.strOk x = true) : PyData.strOk (reprText x) = true := by
  rw [strOk_iff] at h ⊢
  have q : reprQuote x < 0x110000 := by
    unfold reprQuote
    split <;> decide
  unfold reprText
  intro n hn
  rw [Array.toList_push] at hn
  rcases List.mem_append.mp hn with hn | hn
  · rw [← Array.foldl_toList] at hn
    exact fold_ok _ _ _ h (fun m hm => by rw [List.mem_singleton.mp hm]; exact q) n hn
  · rw [List.mem_singleton.mp hn]
    exact q
end Kl
namespace Kl
open PySem PySem.Spec PyProof.Rows L2 Gx Mx
theorem shown_texts (zs : List Str) : PyData.shownAll (tD zs) = zs.map reprText := by
  unfold tD
  rw [shownAll_eq_map, List.map_map]
  rfl
theorem tup_ok {zs : List Str} (h : ∀ z ∈ zs, PyData.strOk z = true) : PyData.strOk (PyData.shown (.tuple (tD zs))) = true := by
  show PyData.strOk (tupleText (PyData.shownAll (tD zs))) = true
  rw [shown_texts]
  unfold tupleText
  have hj : PyData.strOk (Str.join ", " (zs.map reprText)) = true := by
    rw [← TL.join_eq]
    exact ok_join (by decide +kernel) fun y hy => by
      obtain ⟨z, hz, rfl⟩ := List.mem_map.mp hy
      exact repr_ok (h z hz)
  rw [ok_app, ok_app, hj]
  split <;> decide +kernel
end Kl
namespace Kl
open PySem PySem.Spec PyProof.Rows L2 Gx Mx
theorem short_texts : ∀ zs : List Str, (∀ z ∈ zs, PyData.strOk z = true) → PyData.leavesShortAll 13 (tD zs) = true
  | [], _ => by simp [tD, PyData.leavesShortAll]
  | z :: zs, h => by
    have ih := short_texts zs fun y hy => h y (List.mem_cons_of_mem _ hy)
    have hz := (strOk_iff z).mp (h z List.mem_cons_self)
    unfold tD at ih ⊢
    rw [List.map_cons, PyData.leavesShortAll, ih, PyData.leavesShort]
    rw [List.all_eq_true.mpr fun c hc => decide_eq_true (Nat.lt_trans (hz c hc) (by decide))]
    rfl
/-- the lines of kinds, a value -/
theorem any_lines {K : PySem.W.Frag} {H : Hp} {d p : Addr} {leaf : Str} {M : Mak} (v : Vld leaf M) (e : H p = some (.tup ((linesK leaf M).map V.str))) (n : p ≠ d) : AnyV K d H (.ref p) (.tuple (tD (linesK leaf M))) := by
  have hl := line_ok v
  have lM := v.len
  have ok : ∀ z ∈ linesK leaf M, PyData.strOk z = true := fun z hz => (hl z hz).1
  have sm := sm_texts (n := 7) (B := 100) (line_ok v) (by unfold linesK; rw [List.length_cons, List.length_map]; omega)
  have ls : PyData.leavesShort 13 (.tuple (tD (linesK leaf M))) = true := by
    rw [PyData.leavesShort]
    exact short_texts _ ok
  have sl := PyData.shown_le 13 (by decide) _ ls
  have wt := sm.wt
  refine .dat (fun H' s => .tup (.inl (.inl (s _ _ n e fun _ => nofun))) (dp_texts _)) (PyData.hasDict_of_canLay _ sm.lay) sm.lay (Nat.le_trans sm.dp (by decide)) sm.sh (by omega) (tup_ok ok)
    fun H' s => ⟨_, false, .base (.tup (s _ _ n e fun _ => nofun)), kit_ty (by decide +kernel), by simp, kit_ty (by decide +kernel)⟩
end Kl

set_option maxRecDepth 100000
set_option maxHeartbeats 4000000
namespace Kl
open PySem PySem.Spec PyProof.Rows L2 Gx Mx LamX
/-! ### the odd values -/
section
variable {K : PySem.W.Frag} {H : Hp} {d : Addr}
theorem any_lit {z : Str} (c : PyData.strOk z = true) (l : (PyData.shown (.str z)).length ≤ 20000) : AnyV K d H (.str z) (.str z) :=
  .dat (fun _ _ => .str z) rfl c (Nat.zero_le _) rfl l (repr_ok c) (fun H' s => ⟨_, true, .base (.str z), kit_ty (by decide +kernel), by simp, kit_ty (by decide +kernel)⟩)
theorem any_true : AnyV K d H (.bl true) (.bool true) := .dat (fun _ _ => .bl true) rfl (by decide +kernel) (by decide +kernel) (by decide +kernel) (by decide +kernel) (by decide +kernel) (fun H' s => ⟨_, false, .base (.bl true), kit_ty (by decide +kernel), by simp, kit_ty (by decide +kernel)⟩)
theorem any_tup0 {t : Addr} (e : H t = some (.tup [])) (n : t ≠ d) : AnyV K d H (.ref t) (.tuple []) :=
  .dat (fun H' s => .tup (.inl (.inl (s _ _ n e fun _ => nofun))) .nil) rfl (by decide +kernel) (by decide +kernel) (by decide +kernel) (by decide +kernel) (by decide +kernel) (fun H' s => ⟨_, false, .base (.tup (s _ _ n e fun _ => nofun)), kit_ty (by decide +kernel), by simp, kit_ty (by decide +kernel)⟩)
theorem any_leafq {leaf : Str} (hl : leaf ∈ POOL) : AnyV K d H (.str (leaf ++ "q")) (.str (leaf ++ "q")) := by
  have e : POOL.all (fun z => PyData.strOk (z ++ "q") && decide ((PyData.shown (.str (z ++ "q"))).length ≤ 20000)) = true := by decide +kernel
  have e2 := List.all_eq_true.mp e leaf hl
  rw [Bool.and_eq_true] at e2
  exact any_lit e2.1 (of_decide_eq_true e2.2)
end
/-! ### .. are no names -/
theorem no_str {ns : List Str} {z : Str} (h : ∀ y ∈ ns, y ∈ POOL) (hz : z ∉ POOL) : inD ns (.str z) = false := by
  rw [inD_str, decide_eq_false fun q => hz (h z q)]
theorem no_dat {ns : List Str} {od : PyData} (h : ∀ z, od ≠ .str z) : inD ns od = false := by
  cases c : inD ns od with
  | false => rfl
  | true =>
    obtain ⟨z, _, e⟩ := inD_true c
    exact absurd e (h z)
theorem leafq_no {leaf : Str} (hl : leaf ∈ POOL) : (leaf ++ "q" : Str) ∉ POOL := by
  have e : POOL.all (fun z => decide ((z ++ "q" : Str) ∉ POOL)) = true := by decide +kernel
  exact of_decide_eq_true (List.all_eq_true.mp e leaf hl)
theorem lits_no : ("" : Str) ∉ POOL ∧ ("q" : Str) ∉ POOL ∧ ("A" : Str) ∉ POOL ∧ ("leaf a" : Str) ∉ POOL := by decide +kernel
end Kl

set_option maxRecDepth 100000
/-! ### own rule: a, b, .. = l, l a list of that length -/
namespace L2
open PySem PySem.Spec PyProof.Rows
set_option maxHeartbeats 4000000
section
variable {prog : Program} {w : World} {A : Around} {E : Value → Shared → Prop} {s : Shared}
theorem draw_lst {it l : Addr} {items : Array Value} (hne : l ≠ it) : ∀ (n i : Nat) (s : Shared) (Q : List Value → Shared → Prop), s.heap.IsListIter it l i → s.heap.IsList l items → i + n ≤ items.size →
    (∀ h', h'.IsListIter it l (i + n) → Heap.SameBut it s.heap h' → Q ((items.toList.drop i).take n) { s with heap := h' }) → wpAny (model prog w) A (draw (.ref it) n) Q E s
  | 0, i, s, Q, hit, _, _, hQ => by
    refine wpAny_pure ?_
    have h0 := hQ s.heap hit (Heap.SameBut.refl ..)
    rw [List.take_zero] at h0
    exact h0
  | n + 1, i, s, Q, hit, hl, hle, hQ => by
    have hlt : i < items.size := by omega
    refine wpAny_bind (wpAny_pyNext_list_item hit hl (x := items[i]) (by simp [hlt]) fun g1 hit1 hs1 => ?_)
    refine wpAny_bind (wpAny_holding (draw_lst hne n (i + 1) _ _ hit1 (hl.extBut hs1.extBut hne) (by omega) fun g2 hit2 hs2 => wpAny_pure ?_))
    have ed : items.toList.drop i = items[i] :: items.toList.drop (i + 1) := by
      have hl2 : i < items.toList.length := by simpa using hlt
      rw [List.drop_eq_getElem_cons hl2]
      simp
    have h1 := hQ g2 (by rw [show i + (n + 1) = i + 1 + n by omega]; exact hit2) (hs1.trans hs2)
    rw [ed, List.take_succ_cons] at h1
    exact h1
theorem unpackItems_lst {l : Addr} {items : Array Value} {Q : List Value → Shared → Prop} (hh : A.handled = none) (hl : s.heap.IsList l items)
    (hQ : ∀ h', Heap.ExtBut s.heap.objs.size s.heap h' → Q items.toList { s with heap := h' }) : wpAny (model prog w) A (unpackItems (.ref l) items.size none) Q E s := by
  have hlt : l ≠ s.heap.objs.size := by
    obtain ⟨o, ho, _⟩ := id hl
    exact Nat.ne_of_lt (Heap.lt_size ho)
  unfold unpackItems
  refine wpAny_bind ?_
  unfold notIterableAtAll
  refine wpAny_bind (wpAny_specialOf hl.typeIs F.slot_list_iter.lookup ?_)
  refine wpAny_pure ?_
  simp only [Bool.false_eq_true, if_false]
  refine wpAny_bind (wpAny_holding (wpAny_pyIter_list hl ?_))
  have hl0 : (s.heap.push { cls := .type "list_iterator", data := .fields #[.ref l, .int 0 0] }).IsList l items := hl.at fun o e => Heap.get?_push_of_some _ e
  refine wpAny_bind (wpAny_holding (draw_lst hlt items.size 0 _ _ ⟨_, Heap.get?_push_size _ rfl, rfl, rfl⟩ hl0 (by omega) fun g1 hit1 hs1 => ?_))
  have hall : (items.toList.drop 0).take items.size = items.toList := by
    rw [List.drop_zero]
    exact List.take_of_length_le (by simp)
  rw [hall, if_neg (by simp)]
  have hl1 : g1.IsList l items := hl0.extBut hs1.extBut hlt
  refine wpAny_bind (wpAny_holding (wpAny_pyNext_list_end hh hit1 hl1 (by simp) fun g2 he2 => ?_))
  simp only [Option.isSome_none, Bool.false_eq_true, if_false]
  exact wpAny_pure (hQ g2 fun b o hb e => he2 b o hb (hs1.extBut b o hb (Heap.get?_push_of_some _ e)))
theorem assign_Tuple_lst {env : Env} {elts : List Expr} {x1} {pos : Pos} {l : Addr} {items : Array Value} {Q : Unit → Shared → Prop} (hh : A.handled = none) (hl : s.heap.IsList l items)
    (hn : (assignEach elts env).length = items.size) (hstar : (assignEach elts env).findIdx? (·.1) = none)
    (h : ∀ h', Heap.ExtBut s.heap.objs.size s.heap h' → wpAny (model prog w) A (assignInOrder ((assignEach elts env).map (·.2)) items.toList) Q E { s with heap := h' }) :
    wpAny (model prog w) A (assign (.Tuple elts x1 pos) env (.ref l)) Q E s := by
  rw [assign_Tuple]
  refine wpAny_bind (wpAny_standAt ?_)
  unfold unpack
  rw [hn, hstar]
  exact wpAny_bind (wpAny_holding (unpackItems_lst hh hl h))
end
/-- (a, b, ..) = a list of that length -/
def gLstU (K : PySem.W.Frag) (n : Nat) (t : TGs) : TG := fun v σ H Q => ∃ a xs, v = .ref a ∧ SqL K H a xs ∧ xs.length = n ∧ t xs σ H Q
theorem pg_lstU {X : Cx} {pos : Pos} {es : List Expr} {k : Nat} {t : TGs} {n : Nat} (hc : X.calm = true) (h : PGs X es t)
    (hn : (assignEach es X.env).length = n := by rfl) (hst : (assignEach es X.env).findIdx? (·.1) = none := by rfl) : PG X (.Tuple es k pos) (gLstU X.K n t) := by
  refine ⟨fun pins s σ H v u Q I r hw => ?_⟩
  obtain ⟨a, xs, e1, hq, el, hw⟩ := hw
  subst e1
  cases r
  obtain ⟨its, rv, hl, hz⟩ := I.list hq
  refine assign_Tuple_lst (I.ok.hd hc) hl.isList (by simp [hn, ← el, rv.length]) hst fun h' hx => ?_
  have I1 : Inv X pins σ H { s with heap := h' } := I.kept (t' := s.toks) fun b o e => hx b o (Nat.ne_of_lt (Heap.lt_size e)) e
  exact h.run pins _ σ H xs _ Q I1 (by simpa using rv) hw
end L2

set_option maxRecDepth 100000
set_option maxHeartbeats 4000000
namespace Kl
open PySem PySem.Spec PyProof.Rows L2 Gx Mx LamX
section
variable {P : Program} {w : World} {K : PySem.W.Frag} {mg : Str → Option Value} {base : Heap}
/-! ### the law -/
def spLaw (K : PySem.W.Frag) (Tb : List (Addr × Str)) : Sp := fun vs H Q _ => ∃ (a : Addr) (ns : List Int), vs = [.ref a] ∧ SqL K H a (ns.map V.int) ∧ ns.length ≤ 63 ∧ Tabs Tb H ∧ ∀ H', Q (.bl true) H'
theorem ok_law {f c1 P1 c2 P2 c3 P3 : Addr} {fd : FuncData} {Tb : List (Addr × Str)} (F : Fun K "law" "law" s_law f fd) (gl : mg "law" = some (.ref f)) (La : Lam K mg base Tb "_law_asked_right" c1 P1) (Lr : Lam K mg base Tb "_law_renamed_right" c2 P2) (Ll : Lam K mg base Tb "law" c3 P3)
    (T : Top K mg) (hno : ∀ CU Co : Addr, mg "UnknownName" = some (.ref CU) → mg "InvalidOperation" = some (.ref Co) → PySem.W.exmOne K (.ref Co) (.ref CU) = some false) : FnG P w K mg base CX0 13 f fd ["_law_script"] (spLaw K Tb) := by
  obtain ⟨C, TC⟩ := T.c_Kinds
  obtain ⟨Co, XO, XC, te⟩ := T.p_InvalidOperation
  obtain ⟨CU, fI, fdI, TX, FX⟩ := T.x_UnknownName
  have R : Ers K mg CU fI Co := ⟨TX, XO, te, hno CU Co TX.gC XO.gC⟩
  have kI : CalI P w K mg base C 11 ["self", "leaf", "makings"] (spInit C) := by
    obtain ⟨f, fd, m, F, b⟩ := TC.made
    exact ⟨f, fd, m, (ok_init F T TC).mono (by decide), b⟩
  have ci : Cal P w K mg base 12 "_law_dice" ["_law_script", "_law_spot"] (spDice K) := (T.d_law_dice.cal fun f fd F => ok_dice F T).mono (by decide)
  have ck : Cal P w K mg base 12 "_law_kinds" ["_law_dice_here", "_law_most"] spLKinds := (T.d_law_kinds.cal fun f fd F => ok_lkinds F T).mono (by decide)
  have cp : Cal P w K mg base 12 "_law_pick" ["_law_dice_here", "_law_items"] (spPick K) := (T.d_law_pick.cal fun f fd F => ok_pick F T).mono (by decide)
  have ca : CalG P w K mg base 12 "_law_asked_right" ["_law_dice_here", "_law_kinds_here", "_law_odd"] (spAK K C Tb) := (Def.calGL T.d_law_asked_right fun f fd g F => ok_ak F (La.of g F) La.tb La.mem La.one T TC R FX XC).up (by decide)
  have cr : CalG P w K mg base 12 "_law_renamed_right" ["_law_dice_here", "_law_kinds_here", "_law_odd"] (spRR K C Tb) := Def.calGL T.d_law_renamed_right fun f fd g F => ok_rr (fdI := fdI) F (Lr.of g F) Lr.tb Lr.mem Lr.one T TC R XC
  have kLin : CalP P w K mg base C "lines" 11 (spKLin C) := (TC.p_lines.cal fun f fd F => ok_klin F T TC).mono (by decide)
  have cgv : CalM P w K mg base C "__getitem__" 1 ["self", "name"] (spKGet C) := TC.m_getitem.cal fun f fd F => ok_kget F T TC
  have kUse : CalM P w K mg base C "users" 12 ["self", "name"] (spKUse C) := (TC.m_users.cal fun f fd F => ok_kuse F T TC).mono (by decide)
  have cl : CalMY P w K mg base C "losers" 7 ["self", "name", "winner"] (spKLosX K C CU Co) := TC.m_losers.calY fun f fd F => ok_klosX F T TC TX FX XO XC
  have crn : CalMY P w K mg base C "renamed" 8 ["self", "names"] (spKRenX K C Co) := TC.m_renamed.calY fun f fd F => ok_krenX F T TC XO XC
  have kEq : CalM P w K mg base C "__eq__" 10 ["self", "other"] (spKEq K C) := (TC.m_eq.cal fun f fd F => ok_keq F T TC).mono (by decide)
  refine okGL F (Ll.of gl F) sc_law (fun vs H Q E h => ?_) (fun A outer s H vs Q E hg hr h => ?_)
  · obtain ⟨a, ns, rfl, _⟩ := h
    rfl
  · obtain ⟨a, ns, rfl, hS, hlen, hTb, q⟩ := h
    have hu := hu_of hr
    refine ⟨_, pss_cut (ps_for PassesOwn.never rfl (pi_range1 (by rfl) T.b_range (pa_cons (pe_callB (call_max2 rfl) (by rfl) T.b_max (by decide +kernel) (pa_cons pe_int (pa_cons
          (pe_callB (call_min2 rfl) (by rfl) T.b_min (by decide +kernel) (pa_cons pe_int (pa_cons (pe_callB call_len_seq (by rfl) T.b_len PySem.boot_len (pa_cons (pv 0) pa_nil)) pa_nil))) pa_nil))) pa_nil))
          (pg_name (i := 1) sc_law.nd rfl (.inl rfl))
        (pss_cut (ps_set (i := 2) sc_law.nd rfl (.inl rfl) (pe_cal ci hr (by rfl) (pa_cons (pv 0) (pa_cons (pv 1) pa_nil)))) (pss_cut (ps_asg (pe_cal ck hr (by rfl) (pa_cons (pv 2) (pa_cons pe_int pa_nil))) (pg_lstU (n := 2) rfl (pgs_cons (pg_name (i := 3) sc_law.nd rfl (.inl rfl)) (pgs_cons (pg_name (i := 4) sc_law.nd rfl (.inl rfl)) pgs_nil)))) (pss_cut (ps_set (i := 5) sc_law.nd rfl (.inl rfl) (pe_makeC kI hr (by rfl) TC.gC (pa_cons (pv 3) (pa_cons (pv 4) pa_nil)))) (pss_cut (ps_set (i := 6) sc_law.nd rfl (.inl rfl) (pe_cal cp hr (by rfl) (pa_cons (pv 2) (pa_cons (pe_lst (pa_cons pe_non (pa_cons pe_int (pa_cons pe_bl (pa_cons pe_str (pa_cons pe_str (pa_cons pe_str (pa_cons pe_str (pa_cons (pe_tup pa_nil) (pa_cons (pe_tup (pa_cons pe_str pa_nil)) (pa_cons (pe_lst (pa_cons pe_str pa_nil)) (pa_cons pe_dnewK (pa_cons (pe_propC (pv 5) TC.cl kLin hr rfl) (pa_cons (pe_op op_add_str (pv 3) pe_str) pa_nil)))))))))))))) pa_nil)))) (pss_cut (ps_if (PW.pt (pw_or (pt_not (pt_val (pe_calG ca hg hr (by rfl) (pa_cons (pv 2) (pa_cons (pv 5) (pa_cons (pv 6) pa_nil)))))) (pw_or1 (pt_not (pt_val (pe_calG cr hg hr (by rfl) (pa_cons (pv 2) (pa_cons (pv 5) (pa_cons (pv 6) pa_nil))))))))) (pss_one (ps_ret pe_bl)) pss_nil) (pss_one (ps_if (pt_cmpR (op_neM kEq TC.ne TC.ob (hr.mono (by decide))) (pv 5) (pe_makeC kI hr (by rfl) TC.gC (pa_cons (pv 3) (pa_cons (pv 4) pa_nil))) (by rfl)) (pss_one (ps_ret pe_bl)) pss_nil))))))))
      (pss_cut (ps_set (i := 7) sc_law.nd rfl (.inr rfl) (pe_makeC kI hr (by rfl) TC.gC (pa_cons pe_str (pa_cons pe_dnewK pa_nil))))
      (pss_cut (ps_set (i := 8) sc_law.nd rfl (.inl rfl) (pe_lst (pa_cons (pe_tl7 (k := 9) T R (by rfl) hg (hr.mono (by decide)) Ll.tb rfl Ll.mem Ll.one (lamS_by (sc := defScope s_law) (by decide +kernel)) rfl (fun _ _ _ _ _ => rfl) (fun A outer s H E f c' hr' => pe_methXo (pv 7) TC.cl cl (hr'.mono (by decide)) (fun σ => passAt (takes_of rfl rfl rfl rfl) σ) (pa_cons pe_str (pa_cons pe_str pa_nil)))) pa_nil)))
      (pss_cut (ps_expr (pe_bm PySem.F.plainAttrs_list PySem.F.slot_list_append PySem.F.type_list_append mt_append (pv 8) (pa_cons (pe_tl7 (k := 9) T R (by rfl) hg (hr.mono (by decide)) Ll.tb rfl Ll.mem Ll.one (lamS_by (sc := defScope s_law) (by decide +kernel)) rfl (fun _ _ _ _ _ => rfl) (fun A outer s H E f c' hr' => pe_methXo (pv 7) TC.cl crn (hr'.mono (by decide)) (fun σ => passAt (takes_of rfl rfl rfl rfl) σ) (pa_cons (pe_disp (pps_cons pe_str pe_str pps_nil) rfl rfl (by decide) (by decide)) pa_nil))) pa_nil)))
      (pss_one (ps_ret (pe_and (pe_cmpR (op_eqD hr.units) (pv 8) (pe_lst (pa_cons pe_str (pa_cons pe_str pa_nil))) (by rfl)) (pe_and (pe_cmpR (op_eqD hr.units) (pe_ixM cgv (hr.mono (by decide : 2 ≤ 12)) (pv 7) pe_str (fun _ _ => rfl)) (pe_tup pa_nil) (by rfl)) (pe_one (pe_cmpR (op_eqD hr.units) (pe_methC (pl := _) (pv 7) TC.cl kUse hr (pa_cons pe_str pa_nil)) (pe_tup pa_nil) (by rfl)))))))))), ?_⟩
    have big : 100000 ≤ sizeLine := by decide
    refine ⟨fun σ' G => ∃ (y1 y2 y3 y4 y5 y6 : Option V), σ' = [some (.ref a), y1, y2, y3, y4, y5, y6, none, none] ∧ Tabs Tb G, ?_, ?_⟩
    · refine ⟨_, rfl, a, _, rfl, .inl hS, _, _, rfl, _, _, rfl, _, rfl, ?_, ?_, ?_⟩
      · split <;> split <;> omega
      · split <;> split <;> omega
      refine for_range (lo := 0) (fun i σ' G => ∃ (y1 y2 y3 y4 y5 y6 : Option V), σ' = [some (.ref a), y1, y2, y3, y4, y5, y6, none, none] ∧ SqL K G a (ns.map V.int) ∧ Tabs Tb G) ⟨_, _, _, _, _, _, rfl, hS, hTb⟩ (fun i σ' G hi hP => ?_) (fun σ' G hP => by obtain ⟨y1, y2, y3, y4, y5, y6, e, _, t⟩ := hP; exact ⟨y1, y2, y3, y4, y5, y6, e, t⟩)
      obtain ⟨y1, y2, y3, y4, y5, y6, rfl, hSG, t0⟩ := hP
      -- the dice
      refine ⟨fun σ' G' => ∃ (y1 : Option V) (d : Addr), σ' = [some (.ref a), y1, some (.ref d), y3, y4, y5, y6, none, none] ∧ DiceAt G' d ∧ G d = none ∧ ExtX d G G' ∧ Tabs Tb G', ?_, ?_⟩
      · refine ⟨_, rfl, _, rfl, a, ns, i, ?_, hSG, hlen, ?_, fun d x0 b0 nd => ⟨_, d, rfl, ⟨x0, b0, 0, upd_same⟩, nd, .of (same_new (Same.refl G) nd), t0.ext (same_new (Same.refl G) nd)⟩⟩
        · show [V.ref a, V.int (0 + (i : Int))] = _
          rw [Int.zero_add]
        · have : i < 5 := by
            revert hi
            split <;> split <;> omega
          omega
      rintro σ' G1 ⟨y1, d, rfl, hd, nd, x1, t1⟩
      -- kinds
      refine ⟨fun σ' G' => ∃ (mk : Addr) (leaf : Str) (kvs : List (Key × V)) (M : Mak), σ' = [some (.ref a), y1, some (.ref d), some (.str leaf), some (.ref mk), y5, y6, none, none] ∧ G' mk = some (.dK kvs) ∧ MakAt G' kvs M ∧ Vld leaf M ∧ DiceAt G' d ∧ ExtX d G G' ∧ Tabs Tb G', ?_, ?_⟩
      · exact ⟨_, rfl, d, rfl, hd, fun p mk leaf kvs M G2 ep em hM hV np nm npm sx hd2 => ⟨p, _, rfl, .inl (.inl ep), rfl, _, _, rfl, _, _, rfl, rfl, mk, leaf, kvs, M, rfl, em, hM, hV, hd2, x1.trans (ext_ofX sx), tabs_dice t1 hd sx⟩⟩
      clear hd x1 t1
      rintro σ' G2 ⟨mk, leaf, kvs, M, rfl, em, hM, hV, hd, x2, t2⟩
      refine ⟨fun σ' G' => ∃ (x md : Addr) (M' : Mak) (ks : List Str), σ' = [some (.ref a), y1, some (.ref d), some (.str leaf), some (.ref mk), some (.ref x), y6, none, none] ∧ KindsAt C G' x md leaf M' ks ∧ OrdOf M M' ∧ IsNames leaf (keysOf M') ks ∧ Same G2 G', ?_, ?_⟩
      · refine ⟨_, rfl, _, rfl, fun x dx nx ndx nxx => ⟨x, dx, leaf, mk, kvs, M, rfl, upd_same, ?_, ?_, hV, fun G3 md M' ks hK hOr hN nmd keep => ⟨rfl, ?_⟩⟩⟩
        · rw [upd_ne (ne_of_none em nx), upd_ne (ne_of_none em ndx)]
          exact em
        · exact hM.same fun a xs h => h.at fun o e => by rw [upd_ne (ne_of_none e nx), upd_ne (ne_of_none e ndx)]; exact e
        · obtain ⟨s1, _⟩ := made nx ndx nmd keep
          exact ⟨x, md, M', ks, rfl, hK, hOr, ⟨hN.srt, hN.nd, fun z => by rw [hN.mem, hOr.keys]⟩, s1⟩
      rintro σ' G3 ⟨x, md, M', ks, rfl, hK, hOr, hN, s23⟩
      have hV' := hOr.vld hV
      have hd3 := dice_exN (.of s23) hd
      have t3 := t2.ext s23
      have em3 := s23 _ _ em
      have hM3 : MakAt G3 kvs M := hM.same fun _ _ q => q.mono s23
      have x3 := x2.trans (.of s23)
      clear hd t2 em hM x2 s23
      have kpool : ∀ y ∈ ks, y ∈ POOL := fun y hy => by
        rcases (hN.mem y).mp hy with rfl | h
        · exact hV'.lf
        · exact hV'.keys y h
      -- an odd value
      refine ⟨fun σ' G' => ∃ (v : V) (od : PyData), σ' = [some (.ref a), y1, some (.ref d), some (.str leaf), some (.ref mk), some (.ref x), some v, none, none] ∧ AnyV K d G' v od ∧ inD ks od = false ∧ ExtX d G3 G' ∧ Tabs Tb G' ∧ DiceAt G' d, ?_, ?_⟩
      · refine ⟨_, rfl, Nat.zero_le _, fun e0 ne0 => ⟨by show 1 ≤ sizeLine; omega, fun ta nta => ⟨by show 1 ≤ sizeLine; omega, fun la nla => fun d0 nd0 => ?_⟩⟩⟩
        have h0 := dice_ne hd3 ne0
        have s1 := same_new (o := .tup []) (Same.refl G3) ne0
        have ee0 : (upd G3 e0 (.tup [])) e0 = some (.tup []) := upd_same
        have hd4 := dice_exN (.of s1) hd3
        generalize upd G3 e0 (.tup []) = J1 at s1 ee0 hd4 nta nla nd0
        have ha := dice_ne hd4 nta
        have s2 := same_new (o := .tup [.str "a"]) (Same.refl J1) nta
        have eta : (upd J1 ta (.tup [.str "a"])) ta = some (.tup [.str "a"]) := upd_same
        have hd5 := dice_exN (.of s2) hd4
        generalize upd J1 ta (.tup [.str "a"]) = J2 at s2 eta hd5 nla nd0
        have hl := dice_ne hd5 nla
        have s3 := same_new (o := .lst [.str "a"]) (Same.refl J2) nla
        have ela : (upd J2 la (.lst [.str "a"])) la = some (.lst [.str "a"]) := upd_same
        have hd6 := dice_exN (.of s3) hd5
        generalize upd J2 la (.lst [.str "a"]) = J3 at s3 ela hd6 nd0
        have h0d := dice_ne hd6 nd0
        have s4 := same_new (o := .dK []) (Same.refl J3) nd0
        have ed0 : (upd J3 d0 (.dK [])) d0 = some (.dK []) := upd_same
        have hd7 := dice_exN (.of s4) hd6
        generalize upd J3 d0 (.dK []) = J4 at s4 ed0 hd7
        have s14 : Same G3 J4 := fun b o e => s4 _ _ (s3 _ _ (s2 _ _ (s1 _ _ e)))
        have hK4 := hK.same s14
        obtain ⟨dx, nt, kv, hx, hmd, hMk, hn⟩ := id hK4
        refine ⟨_, rfl, x, dx, _, rfl, hx, x, md, leaf, M', ks, rfl, hK4, hV', fun pl J5 s5 el => ?_⟩
        have npl : pl ≠ d := fun w => by
          obtain ⟨b1, b2, b3, e⟩ := dice_exN (.of s5) hd7
          rw [w, e] at el
          cases el
        have hd8 := dice_exN (.of s5) hd7
        refine ⟨_, rfl, _, _, rfl, rfl, ?_, by show 13 ≤ sizeLine; omega, fun lo nlo => ?_⟩
        · have := pool_len hV'.lf
          exact Nat.le_trans (Nat.add_le_add this (show ("q" : Str).length ≤ 8 by decide +kernel)) (by decide)
        have hod := dice_ne hd8 nlo
        have s6 := same_new (o := .lst [.non, .int 0, .bl true, .str "", .str "q", .str "A", .str "leaf a", .ref e0, .ref ta, .ref la, .ref d0, .ref pl, .str (leaf ++ "q")]) (Same.refl J5) nlo
        have elo : (upd J5 lo (.lst [.non, .int 0, .bl true, .str "", .str "q", .str "A", .str "leaf a", .ref e0, .ref ta, .ref la, .ref d0, .ref pl, .str (leaf ++ "q")])) lo = some (.lst [.non, .int 0, .bl true, .str "", .str "q", .str "A", .str "leaf a", .ref e0, .ref ta, .ref la, .ref d0, .ref pl, .str (leaf ++ "q")]) := upd_same
        have hd9 := dice_exN (.of s6) hd8
        generalize upd J5 lo (.lst [.non, .int 0, .bl true, .str "", .str "q", .str "A", .str "leaf a", .ref e0, .ref ta, .ref la, .ref d0, .ref pl, .str (leaf ++ "q")]) = J6 at s6 elo hd9
        refine ⟨d, _, _, rfl, hd9, .inl ⟨lo, rfl, hod, .inl (.inl (.inl elo))⟩, (fun h => by cases h), by show 13 ≤ 100000; omega, fun v b1 b2 b3 hv => ?_⟩
        have sx : SameX d J6 (upd J6 d (.lst [.int b1, .int b2, .int b3])) := (SameX.refl d J6).atd
        have s16 : Same G3 J6 := fun b o e => s6 _ _ (s5 _ _ (s14 _ _ e))
        have xx : ExtX d G3 (upd J6 d (.lst [.int b1, .int b2, .int b3])) := (ExtX.of s16).trans (ext_ofX sx)
        have tt := tabs_dice (t3.ext s16) hd9 sx
        have f0 := sx _ _ h0 (s6 _ _ (s5 _ _ (s4 _ _ (s3 _ _ (s2 _ _ ee0)))))
        have fa := sx _ _ ha (s6 _ _ (s5 _ _ (s4 _ _ (s3 _ _ eta))))
        have fl := sx _ _ hl (s6 _ _ (s5 _ _ (s4 _ _ ela)))
        have fd0 := sx _ _ h0d (s6 _ _ (s5 _ _ ed0))
        have fpl := sx _ _ npl (s6 _ _ el)
        have pa : ("a" : Str) ∈ POOL := by decide +kernel
        obtain ⟨l1, l2, l3, l4⟩ := lits_no
        have hdE : DiceAt (upd J6 d (.lst [.int b1, .int b2, .int b3])) d := dice_new b1 b2 b3
        simp only [List.mem_cons, List.not_mem_nil, or_false] at hv
        rcases hv with rfl | rfl | rfl | rfl | rfl | rfl | rfl | rfl | rfl | rfl | rfl | rfl | rfl
        · exact ⟨_, _, rfl, any_non, no_dat nofun, xx, tt, hdE⟩
        · exact ⟨_, _, rfl, any_zero, no_dat nofun, xx, tt, hdE⟩
        · exact ⟨_, _, rfl, any_true, no_dat nofun, xx, tt, hdE⟩
        · exact ⟨_, _, rfl, any_empty, no_str kpool l1, xx, tt, hdE⟩
        · exact ⟨_, _, rfl, any_lit (by decide +kernel) (by decide +kernel), no_str kpool l2, xx, tt, hdE⟩
        · exact ⟨_, _, rfl, any_lit (by decide +kernel) (by decide +kernel), no_str kpool l3, xx, tt, hdE⟩
        · exact ⟨_, _, rfl, any_lit (by decide +kernel) (by decide +kernel), no_str kpool l4, xx, tt, hdE⟩
        · exact ⟨_, _, rfl, any_tup0 f0 h0, no_dat nofun, xx, tt, hdE⟩
        · exact ⟨_, _, rfl, any_tup1 pa fa ha, no_dat nofun, xx, tt, hdE⟩
        · exact ⟨_, _, rfl, any_lst1 pa fl hl, no_dat nofun, xx, tt, hdE⟩
        · exact ⟨_, _, rfl, .emp fd0 h0d, no_dat nofun, xx, tt, hdE⟩
        · exact ⟨_, _, rfl, any_lines hV' fpl npl, no_dat nofun, xx, tt, hdE⟩
        · exact ⟨_, _, rfl, any_leafq hV'.lf, no_str kpool (leafq_no hV'.lf), xx, tt, hdE⟩
      rintro σ' G4 ⟨v, od, rfl, hv, hno2, x4, t4, hd4⟩
      refine ⟨fun σ' G' => σ' = [some (.ref a), y1, some (.ref d), some (.str leaf), some (.ref mk), some (.ref x), some v, none, none] ∧ ExtX d G3 G' ∧ Tabs Tb G' ∧ DiceAt G' d, ?_, ?_⟩
      · have hK4 := hK.exX x4 hd3
        refine ⟨_, rfl, _, rfl, _, rfl, d, x, md, leaf, M', ks, v, od, rfl, hd4, t4, hK4, hV', hN, hv, hno2, fun G5 x5 t5 hd5 => ⟨_, rfl, ?_⟩⟩
        show (if (!true) = true then _ else _)
        rw [if_neg (by decide)]
        refine ⟨_, rfl, _, rfl, _, rfl, d, x, md, leaf, M', ks, v, od, rfl, hd5, t5, hK4.exX x5 hd4, hV', hN, hv.ext x5, hno2, fun G6 x6 t6 hd6 => ⟨_, rfl, ?_⟩⟩
        show (if (!true) = true then _ else _)
        rw [if_neg (by decide)]
        exact ⟨rfl, (x4.trans x5).trans x6, t6, hd6⟩
      clear hv x4 t4 hd4
      rintro σ' G5 ⟨rfl, x5, t5, hd5⟩
      have hK5 := hK.exX x5 hd3
      have nmd : mk ≠ d := fun w => by
        obtain ⟨b1, b2, b3, e⟩ := hd3
        rw [w, e] at em3
        cases em3
      have em5 := x5 _ _ nmd em3 fun _ => nofun
      have hM5 : MakAt G5 kvs M := hM3.same fun b xs q => q.at fun o e => by
        obtain ⟨ob, dn, e2⟩ := q
        rw [e2] at e
        cases e
        exact x5 _ _ (fun w => by obtain ⟨b1, b2, b3, e3⟩ := hd3; rw [w, e3] at e2; cases e2) e2 fun _ => nofun
      have ads : a ≠ d ∨ ∃ o, K.lookup a = some o := by
        rcases hSG with (h | ⟨o, h⟩) | ⟨o, its, n, h, _⟩
        · exact .inl (ne_of_none h nd)
        · exact .inl (ne_of_none h nd)
        · exact .inr ⟨o, h⟩
      have sqE : ∀ {G' : Hp}, ExtX d G G' → SqL K G' a (ns.map V.int) := fun {G'} e => by
        rcases hSG with (h | ⟨o, h⟩) | h
        · exact .inl (.inl (e _ _ (ne_of_none h nd) h fun _ => nofun))
        · exact .inl (.inr ⟨o, e _ _ (ne_of_none h nd) h fun _ => nofun⟩)
        · exact .inr h
      obtain ⟨dx0, nt, kv, hx, hmd, hMk, hn⟩ := id hK5
      refine ⟨_, rfl, _, rfl, _, rfl, fun x2 dx nx ndx nxx => ⟨x2, dx, leaf, mk, kvs, M, rfl, upd_same, ?_, ?_, hV, fun G7 md2 M2 ks2 hK2 hOr2 hN2 nmd2 keep => ⟨rfl, ?_⟩⟩⟩
      · rw [upd_ne (ne_of_none em5 nx), upd_ne (ne_of_none em5 ndx)]
        exact em5
      · exact hM5.same fun a xs h => h.at fun o e => by rw [upd_ne (ne_of_none e nx), upd_ne (ne_of_none e ndx)]; exact e
      obtain ⟨s1, _⟩ := made nx ndx nmd2 keep
      obtain ⟨dx2, nt2, kv2, hx2, _⟩ := id hK2
      refine ⟨x, dx0, _, _, rfl, s1 _ _ hx, .ins hx2, x, md, leaf, M', ks, .ref x2, rfl, hK5.same s1, hV', .inl ⟨x2, md2, leaf, M2, ks2, rfl, hK2, hOr2.vld hV, ?_⟩⟩
      rw [decide_eq_true rfl, eqB_ord hV.nd hV.nd hOr hOr2, (eqB_iff hV.nd hV.nd).mpr fun _ => rfl]
      refine ⟨_, rfl, _, rfl, ?_⟩
      show (if (!(true && true)) = true then _ else _)
      rw [if_neg (by decide)]
      exact ⟨_, _, _, _, _, _, rfl, sqE ((x3.trans x5).trans (.of s1)), t5.ext s1⟩
    rintro σ' G ⟨y1, y2, y3, y4, y5, y6, rfl, t0⟩
    -- kinds that are alone
    refine ⟨fun σ' G' => ∃ (x md : Addr) (M' : Mak) (ks : List Str), σ' = [some (.ref a), y1, y2, y3, y4, y5, y6, some (.ref x), none] ∧ KindsAt C G' x md "a" M' ks ∧ Vld "a" M' ∧ IsNames "a" (keysOf M') ks ∧ M' = [] ∧ (["a"] : List Str).Perm ks ∧ Tabs Tb G', ?_, ?_⟩
    · have hV0 : Vld "a" [] := ⟨by decide +kernel, nofun, List.nodup_nil, nofun, fun zs nd hs => Nat.le_trans (nodup_le (L := ["a"]) nd fun z hz => by
        rcases hs z hz with rfl | h
        · exact List.mem_singleton.mpr rfl
        · cases h) (by show 1 ≤ 6; omega)⟩
      refine fun p0 np0 => fun x dx nx ndx nxx => ⟨x, dx, "a", p0, [], [], rfl, upd_same, ?_, .nil, hV0, fun G2 md M' ks hK hOr hN nmd keep => ⟨rfl, ?_⟩⟩
      · rw [upd_ne (ne_of_none upd_same nx), upd_ne (ne_of_none upd_same ndx)]
        exact upd_same
      obtain ⟨s1, _⟩ := made nx ndx nmd keep
      have s2 : Same G G2 := fun b o e => s1 _ _ (same_new (Same.refl G) np0 b o e)
      refine ⟨x, md, M', ks, rfl, hK, hOr.vld hV0, ⟨hN.srt, hN.nd, fun z => by rw [hN.mem, hOr.keys]⟩, ?_, ?_, t0.ext s2⟩
      · cases M' with
        | nil => rfl
        | cons k r => exact absurd ((hOr.keys k.1).mp (List.mem_map.mpr ⟨k, List.mem_cons_self, rfl⟩)) List.not_mem_nil
      refine (List.perm_ext_iff_of_nodup (List.nodup_cons.mpr ⟨List.not_mem_nil, List.nodup_nil⟩) hN.nd).mpr fun z => ?_
      rw [hN.mem, List.mem_singleton]
      constructor
      · exact .inl
      · rintro (h | h)
        · exact h
        · cases h
    clear t0
    rintro σ' G1 ⟨x, md, M', ks, rfl, hK, hV, hN, hM0, hpm, t1⟩
    subst hM0
    have aks : ("a" : Str) ∈ ks := hpm.mem_iff.mp (List.mem_singleton.mpr rfl)
    have pa : ("a" : Str) ∈ POOL := by decide +kernel
    have nok : ∀ z ∈ ks, PyData.strOk z = true := fun z hz => by
      have := hpm.mem_iff.mpr hz
      rw [List.mem_singleton] at this
      rw [this]
      decide +kernel
    have l1 : ks.length = 1 := hpm.length_eq.symm
    -- no making, no losers
    refine ⟨fun σ' G' => ∃ D : Addr, σ' = [some (.ref a), y1, y2, y3, y4, y5, y6, some (.ref x), some (.ref D)] ∧ G' D = some (.lst [.str "operation"]) ∧ ExtN G1 G' ∧ Tabs Tb G' ∧ NewN G1 D, ?_, ?_⟩
    · refine ⟨t1, fun G2 eN t2 => ?_⟩
      have hK2 := hK.exN eN
      obtain ⟨dx, nt, kvs, hx, hmd, hMk, hn⟩ := id hK2
      refine ⟨_, rfl, x, dx, _, rfl, hx, kf_no _ _ _ (by decide) (by decide) (by decide), .inl ⟨x, md, "a", [], ks, .str "a", .str "a", .str "a", .str "a", x, rfl, hK2, hV, nok, any_pool pa, any_pool pa, .inr ⟨"a", rfl, aks, rfl, fun G s => .inr ⟨rfl, by show 1 ≤ sizeLine; omega, fun D hD => ?_⟩⟩⟩⟩
      exact ⟨D, rfl, upd_same, ext_sm (ext_sm eN s) (same_new (Same.refl G) hD), (t2.ext s).ext (same_new (Same.refl G) hD), new_n (ext_sm eN s) hD⟩
    rintro σ' G3 ⟨D, rfl, eD, e3, t3, nD⟩
    -- another name
    refine ⟨fun σ' G' => σ' = [some (.ref a), y1, y2, y3, y4, y5, y6, some (.ref x), some (.ref D)] ∧ G' D = some (.lst [.str "operation", .str "fine"]) ∧ ExtN G1 G' ∧ Tabs Tb G', ?_, ?_⟩
    · refine ⟨_, rfl, ⟨.inl ⟨rfl, _, .inl (.inl eD)⟩, ?_⟩⟩
      refine ⟨t3, fun G4 eN t4 => ?_⟩
      have hK4 := hK.exN (e3.trans eN)
      have eD4 := eN _ _ eD fun _ => nofun
      obtain ⟨dx, nt, kvs, hx, hmd, hMk, hn⟩ := id hK4
      refine ⟨_, rfl, x, dx, _, rfl, hx, kf_no _ _ _ (by decide) (by decide) (by decide), fun nd hnd => ?_⟩
      have s1 := same_new (o := .dK []) (Same.refl G4) hnd
      refine ⟨upd_same, [(.inr "a", .str "b")], rfl, by decide, ?_⟩
      have hup : upd (upd G4 nd (.dK [])) nd (.dK (mergeK [] [(Sum.inr "a", .str "b")])) = upd G4 nd (.dK (imgs (fun _ => "b") ["a"])) := by
        funext b
        by_cases c : b = nd
        · rw [c, upd_same, upd_same]
          rfl
        · rw [upd_ne c, upd_ne c, upd_ne c]
      rw [hup]
      have s2 := same_new (o := .dK (imgs (fun _ => "b") ["a"])) (Same.refl G4) hnd
      have end_ : (upd G4 nd (.dK (imgs (fun _ => "b") ["a"]))) nd = some (.dK (imgs (fun _ => "b") ["a"])) := upd_same
      generalize upd G4 nd (.dK (imgs (fun _ => "b") ["a"])) = G5 at s2 end_
      refine .inr ⟨x, md, nd, "a", [], ks, ["a"], fun _ => "b", rfl, hK4.same s2, hV, hN, end_, ne_of_none hmd hnd, hpm, fun z _ => show ("b" : Str) ∈ POOL by decide +kernel, ?_, fun y md' N N' ns' G6 _ _ _ _ s6 _ => ?_⟩
      · exact ((hpm.map fun _ => ("b" : Str)).nodup_iff).mp (List.nodup_cons.mpr ⟨List.not_mem_nil, List.nodup_nil⟩)
      · have s46 : Same G4 G6 := fun b o e => s6 _ _ (s2 _ _ e)
        exact ⟨D, _, _, rfl, rfl, s46 _ _ eD4, by show 1 < sizeLine; omega, rfl, upd_same, ext_lst (ext_sm (e3.trans eN) s46) nD, tabs_lst (t4.ext s46) (s46 _ _ eD4)⟩
    clear eD e3 t3
    rintro σ' G4 ⟨rfl, eD, e3, t3⟩
    have hK4 := hK.exN e3
    refine ⟨_, rfl, by show 2 ≤ sizeLine; omega, fun l nl => ?_⟩
    have s1 := same_new (o := .lst [.str "operation", .str "fine"]) (Same.refl G4) nl
    have sh : SeqAt.shaped (.list (tD ["operation", "fine"])) = true := by decide +kernel
    refine ⟨.list (tD ["operation", "fine"]), .list (tD ["operation", "fine"]), .lst (.inl (.inl (s1 _ _ eD))) (dp_texts ["operation", "fine"]), .lst (.inl (.inl upd_same)) (dp_texts ["operation", "fine"]), sh, sh, ?_⟩
    rw [PyData.eqv, eqv_texts, decide_eq_true rfl]
    refine ⟨_, rfl, ?_⟩
    show (if true = true then _ else _)
    rw [if_pos rfl]
    have hK5 := hK4.same s1
    obtain ⟨dx, nt, kvs, hx, hmd, hMk, hn⟩ := id hK5
    refine ⟨_, rfl, x, dx, _, rfl, hx, x, md, "a", [], ks, "a", rfl, hK5, aks, fun p H' s2 hp => ?_⟩
    have hp0 : H' p = some (.tup []) := by
      rcases hp with ⟨ps, e, _⟩ | ⟨_, e⟩
      · cases e
      · exact e
    have hK6 := hK5.same s2
    refine ⟨Nat.zero_le _, fun t nt => ?_⟩
    have s3 := same_new (o := .tup []) (Same.refl H') nt
    refine ⟨.tuple [], .tuple [], .tup (.inl (.inl (s3 _ _ hp0))) .nil, .tup (.inl (.inl upd_same)) .nil, by decide +kernel, by decide +kernel, ?_⟩
    rw [show PyData.eqv (.tuple []) (.tuple []) = true by decide +kernel]
    refine ⟨_, rfl, ?_⟩
    show (if true = true then _ else _)
    rw [if_pos rfl]
    have hK7 := hK6.same s3
    obtain ⟨dx, nt2, kvs, hx, hmd, hMk, hn⟩ := id hK7
    refine ⟨_, rfl, x, dx, _, rfl, hx, kf_no _ _ _ (by decide) (by decide) (by decide), x, md, "a", [], ks, "a", rfl, hK7, hV, aks, fun p2 H2 s4 hp2 => ?_⟩
    refine ⟨Nat.zero_le _, fun t2 nt2 => ?_⟩
    have s5 := same_new (o := .tup []) (Same.refl H2) nt2
    refine ⟨.tuple [], .tuple [], .tup (.inl (.inl (s5 _ _ hp2))) .nil, .tup (.inl (.inl upd_same)) .nil, by decide +kernel, by decide +kernel, ?_⟩
    rw [show PyData.eqv (.tuple []) (.tuple []) = true by decide +kernel]
    exact q _
end
end Kl

set_option maxRecDepth 100000
set_option maxHeartbeats 4000000
namespace Kl
open PySem PySem.Spec PyProof.Rows L2 Gx LamX
/-! ### the end -/
theorem all_mk {l : PySem.W.OpenLaw} {w : World} {K : PySem.W.Frag} {h : Heap} {mg : Str → Option Value} {fa : Addr} (X : K.In h) (G : h.Ns mainGlobals mg) (hfa : mg "law" = some (.ref fa))
    {Ce0 fe0 : Addr} {ode0 ane0 : Option Addr} {sle0 : Array (Option Value)} {oce0 kVe0 dce0 pme0 cde0 cte0 : Value}
    {nme0 qne0 : Str} {Ne0 : Addr} {bse0 bme0 : List Value} {sne0 : List Str} {sube0 : List Value} {abe0 : Bool} {cole0 : Option Bool} {dde0 : Option Addr} {k0e0 k1e0 k2e0 k3e0 k5e0 : Option Value}
    {Ce1 fe1 : Addr} {ode1 ane1 : Option Addr} {sle1 : Array (Option Value)} {oce1 kVe1 dce1 pme1 cde1 cte1 : Value}
    {nme1 qne1 : Str} {Ne1 : Addr} {bse1 bme1 : List Value} {sne1 : List Str} {sube1 : List Value} {abe1 : Bool} {cole1 : Option Bool} {dde1 : Option Addr} {k0e1 k1e1 k2e1 k3e1 k5e1 : Option Value}
    {Cy0 : Addr} {nmy0 qny0 : Str} {Ny0 : Addr} {bsy0 bmy0 : List Value} {hdy0 : Bool} {sny0 : List Str} {suby0 : List Value} {aby0 : Bool} {coly0 : Option Bool} {ddy0 : Option Addr} {k0y0 k1y0 k2y0 k3y0 k5y0 : Option Value}
    {f0 : Addr} {od0 an0 : Option Addr} {sl0 : Array (Option Value)} {oc0 kV0 dc0 pm0 cd0 ct0 : Value}
    {f1 : Addr} {od1 an1 : Option Addr} {sl1 : Array (Option Value)} {oc1 kV1 dc1 pm1 cd1 ct1 : Value}
    {f2 : Addr} {od2 an2 : Option Addr} {sl2 : Array (Option Value)} {oc2 kV2 dc2 pm2 cd2 ct2 : Value}
    {f3 : Addr} {od3 an3 : Option Addr} {sl3 : Array (Option Value)} {oc3 kV3 dc3 pm3 cd3 ct3 : Value}
    {f4 : Addr} {od4 an4 : Option Addr} {sl4 : Array (Option Value)} {oc4 kV4 dc4 pm4 cd4 ct4 : Value}
    {f5 : Addr} {od5 an5 : Option Addr} {sl5 : Array (Option Value)} {oc5 kV5 dc5 pm5 cd5 ct5 : Value}
    {f6 : Addr} {od6 an6 : Option Addr} {sl6 : Array (Option Value)} {oc6 kV6 dc6 pm6 cd6 ct6 : Value}
    {f7 : Addr} {od7 an7 : Option Addr} {sl7 : Array (Option Value)} {oc7 kV7 dc7 pm7 cd7 ct7 : Value}
    {f8 : Addr} {od8 an8 : Option Addr} {sl8 : Array (Option Value)} {oc8 kV8 dc8 pm8 cd8 ct8 : Value}
    {f9 : Addr} {od9 an9 : Option Addr} {sl9 : Array (Option Value)} {oc9 kV9 dc9 pm9 cd9 ct9 : Value}
    {f10 : Addr} {od10 an10 : Option Addr} {sl10 : Array (Option Value)} {oc10 kV10 dc10 pm10 cd10 ct10 : Value}
    {f11 : Addr} {od11 an11 : Option Addr} {sl11 : Array (Option Value)} {oc11 kV11 dc11 pm11 cd11 ct11 : Value}
    {f12 : Addr} {od12 an12 : Option Addr} {sl12 : Array (Option Value)} {oc12 kV12 dc12 pm12 cd12 ct12 : Value}
    {f13 : Addr} {od13 an13 : Option Addr} {sl13 : Array (Option Value)} {oc13 kV13 dc13 pm13 cd13 ct13 : Value}
    {f14 : Addr} {od14 an14 : Option Addr} {sl14 : Array (Option Value)} {oc14 kV14 dc14 pm14 cd14 ct14 : Value}
    {f15 : Addr} {od15 an15 : Option Addr} {sl15 : Array (Option Value)} {oc15 kV15 dc15 pm15 cd15 ct15 : Value}
    {f16 : Addr} {od16 an16 : Option Addr} {sl16 : Array (Option Value)} {oc16 kV16 dc16 pm16 cd16 ct16 : Value}
    {f17 : Addr} {od17 an17 : Option Addr} {sl17 : Array (Option Value)} {oc17 kV17 dc17 pm17 cd17 ct17 : Value}
    {f18 : Addr} {od18 an18 : Option Addr} {sl18 : Array (Option Value)} {oc18 kV18 dc18 pm18 cd18 ct18 : Value}
    {f19 : Addr} {od19 an19 : Option Addr} {sl19 : Array (Option Value)} {oc19 kV19 dc19 pm19 cd19 ct19 : Value}
    {CoKinds : Addr}
    {fM0Kinds : Addr} {odM0Kinds anM0Kinds : Option Addr} {slM0Kinds : Array (Option Value)} {ocM0Kinds kVM0Kinds dcM0Kinds pmM0Kinds cdM0Kinds ctM0Kinds : Value}
    {fM2Kinds : Addr} {odM2Kinds anM2Kinds : Option Addr} {slM2Kinds : Array (Option Value)} {ocM2Kinds kVM2Kinds dcM2Kinds pmM2Kinds cdM2Kinds ctM2Kinds : Value}
    {qM2Kinds : Addr} {rsM2Kinds : List Value}
    {fM3Kinds : Addr} {odM3Kinds anM3Kinds : Option Addr} {slM3Kinds : Array (Option Value)} {ocM3Kinds kVM3Kinds dcM3Kinds pmM3Kinds cdM3Kinds ctM3Kinds : Value}
    {qM3Kinds : Addr} {rsM3Kinds : List Value}
    {fM4Kinds : Addr} {odM4Kinds anM4Kinds : Option Addr} {slM4Kinds : Array (Option Value)} {ocM4Kinds kVM4Kinds dcM4Kinds pmM4Kinds cdM4Kinds ctM4Kinds : Value}
    {qM4Kinds : Addr} {rsM4Kinds : List Value}
    {fM5Kinds : Addr} {odM5Kinds anM5Kinds : Option Addr} {slM5Kinds : Array (Option Value)} {ocM5Kinds kVM5Kinds dcM5Kinds pmM5Kinds cdM5Kinds ctM5Kinds : Value}
    {qM5Kinds : Addr} {rsM5Kinds : List Value}
    {fM6Kinds : Addr} {odM6Kinds anM6Kinds : Option Addr} {slM6Kinds : Array (Option Value)} {ocM6Kinds kVM6Kinds dcM6Kinds pmM6Kinds cdM6Kinds ctM6Kinds : Value}
    {fM7Kinds : Addr} {odM7Kinds anM7Kinds : Option Addr} {slM7Kinds : Array (Option Value)} {ocM7Kinds kVM7Kinds dcM7Kinds pmM7Kinds cdM7Kinds ctM7Kinds : Value}
    {fM8Kinds : Addr} {odM8Kinds anM8Kinds : Option Addr} {slM8Kinds : Array (Option Value)} {ocM8Kinds kVM8Kinds dcM8Kinds pmM8Kinds cdM8Kinds ctM8Kinds : Value}
    {fM9Kinds : Addr} {odM9Kinds anM9Kinds : Option Addr} {slM9Kinds : Array (Option Value)} {ocM9Kinds kVM9Kinds dcM9Kinds pmM9Kinds cdM9Kinds ctM9Kinds : Value}
    {fM10Kinds : Addr} {odM10Kinds anM10Kinds : Option Addr} {slM10Kinds : Array (Option Value)} {ocM10Kinds kVM10Kinds dcM10Kinds pmM10Kinds cdM10Kinds ctM10Kinds : Value}
    {fM12Kinds : Addr} {odM12Kinds anM12Kinds : Option Addr} {slM12Kinds : Array (Option Value)} {ocM12Kinds kVM12Kinds dcM12Kinds pmM12Kinds cdM12Kinds ctM12Kinds : Value}
    {fM13Kinds : Addr} {odM13Kinds anM13Kinds : Option Addr} {slM13Kinds : Array (Option Value)} {ocM13Kinds kVM13Kinds dcM13Kinds pmM13Kinds cdM13Kinds ctM13Kinds : Value}
    {fM14Kinds : Addr} {odM14Kinds anM14Kinds : Option Addr} {slM14Kinds : Array (Option Value)} {ocM14Kinds kVM14Kinds dcM14Kinds pmM14Kinds cdM14Kinds ctM14Kinds : Value}
    {t0 : Tok}
    {t1 : Tok}
    {t2 : Tok}
    {t3 : Tok}
    {q : Program}
    {cT0 PT0 : Addr} {eT0 : DefRec} {ucT0 : Value} {odT0 : Option Addr} {vsT0 : Array Value} {slT0 : Array (Option Value)}
    {cT1 PT1 : Addr} {eT1 : DefRec} {ucT1 : Value} {odT1 : Option Addr} {vsT1 : Array Value} {slT1 : Array (Option Value)}
    {cT2 PT2 : Addr} {eT2 : DefRec} {ucT2 : Value} {odT2 : Option Addr} {vsT2 : Array Value} {slT2 : Array (Option Value)}
    (ge0 : PySem.W.nsIn K mainGlobals "UnknownName" = some (some (.ref Ce0))) (he0 : K.lookup Ce0 = some (excClassObj nme0 qne0 Ce0 Ne0 bse0 bme0 true sne0 sube0 abe0 cole0 dde0 k0e0 k1e0 k2e0 k3e0 k5e0 "LookupError.__new__")) (te0 : PySem.W.excTail [.type "KeyError", .type "LookupError", .type "Exception", .type "BaseException", .type "object"] bme0 = true) (oe0 : PySem.W.excOver K Ce0 [.type "KeyError", .type "LookupError", .type "Exception", .type "BaseException", .type "object"] = true) (qe0 : PySem.W.takerIn K Ce0 "word" = some none) (de0 : PySem.W.hasDictIn K Ce0 = true) (se0 : PySem.W.findIn K (.ref Ce0) "__setattr__" = some (some (.builtin "object.__setattr__"))) (ue0 : PySem.W.findIn K (.ref Ce0) "__getattribute__" = some (some (.builtin "BaseException.__getattribute__"))) (ve0 : PySem.W.findIn K (.ref Ce0) "__getattr__" = some none) (ne0 : PySem.W.findIn K (.ref Ce0) "word" = some none) (ie0 : PySem.W.findIn K (.ref Ce0) "__init__" = some (some (.ref fe0))) (ye0 : PySem.W.typeIn K (.ref fe0) = some (.type "function")) (ke0 : PySem.W.keepIn K (.ref Ce0) = true) (be0 : PySem.W.subIn K (.ref Ce0) (.type "BaseException") = some true) (we0 : PySem.W.typeIn K (.ref Ce0) = some (.type "type")) (xe0 : PySem.W.isClsIn K Ce0 = true) (re0 : PySem.W.subIn K (.ref Ce0) (.ref Ce0) = some true) (le0 : K.lookup fe0 = some ⟨oce0, ode0, .func (PySem.W.fnOf "__init__" "UnknownName.__init__" (defArgs s_UnknownName_init) (defBody s_UnknownName_init) (defScope s_UnknownName_init) .none kVe0 dce0 pme0 ane0 cde0 cte0), sle0⟩) (ce0 : PySem.W.codeIn K cde0 "UnknownName.__init__" = true) (pe0 : PySem.W.keepIn K (.ref fe0) = true)
    (ge1 : PySem.W.nsIn K mainGlobals "InvalidNumber" = some (some (.ref Ce1))) (he1 : K.lookup Ce1 = some (excClassObj nme1 qne1 Ce1 Ne1 bse1 bme1 true sne1 sube1 abe1 cole1 dde1 k0e1 k1e1 k2e1 k3e1 k5e1 "IndexError.__new__")) (te1 : PySem.W.excTail [.type "IndexError", .type "LookupError", .type "Exception", .type "BaseException", .type "object"] bme1 = true) (oe1 : PySem.W.excOver K Ce1 [.type "IndexError", .type "LookupError", .type "Exception", .type "BaseException", .type "object"] = true) (qe1 : PySem.W.takerIn K Ce1 "value" = some none) (de1 : PySem.W.hasDictIn K Ce1 = true) (se1 : PySem.W.findIn K (.ref Ce1) "__setattr__" = some (some (.builtin "object.__setattr__"))) (ue1 : PySem.W.findIn K (.ref Ce1) "__getattribute__" = some (some (.builtin "BaseException.__getattribute__"))) (ve1 : PySem.W.findIn K (.ref Ce1) "__getattr__" = some none) (ne1 : PySem.W.findIn K (.ref Ce1) "value" = some none) (ie1 : PySem.W.findIn K (.ref Ce1) "__init__" = some (some (.ref fe1))) (ye1 : PySem.W.typeIn K (.ref fe1) = some (.type "function")) (ke1 : PySem.W.keepIn K (.ref Ce1) = true) (be1 : PySem.W.subIn K (.ref Ce1) (.type "BaseException") = some true) (we1 : PySem.W.typeIn K (.ref Ce1) = some (.type "type")) (xe1 : PySem.W.isClsIn K Ce1 = true) (re1 : PySem.W.subIn K (.ref Ce1) (.ref Ce1) = some true) (le1 : K.lookup fe1 = some ⟨oce1, ode1, .func (PySem.W.fnOf "__init__" "InvalidNumber.__init__" (defArgs s_InvalidNumber_init) (defBody s_InvalidNumber_init) (defScope s_InvalidNumber_init) .none kVe1 dce1 pme1 ane1 cde1 cte1), sle1⟩) (ce1 : PySem.W.codeIn K cde1 "InvalidNumber.__init__" = true) (pe1 : PySem.W.keepIn K (.ref fe1) = true)
    (gy0 : PySem.W.nsIn K mainGlobals "InvalidOperation" = some (some (.ref Cy0))) (hy0 : K.lookup Cy0 = some (excClassObj nmy0 qny0 Cy0 Ny0 bsy0 bmy0 hdy0 sny0 suby0 aby0 coly0 ddy0 k0y0 k1y0 k2y0 k3y0 k5y0 "ValueError.__new__")) (ty0 : PySem.W.excTail [.type "ValueError", .type "Exception", .type "BaseException", .type "object"] bmy0 = true) (iy0 : PySem.W.findIn K (.ref Cy0) "__init__" = some (some (.builtin "ValueError.__init__"))) (ky0 : PySem.W.keepIn K (.ref Cy0) = true) (by0 : PySem.W.subIn K (.ref Cy0) (.type "BaseException") = some true) (wy0 : PySem.W.typeIn K (.ref Cy0) = some (.type "type")) (xy0 : PySem.W.isClsIn K Cy0 = true) (ry0 : PySem.W.subIn K (.ref Cy0) (.ref Cy0) = some true) (zy0 : xclsB K Cy0 = true)
    (a0 : PySem.W.nsIn K mainGlobals "_wall" = some (some (.ref f0))) (l0 : K.lookup f0 = some ⟨oc0, od0, .func (PySem.W.fnOf "_wall" "_wall" (defArgs s_wall) (defBody s_wall) (defScope s_wall) .none kV0 dc0 pm0 an0 cd0 ct0), sl0⟩) (c0 : PySem.W.codeIn K cd0 "_wall" = true) (k0 : PySem.W.keepIn K (.ref f0) = true)
    (a1 : PySem.W.nsIn K mainGlobals "is_integer" = some (some (.ref f1))) (l1 : K.lookup f1 = some ⟨oc1, od1, .func (PySem.W.fnOf "is_integer" "is_integer" (defArgs s_is_integer) (defBody s_is_integer) (defScope s_is_integer) .none kV1 dc1 pm1 an1 cd1 ct1), sl1⟩) (c1 : PySem.W.codeIn K cd1 "is_integer" = true) (k1 : PySem.W.keepIn K (.ref f1) = true)
    (a2 : PySem.W.nsIn K mainGlobals "is_count" = some (some (.ref f2))) (l2 : K.lookup f2 = some ⟨oc2, od2, .func (PySem.W.fnOf "is_count" "is_count" (defArgs s_is_count) (defBody s_is_count) (defScope s_is_count) .none kV2 dc2 pm2 an2 cd2 ct2), sl2⟩) (c2 : PySem.W.codeIn K cd2 "is_count" = true) (k2 : PySem.W.keepIn K (.ref f2) = true)
    (a3 : PySem.W.nsIn K mainGlobals "is_name" = some (some (.ref f3))) (l3 : K.lookup f3 = some ⟨oc3, od3, .func (PySem.W.fnOf "is_name" "is_name" (defArgs s_is_name) (defBody s_is_name) (defScope s_is_name) .none kV3 dc3 pm3 an3 cd3 ct3), sl3⟩) (c3 : PySem.W.codeIn K cd3 "is_name" = true) (k3 : PySem.W.keepIn K (.ref f3) = true)
    (a4 : PySem.W.nsIn K mainGlobals "is_sorted" = some (some (.ref f4))) (l4 : K.lookup f4 = some ⟨oc4, od4, .func (PySem.W.fnOf "is_sorted" "is_sorted" (defArgs s_is_sorted) (defBody s_is_sorted) (defScope s_is_sorted) .none kV4 dc4 pm4 an4 cd4 ct4), sl4⟩) (c4 : PySem.W.codeIn K cd4 "is_sorted" = true) (k4 : PySem.W.keepIn K (.ref f4) = true)
    (a5 : PySem.W.nsIn K mainGlobals "text_of" = some (some (.ref f5))) (l5 : K.lookup f5 = some ⟨oc5, od5, .func (PySem.W.fnOf "text_of" "text_of" (defArgs s_text_of) (defBody s_text_of) (defScope s_text_of) .none kV5 dc5 pm5 an5 cd5 ct5), sl5⟩) (c5 : PySem.W.codeIn K cd5 "text_of" = true) (k5 : PySem.W.keepIn K (.ref f5) = true)
    (a6 : PySem.W.nsIn K mainGlobals "_is_making" = some (some (.ref f6))) (l6 : K.lookup f6 = some ⟨oc6, od6, .func (PySem.W.fnOf "_is_making" "_is_making" (defArgs s_is_making) (defBody s_is_making) (defScope s_is_making) .none kV6 dc6 pm6 an6 cd6 ct6), sl6⟩) (c6 : PySem.W.codeIn K cd6 "_is_making" = true) (k6 : PySem.W.keepIn K (.ref f6) = true)
    (a7 : PySem.W.nsIn K mainGlobals "_all_names" = some (some (.ref f7))) (l7 : K.lookup f7 = some ⟨oc7, od7, .func (PySem.W.fnOf "_all_names" "_all_names" (defArgs s_all_names) (defBody s_all_names) (defScope s_all_names) .none kV7 dc7 pm7 an7 cd7 ct7), sl7⟩) (c7 : PySem.W.codeIn K cd7 "_all_names" = true) (k7 : PySem.W.keepIn K (.ref f7) = true)
    (a8 : PySem.W.nsIn K mainGlobals "_are_kinds" = some (some (.ref f8))) (l8 : K.lookup f8 = some ⟨oc8, od8, .func (PySem.W.fnOf "_are_kinds" "_are_kinds" (defArgs s_are_kinds) (defBody s_are_kinds) (defScope s_are_kinds) .none kV8 dc8 pm8 an8 cd8 ct8), sl8⟩) (c8 : PySem.W.codeIn K cd8 "_are_kinds" = true) (k8 : PySem.W.keepIn K (.ref f8) = true)
    (a9 : PySem.W.nsIn K mainGlobals "is_renaming" = some (some (.ref f9))) (l9 : K.lookup f9 = some ⟨oc9, od9, .func (PySem.W.fnOf "is_renaming" "is_renaming" (defArgs s_is_renaming) (defBody s_is_renaming) (defScope s_is_renaming) .none kV9 dc9 pm9 an9 cd9 ct9), sl9⟩) (c9 : PySem.W.codeIn K cd9 "is_renaming" = true) (k9 : PySem.W.keepIn K (.ref f9) = true)
    (a10 : PySem.W.nsIn K mainGlobals "_law_dice" = some (some (.ref f10))) (l10 : K.lookup f10 = some ⟨oc10, od10, .func (PySem.W.fnOf "_law_dice" "_law_dice" (defArgs s_law_dice) (defBody s_law_dice) (defScope s_law_dice) .none kV10 dc10 pm10 an10 cd10 ct10), sl10⟩) (c10 : PySem.W.codeIn K cd10 "_law_dice" = true) (k10 : PySem.W.keepIn K (.ref f10) = true)
    (a11 : PySem.W.nsIn K mainGlobals "_law_roll" = some (some (.ref f11))) (l11 : K.lookup f11 = some ⟨oc11, od11, .func (PySem.W.fnOf "_law_roll" "_law_roll" (defArgs s_law_roll) (defBody s_law_roll) (defScope s_law_roll) .none kV11 dc11 pm11 an11 cd11 ct11), sl11⟩) (c11 : PySem.W.codeIn K cd11 "_law_roll" = true) (k11 : PySem.W.keepIn K (.ref f11) = true)
    (a12 : PySem.W.nsIn K mainGlobals "_law_pick" = some (some (.ref f12))) (l12 : K.lookup f12 = some ⟨oc12, od12, .func (PySem.W.fnOf "_law_pick" "_law_pick" (defArgs s_law_pick) (defBody s_law_pick) (defScope s_law_pick) .none kV12 dc12 pm12 an12 cd12 ct12), sl12⟩) (c12 : PySem.W.codeIn K cd12 "_law_pick" = true) (k12 : PySem.W.keepIn K (.ref f12) = true)
    (a13 : PySem.W.nsIn K mainGlobals "_law_mixed" = some (some (.ref f13))) (l13 : K.lookup f13 = some ⟨oc13, od13, .func (PySem.W.fnOf "_law_mixed" "_law_mixed" (defArgs s_law_mixed) (defBody s_law_mixed) (defScope s_law_mixed) .none kV13 dc13 pm13 an13 cd13 ct13), sl13⟩) (c13 : PySem.W.codeIn K cd13 "_law_mixed" = true) (k13 : PySem.W.keepIn K (.ref f13) = true)
    (a14 : PySem.W.nsIn K mainGlobals "_law_kinds" = some (some (.ref f14))) (l14 : K.lookup f14 = some ⟨oc14, od14, .func (PySem.W.fnOf "_law_kinds" "_law_kinds" (defArgs s_law_kinds) (defBody s_law_kinds) (defScope s_law_kinds) .none kV14 dc14 pm14 an14 cd14 ct14), sl14⟩) (c14 : PySem.W.codeIn K cd14 "_law_kinds" = true) (k14 : PySem.W.keepIn K (.ref f14) = true)
    (a15 : PySem.W.nsIn K mainGlobals "_law_images" = some (some (.ref f15))) (l15 : K.lookup f15 = some ⟨oc15, od15, .func (PySem.W.fnOf "_law_images" "_law_images" (defArgs s_law_images) (defBody s_law_images) (defScope s_law_images) .none kV15 dc15 pm15 an15 cd15 ct15), sl15⟩) (c15 : PySem.W.codeIn K cd15 "_law_images" = true) (k15 : PySem.W.keepIn K (.ref f15) = true)
    (a16 : PySem.W.nsIn K mainGlobals "_law_told" = some (some (.ref f16))) (l16 : K.lookup f16 = some ⟨oc16, od16, .func (PySem.W.fnOf "_law_told" "_law_told" (defArgs s_law_told) (defBody s_law_told) (defScope s_law_told) .none kV16 dc16 pm16 an16 cd16 ct16), sl16⟩) (c16 : PySem.W.codeIn K cd16 "_law_told" = true) (k16 : PySem.W.keepIn K (.ref f16) = true)
    (a17 : PySem.W.nsIn K mainGlobals "_law_asked_right" = some (some (.ref f17))) (l17 : K.lookup f17 = some ⟨oc17, od17, .func (PySem.W.fnOf "_law_asked_right" "_law_asked_right" (defArgs s_law_asked_right) (defBody s_law_asked_right) (defScope s_law_asked_right) .none kV17 dc17 pm17 an17 cd17 ct17), sl17⟩) (c17 : PySem.W.codeIn K cd17 "_law_asked_right" = true) (k17 : PySem.W.keepIn K (.ref f17) = true)
    (a18 : PySem.W.nsIn K mainGlobals "_law_renamed_right" = some (some (.ref f18))) (l18 : K.lookup f18 = some ⟨oc18, od18, .func (PySem.W.fnOf "_law_renamed_right" "_law_renamed_right" (defArgs s_law_renamed_right) (defBody s_law_renamed_right) (defScope s_law_renamed_right) .none kV18 dc18 pm18 an18 cd18 ct18), sl18⟩) (c18 : PySem.W.codeIn K cd18 "_law_renamed_right" = true) (k18 : PySem.W.keepIn K (.ref f18) = true)
    (a19 : PySem.W.nsIn K mainGlobals "law" = some (some (.ref f19))) (l19 : K.lookup f19 = some ⟨oc19, od19, .func (PySem.W.fnOf "law" "law" (defArgs s_law) (defBody s_law) (defScope s_law) .none kV19 dc19 pm19 an19 cd19 ct19), sl19⟩) (c19 : PySem.W.codeIn K cd19 "law" = true) (k19 : PySem.W.keepIn K (.ref f19) = true)
    (goKinds : PySem.W.nsIn K mainGlobals "Kinds" = some (some (.ref CoKinds)))
    (pgoKinds : PySem.W.plainGet K CoKinds Str.empty = true)
    (hdoKinds : PySem.W.hasDictIn K CoKinds = true)
    (pooKinds : PySem.W.plainOver K CoKinds = true)
    (saoKinds : PySem.W.findIn K (.ref CoKinds) "__setattr__" = some (some (.builtin "object.__setattr__")))
    (mkoKinds : PySem.W.makesIn K CoKinds = true)
    (kcoKinds : PySem.W.keepIn K (.ref CoKinds) = true)
    (neoKinds : PySem.W.findIn K (.ref CoKinds) "__ne__" = some (some (.builtin "object.__ne__")))
    (oboKinds : PySem.W.mroIn K CoKinds (.type "object") = some true)
    (kioKinds : PySem.W.kitOne K (.ref CoKinds) (.ref CoKinds) = some true)
    (ktoKinds : PySem.W.kitOne K (.type "tuple") (.ref CoKinds) = some false)
    (kdoKinds : PySem.W.kitOne K (.type "dict") (.ref CoKinds) = some false)
    (caoKinds : PySem.W.findIn K (.ref CoKinds) "__class__" = some (some (.builtin "object.__class__")))
    (cgoKinds : PySem.W.specialIn K (.builtin "object.__class__") "__get__" = some (some (.builtin "getset_descriptor.__get__")))
    (ctoKinds : PySem.W.takesIn K (.builtin "object.__class__") = some true)
    (n_leafoKinds : PySem.W.findIn K (.ref CoKinds) "_leaf" = some none)
    (n_makingsoKinds : PySem.W.findIn K (.ref CoKinds) "_makings" = some none)
    (n_namesoKinds : PySem.W.findIn K (.ref CoKinds) "_names" = some none)
    (atM0Kinds : PySem.W.findIn K (.ref CoKinds) "__init__" = some (some (.ref fM0Kinds)))
    (ifM0Kinds : PySem.W.isFn K (.ref fM0Kinds) = true)
    (lM0Kinds : K.lookup fM0Kinds = some ⟨ocM0Kinds, odM0Kinds, .func (PySem.W.fnOf "__init__" "Kinds.__init__" (defArgs s_Kinds_init) (defBody s_Kinds_init) (defScope s_Kinds_init) .none kVM0Kinds dcM0Kinds pmM0Kinds anM0Kinds cdM0Kinds ctM0Kinds), slM0Kinds⟩)
    (cM0Kinds : PySem.W.codeIn K cdM0Kinds "Kinds.__init__" = true)
    (kM0Kinds : PySem.W.keepIn K (.ref fM0Kinds) = true)
    (atM2Kinds : PySem.W.findIn K (.ref CoKinds) "leaf" = some (some (.ref qM2Kinds)))
    (geM2Kinds : PySem.W.specialIn K (.ref qM2Kinds) "__get__" = some (some (.builtin "property.__get__")))
    (taM2Kinds : PySem.W.takesIn K (.ref qM2Kinds) = some true)
    (reM2Kinds : PySem.W.recIn K qM2Kinds "property" = some (.ref fM2Kinds :: rsM2Kinds))
    (lM2Kinds : K.lookup fM2Kinds = some ⟨ocM2Kinds, odM2Kinds, .func (PySem.W.fnOf "leaf" "Kinds.leaf" (defArgs s_Kinds_leaf) (defBody s_Kinds_leaf) (defScope s_Kinds_leaf) .none kVM2Kinds dcM2Kinds pmM2Kinds anM2Kinds cdM2Kinds ctM2Kinds), slM2Kinds⟩)
    (cM2Kinds : PySem.W.codeIn K cdM2Kinds "Kinds.leaf" = true)
    (kM2Kinds : PySem.W.keepIn K (.ref fM2Kinds) = true)
    (atM3Kinds : PySem.W.findIn K (.ref CoKinds) "makings" = some (some (.ref qM3Kinds)))
    (geM3Kinds : PySem.W.specialIn K (.ref qM3Kinds) "__get__" = some (some (.builtin "property.__get__")))
    (taM3Kinds : PySem.W.takesIn K (.ref qM3Kinds) = some true)
    (reM3Kinds : PySem.W.recIn K qM3Kinds "property" = some (.ref fM3Kinds :: rsM3Kinds))
    (lM3Kinds : K.lookup fM3Kinds = some ⟨ocM3Kinds, odM3Kinds, .func (PySem.W.fnOf "makings" "Kinds.makings" (defArgs s_Kinds_makings) (defBody s_Kinds_makings) (defScope s_Kinds_makings) .none kVM3Kinds dcM3Kinds pmM3Kinds anM3Kinds cdM3Kinds ctM3Kinds), slM3Kinds⟩)
    (cM3Kinds : PySem.W.codeIn K cdM3Kinds "Kinds.makings" = true)
    (kM3Kinds : PySem.W.keepIn K (.ref fM3Kinds) = true)
    (atM4Kinds : PySem.W.findIn K (.ref CoKinds) "names" = some (some (.ref qM4Kinds)))
    (geM4Kinds : PySem.W.specialIn K (.ref qM4Kinds) "__get__" = some (some (.builtin "property.__get__")))
    (taM4Kinds : PySem.W.takesIn K (.ref qM4Kinds) = some true)
    (reM4Kinds : PySem.W.recIn K qM4Kinds "property" = some (.ref fM4Kinds :: rsM4Kinds))
    (lM4Kinds : K.lookup fM4Kinds = some ⟨ocM4Kinds, odM4Kinds, .func (PySem.W.fnOf "names" "Kinds.names" (defArgs s_Kinds_names) (defBody s_Kinds_names) (defScope s_Kinds_names) .none kVM4Kinds dcM4Kinds pmM4Kinds anM4Kinds cdM4Kinds ctM4Kinds), slM4Kinds⟩)
    (cM4Kinds : PySem.W.codeIn K cdM4Kinds "Kinds.names" = true)
    (kM4Kinds : PySem.W.keepIn K (.ref fM4Kinds) = true)
    (atM5Kinds : PySem.W.findIn K (.ref CoKinds) "lines" = some (some (.ref qM5Kinds)))
    (geM5Kinds : PySem.W.specialIn K (.ref qM5Kinds) "__get__" = some (some (.builtin "property.__get__")))
    (taM5Kinds : PySem.W.takesIn K (.ref qM5Kinds) = some true)
    (reM5Kinds : PySem.W.recIn K qM5Kinds "property" = some (.ref fM5Kinds :: rsM5Kinds))
    (lM5Kinds : K.lookup fM5Kinds = some ⟨ocM5Kinds, odM5Kinds, .func (PySem.W.fnOf "lines" "Kinds.lines" (defArgs s_Kinds_lines) (defBody s_Kinds_lines) (defScope s_Kinds_lines) .none kVM5Kinds dcM5Kinds pmM5Kinds anM5Kinds cdM5Kinds ctM5Kinds), slM5Kinds⟩)
    (cM5Kinds : PySem.W.codeIn K cdM5Kinds "Kinds.lines" = true)
    (kM5Kinds : PySem.W.keepIn K (.ref fM5Kinds) = true)
    (atM6Kinds : PySem.W.findIn K (.ref CoKinds) "users" = some (some (.ref fM6Kinds)))
    (ifM6Kinds : PySem.W.isFn K (.ref fM6Kinds) = true)
    (lM6Kinds : K.lookup fM6Kinds = some ⟨ocM6Kinds, odM6Kinds, .func (PySem.W.fnOf "users" "Kinds.users" (defArgs s_Kinds_users) (defBody s_Kinds_users) (defScope s_Kinds_users) .none kVM6Kinds dcM6Kinds pmM6Kinds anM6Kinds cdM6Kinds ctM6Kinds), slM6Kinds⟩)
    (cM6Kinds : PySem.W.codeIn K cdM6Kinds "Kinds.users" = true)
    (kM6Kinds : PySem.W.keepIn K (.ref fM6Kinds) = true)
    (atM7Kinds : PySem.W.findIn K (.ref CoKinds) "losers" = some (some (.ref fM7Kinds)))
    (ifM7Kinds : PySem.W.isFn K (.ref fM7Kinds) = true)
    (lM7Kinds : K.lookup fM7Kinds = some ⟨ocM7Kinds, odM7Kinds, .func (PySem.W.fnOf "losers" "Kinds.losers" (defArgs s_Kinds_losers) (defBody s_Kinds_losers) (defScope s_Kinds_losers) .none kVM7Kinds dcM7Kinds pmM7Kinds anM7Kinds cdM7Kinds ctM7Kinds), slM7Kinds⟩)
    (cM7Kinds : PySem.W.codeIn K cdM7Kinds "Kinds.losers" = true)
    (kM7Kinds : PySem.W.keepIn K (.ref fM7Kinds) = true)
    (atM8Kinds : PySem.W.findIn K (.ref CoKinds) "renamed" = some (some (.ref fM8Kinds)))
    (ifM8Kinds : PySem.W.isFn K (.ref fM8Kinds) = true)
    (lM8Kinds : K.lookup fM8Kinds = some ⟨ocM8Kinds, odM8Kinds, .func (PySem.W.fnOf "renamed" "Kinds.renamed" (defArgs s_Kinds_renamed) (defBody s_Kinds_renamed) (defScope s_Kinds_renamed) .none kVM8Kinds dcM8Kinds pmM8Kinds anM8Kinds cdM8Kinds ctM8Kinds), slM8Kinds⟩)
    (cM8Kinds : PySem.W.codeIn K cdM8Kinds "Kinds.renamed" = true)
    (kM8Kinds : PySem.W.keepIn K (.ref fM8Kinds) = true)
    (atM9Kinds : PySem.W.findIn K (.ref CoKinds) "__contains__" = some (some (.ref fM9Kinds)))
    (ifM9Kinds : PySem.W.isFn K (.ref fM9Kinds) = true)
    (lM9Kinds : K.lookup fM9Kinds = some ⟨ocM9Kinds, odM9Kinds, .func (PySem.W.fnOf "__contains__" "Kinds.__contains__" (defArgs s_Kinds_contains) (defBody s_Kinds_contains) (defScope s_Kinds_contains) .none kVM9Kinds dcM9Kinds pmM9Kinds anM9Kinds cdM9Kinds ctM9Kinds), slM9Kinds⟩)
    (cM9Kinds : PySem.W.codeIn K cdM9Kinds "Kinds.__contains__" = true)
    (kM9Kinds : PySem.W.keepIn K (.ref fM9Kinds) = true)
    (atM10Kinds : PySem.W.findIn K (.ref CoKinds) "__getitem__" = some (some (.ref fM10Kinds)))
    (ifM10Kinds : PySem.W.isFn K (.ref fM10Kinds) = true)
    (lM10Kinds : K.lookup fM10Kinds = some ⟨ocM10Kinds, odM10Kinds, .func (PySem.W.fnOf "__getitem__" "Kinds.__getitem__" (defArgs s_Kinds_getitem) (defBody s_Kinds_getitem) (defScope s_Kinds_getitem) .none kVM10Kinds dcM10Kinds pmM10Kinds anM10Kinds cdM10Kinds ctM10Kinds), slM10Kinds⟩)
    (cM10Kinds : PySem.W.codeIn K cdM10Kinds "Kinds.__getitem__" = true)
    (kM10Kinds : PySem.W.keepIn K (.ref fM10Kinds) = true)
    (atM12Kinds : PySem.W.findIn K (.ref CoKinds) "__len__" = some (some (.ref fM12Kinds)))
    (ifM12Kinds : PySem.W.isFn K (.ref fM12Kinds) = true)
    (lM12Kinds : K.lookup fM12Kinds = some ⟨ocM12Kinds, odM12Kinds, .func (PySem.W.fnOf "__len__" "Kinds.__len__" (defArgs s_Kinds_len) (defBody s_Kinds_len) (defScope s_Kinds_len) .none kVM12Kinds dcM12Kinds pmM12Kinds anM12Kinds cdM12Kinds ctM12Kinds), slM12Kinds⟩)
    (cM12Kinds : PySem.W.codeIn K cdM12Kinds "Kinds.__len__" = true)
    (kM12Kinds : PySem.W.keepIn K (.ref fM12Kinds) = true)
    (atM13Kinds : PySem.W.findIn K (.ref CoKinds) "__eq__" = some (some (.ref fM13Kinds)))
    (ifM13Kinds : PySem.W.isFn K (.ref fM13Kinds) = true)
    (lM13Kinds : K.lookup fM13Kinds = some ⟨ocM13Kinds, odM13Kinds, .func (PySem.W.fnOf "__eq__" "Kinds.__eq__" (defArgs s_Kinds_eq) (defBody s_Kinds_eq) (defScope s_Kinds_eq) .none kVM13Kinds dcM13Kinds pmM13Kinds anM13Kinds cdM13Kinds ctM13Kinds), slM13Kinds⟩)
    (cM13Kinds : PySem.W.codeIn K cdM13Kinds "Kinds.__eq__" = true)
    (kM13Kinds : PySem.W.keepIn K (.ref fM13Kinds) = true)
    (atM14Kinds : PySem.W.findIn K (.ref CoKinds) "__str__" = some (some (.ref fM14Kinds)))
    (ifM14Kinds : PySem.W.isFn K (.ref fM14Kinds) = true)
    (lM14Kinds : K.lookup fM14Kinds = some ⟨ocM14Kinds, odM14Kinds, .func (PySem.W.fnOf "__str__" "Kinds.__str__" (defArgs s_Kinds_str) (defBody s_Kinds_str) (defScope s_Kinds_str) .none kVM14Kinds dcM14Kinds pmM14Kinds anM14Kinds cdM14Kinds ctM14Kinds), slM14Kinds⟩)
    (cM14Kinds : PySem.W.codeIn K cdM14Kinds "Kinds.__str__" = true)
    (kM14Kinds : PySem.W.keepIn K (.ref fM14Kinds) = true)
    (m0 : PySem.W.nsIn K mainGlobals "MAX_LETTERS" = some (some (.int 8 t0)))
    (m1 : PySem.W.nsIn K mainGlobals "_TOO_LONG" = some (some (.int 1000000000000000000000000000000000000000000000000000000000000 t1)))
    (m2 : PySem.W.nsIn K mainGlobals "MAX_KINDS" = some (some (.int 6 t2)))
    (m3 : PySem.W.nsIn K mainGlobals "MAX_PARTS" = some (some (.int 3 t3)))
    (z0 : PySem.W.nsIn K mainGlobals "IndexError" = some none)
    (z1 : PySem.W.nsIn K mainGlobals "KeyError" = some none)
    (z2 : PySem.W.nsIn K mainGlobals "TypeError" = some none)
    (z3 : PySem.W.nsIn K mainGlobals "ValueError" = some none)
    (z4 : PySem.W.nsIn K mainGlobals "abs" = some none)
    (z5 : PySem.W.nsIn K mainGlobals "all" = some none)
    (z6 : PySem.W.nsIn K mainGlobals "bool" = some none)
    (z7 : PySem.W.nsIn K mainGlobals "classmethod" = some none)
    (z8 : PySem.W.nsIn K mainGlobals "dict" = some none)
    (z9 : PySem.W.nsIn K mainGlobals "int" = some none)
    (z10 : PySem.W.nsIn K mainGlobals "isinstance" = some none)
    (z11 : PySem.W.nsIn K mainGlobals "len" = some none)
    (z12 : PySem.W.nsIn K mainGlobals "list" = some none)
    (z13 : PySem.W.nsIn K mainGlobals "max" = some none)
    (z14 : PySem.W.nsIn K mainGlobals "min" = some none)
    (z15 : PySem.W.nsIn K mainGlobals "property" = some none)
    (z16 : PySem.W.nsIn K mainGlobals "range" = some none)
    (z17 : PySem.W.nsIn K mainGlobals "repr" = some none)
    (z18 : PySem.W.nsIn K mainGlobals "set" = some none)
    (z19 : PySem.W.nsIn K mainGlobals "sorted" = some none)
    (z20 : PySem.W.nsIn K mainGlobals "str" = some none)
    (z21 : PySem.W.nsIn K mainGlobals "tuple" = some none)
    (tc0 : cd17 = .ref cT0) (tl0 : K.lookup cT0 = some ⟨ucT0, odT0, .fields vsT0, slT0⟩) (tp0 : vsT0[11]? = some (.ref PT0)) (tn0 : K.lookup PT0 = none) (tr0 : (recsOf q).find? (fun r => r.name == ("_law_asked_right" : Str)) = some eT0)
    (tc1 : cd18 = .ref cT1) (tl1 : K.lookup cT1 = some ⟨ucT1, odT1, .fields vsT1, slT1⟩) (tp1 : vsT1[11]? = some (.ref PT1)) (tn1 : K.lookup PT1 = none) (tr1 : (recsOf q).find? (fun r => r.name == ("_law_renamed_right" : Str)) = some eT1)
    (tc2 : cd19 = .ref cT2) (tl2 : K.lookup cT2 = some ⟨ucT2, odT2, .fields vsT2, slT2⟩) (tp2 : vsT2[11]? = some (.ref PT2)) (tn2 : K.lookup PT2 = none) (tr2 : (recsOf q).find? (fun r => r.name == ("law" : Str)) = some eT2)
    (tdd : ([PT0, PT1, PT2] : List Addr).Nodup)
    (nc0 : PySem.W.subIn K (.ref Cy0) (.ref Ce0) = some false) :
    ∃ (fd : FuncData) (cs : List (Addr × Addr)) (sp : Sp), (∀ c ∈ cs, (∃ (y : Str) (e : DefRec), (recsOf q).find? (fun r => r.name == y) = some e ∧ PySem.W.tabIn K y = some c) ∧ K.lookup c.2 = none) ∧ (∀ (s : Shared) (u : Value), BindsTo s fd ⟨[u], []⟩ [("_law_script", u)]) ∧ (∀ (H : Hp) (a : Addr) (ns : List Int), ns.length ≤ 63 → (∀ c ∈ cs, H c.2 = some (.tbl #[])) → SqL K H a (ns.map V.int) → sp [.ref a] H (fun v _ => v = .bl true) fun _ _ _ => False) ∧ ∀ base : Heap, K.In base → base.Ns mainGlobals mg → (∀ c ∈ cs, LamX.TabB base mg c.1 c.2) → FnG l.prog w K mg base CX0 13 fa fd ["_law_script"] sp := by
  have e := hfa.symm.trans (PySem.W.mg_of X G a19)
  cases e
  have T : Top K mg := {
    x_UnknownName := ⟨Ce0, fe0, _, ⟨PySem.W.mg_of X G ge0, ⟨_, _, _, _, _, _, _, _, _, _, _, _, _, _, _, he0, te0⟩, oe0, qe0, de0, se0, ue0, ve0, ne0, ie0, ye0, ke0, be0, we0, exm_own be0 xe0 we0 re0⟩, fun_mk le0 ce0 pe0⟩
    x_InvalidNumber := ⟨Ce1, fe1, _, ⟨PySem.W.mg_of X G ge1, ⟨_, _, _, _, _, _, _, _, _, _, _, _, _, _, _, he1, te1⟩, oe1, qe1, de1, se1, ue1, ve1, ne1, ie1, ye1, ke1, be1, we1, exm_own be1 xe1 we1 re1⟩, fun_mk le1 ce1 pe1⟩
    p_InvalidOperation := ⟨Cy0, ⟨PySem.W.mg_of X G gy0, ⟨_, _, _, _, _, _, _, _, _, _, _, _, _, _, _, _, hy0, ty0⟩, iy0, ky0⟩, xclsB_ok zy0, exm_own by0 xy0 wy0 ry0⟩
    d_wall := ⟨_, _, fun_mk l0 c0 k0, (fun_mk (st := s_wall) l0 c0 k0).binds (ps := ["k"]) fun _ _ _ _ _ _ us hl => match us, hl with | [_], _ => rfl, PySem.W.mg_of X G a0⟩
    d_is_integer := ⟨_, _, fun_mk l1 c1 k1, (fun_mk (st := s_is_integer) l1 c1 k1).binds (ps := ["value"]) fun _ _ _ _ _ _ us hl => match us, hl with | [_], _ => rfl, PySem.W.mg_of X G a1⟩
    d_is_count := ⟨_, _, fun_mk l2 c2 k2, (fun_mk (st := s_is_count) l2 c2 k2).binds (ps := ["value"]) fun _ _ _ _ _ _ us hl => match us, hl with | [_], _ => rfl, PySem.W.mg_of X G a2⟩
    d_is_name := ⟨_, _, fun_mk l3 c3 k3, (fun_mk (st := s_is_name) l3 c3 k3).binds (ps := ["value"]) fun _ _ _ _ _ _ us hl => match us, hl with | [_], _ => rfl, PySem.W.mg_of X G a3⟩
    d_is_sorted := ⟨_, _, fun_mk l4 c4 k4, kbn_of fun us ws h1 h2 => match us, ws, h1, h2 with | [_], [_], _, _ => by first | rfl | with_unfolding_all rfl, PySem.W.mg_of X G a4⟩
    d_text_of := ⟨_, _, fun_mk l5 c5 k5, (fun_mk (st := s_text_of) l5 c5 k5).binds (ps := ["names"]) fun _ _ _ _ _ _ us hl => match us, hl with | [_], _ => rfl, PySem.W.mg_of X G a5⟩
    d_is_making := ⟨_, _, fun_mk l6 c6 k6, (fun_mk (st := s_is_making) l6 c6 k6).binds (ps := ["value"]) fun _ _ _ _ _ _ us hl => match us, hl with | [_], _ => rfl, PySem.W.mg_of X G a6⟩
    d_all_names := ⟨_, _, fun_mk l7 c7 k7, (fun_mk (st := s_all_names) l7 c7 k7).binds (ps := ["leaf", "makings"]) fun _ _ _ _ _ _ us hl => match us, hl with | [_, _], _ => rfl, PySem.W.mg_of X G a7⟩
    d_are_kinds := ⟨_, _, fun_mk l8 c8 k8, (fun_mk (st := s_are_kinds) l8 c8 k8).binds (ps := ["leaf", "makings"]) fun _ _ _ _ _ _ us hl => match us, hl with | [_, _], _ => rfl, PySem.W.mg_of X G a8⟩
    d_is_renaming := ⟨_, _, fun_mk l9 c9 k9, (fun_mk (st := s_is_renaming) l9 c9 k9).binds (ps := ["names", "kinds"]) fun _ _ _ _ _ _ us hl => match us, hl with | [_, _], _ => rfl, PySem.W.mg_of X G a9⟩
    d_law_dice := ⟨_, _, fun_mk l10 c10 k10, (fun_mk (st := s_law_dice) l10 c10 k10).binds (ps := ["_law_script", "_law_spot"]) fun _ _ _ _ _ _ us hl => match us, hl with | [_, _], _ => rfl, PySem.W.mg_of X G a10⟩
    d_law_roll := ⟨_, _, fun_mk l11 c11 k11, (fun_mk (st := s_law_roll) l11 c11 k11).binds (ps := ["_law_dice_here", "_law_total"]) fun _ _ _ _ _ _ us hl => match us, hl with | [_, _], _ => rfl, PySem.W.mg_of X G a11⟩
    d_law_pick := ⟨_, _, fun_mk l12 c12 k12, (fun_mk (st := s_law_pick) l12 c12 k12).binds (ps := ["_law_dice_here", "_law_items"]) fun _ _ _ _ _ _ us hl => match us, hl with | [_, _], _ => rfl, PySem.W.mg_of X G a12⟩
    d_law_mixed := ⟨_, _, fun_mk l13 c13 k13, (fun_mk (st := s_law_mixed) l13 c13 k13).binds (ps := ["_law_dice_here", "_law_items"]) fun _ _ _ _ _ _ us hl => match us, hl with | [_, _], _ => rfl, PySem.W.mg_of X G a13⟩
    d_law_kinds := ⟨_, _, fun_mk l14 c14 k14, (fun_mk (st := s_law_kinds) l14 c14 k14).binds (ps := ["_law_dice_here", "_law_most"]) fun _ _ _ _ _ _ us hl => match us, hl with | [_, _], _ => rfl, PySem.W.mg_of X G a14⟩
    d_law_images := ⟨_, _, fun_mk l15 c15 k15, (fun_mk (st := s_law_images) l15 c15 k15).binds (ps := ["_law_dice_here", "_law_names"]) fun _ _ _ _ _ _ us hl => match us, hl with | [_, _], _ => rfl, PySem.W.mg_of X G a15⟩
    d_law_told := ⟨_, _, fun_mk l16 c16 k16, (fun_mk (st := s_law_told) l16 c16 k16).binds (ps := ["_law_call"]) fun _ _ _ _ _ _ us hl => match us, hl with | [_], _ => rfl, PySem.W.mg_of X G a16⟩
    d_law_asked_right := ⟨_, _, fun_mk l17 c17 k17, (fun_mk (st := s_law_asked_right) l17 c17 k17).binds (ps := ["_law_dice_here", "_law_kinds_here", "_law_odd"]) fun _ _ _ _ _ _ us hl => match us, hl with | [_, _, _], _ => rfl, PySem.W.mg_of X G a17⟩
    d_law_renamed_right := ⟨_, _, fun_mk l18 c18 k18, (fun_mk (st := s_law_renamed_right) l18 c18 k18).binds (ps := ["_law_dice_here", "_law_kinds_here", "_law_odd"]) fun _ _ _ _ _ _ us hl => match us, hl with | [_, _, _], _ => rfl, PySem.W.mg_of X G a18⟩
    c_Kinds := ⟨CoKinds, { gC := PySem.W.mg_of X G goKinds, cl := ⟨pgoKinds, hdoKinds, pooKinds, saoKinds⟩, ne := neoKinds, ob := oboKinds, kit := kioKinds, kitT := ktoKinds, kitD := kdoKinds, ca := caoKinds, cg := cgoKinds, ct := ctoKinds, n_leaf := n_leafoKinds, n_makings := n_makingsoKinds, n_names := n_namesoKinds, made := ⟨_, _, ⟨mkoKinds, atM0Kinds, ifM0Kinds, kcoKinds⟩, fun_mk (st := s_Kinds_init) lM0Kinds cM0Kinds kM0Kinds, (fun_mk (st := s_Kinds_init) lM0Kinds cM0Kinds kM0Kinds).binds (ps := ["self", "leaf", "makings"]) fun _ _ _ _ _ _ us hl => match us, hl with | [_, _, _], _ => rfl⟩, p_leaf := ⟨_, _, _, ⟨atM2Kinds, geM2Kinds, taM2Kinds, ⟨_, reM2Kinds⟩⟩, fun_mk (st := s_Kinds_leaf) lM2Kinds cM2Kinds kM2Kinds, (fun_mk (st := s_Kinds_leaf) lM2Kinds cM2Kinds kM2Kinds).binds (ps := ["self"]) fun _ _ _ _ _ _ us hl => match us, hl with | [_], _ => rfl⟩, p_makings := ⟨_, _, _, ⟨atM3Kinds, geM3Kinds, taM3Kinds, ⟨_, reM3Kinds⟩⟩, fun_mk (st := s_Kinds_makings) lM3Kinds cM3Kinds kM3Kinds, (fun_mk (st := s_Kinds_makings) lM3Kinds cM3Kinds kM3Kinds).binds (ps := ["self"]) fun _ _ _ _ _ _ us hl => match us, hl with | [_], _ => rfl⟩, p_names := ⟨_, _, _, ⟨atM4Kinds, geM4Kinds, taM4Kinds, ⟨_, reM4Kinds⟩⟩, fun_mk (st := s_Kinds_names) lM4Kinds cM4Kinds kM4Kinds, (fun_mk (st := s_Kinds_names) lM4Kinds cM4Kinds kM4Kinds).binds (ps := ["self"]) fun _ _ _ _ _ _ us hl => match us, hl with | [_], _ => rfl⟩, p_lines := ⟨_, _, _, ⟨atM5Kinds, geM5Kinds, taM5Kinds, ⟨_, reM5Kinds⟩⟩, fun_mk (st := s_Kinds_lines) lM5Kinds cM5Kinds kM5Kinds, (fun_mk (st := s_Kinds_lines) lM5Kinds cM5Kinds kM5Kinds).binds (ps := ["self"]) fun _ _ _ _ _ _ us hl => match us, hl with | [_], _ => rfl⟩, m_users := ⟨_, _, fun_mk (st := s_Kinds_users) lM6Kinds cM6Kinds kM6Kinds, ⟨atM6Kinds, ifM6Kinds, kM6Kinds⟩, ((fun_mk (st := s_Kinds_users) lM6Kinds cM6Kinds kM6Kinds).binds (ps := ["self", "name"]) fun _ _ _ _ _ _ us hl => match us, hl with | [_, _], _ => rfl), fn_in lM6Kinds⟩, m_losers := ⟨_, _, fun_mk (st := s_Kinds_losers) lM7Kinds cM7Kinds kM7Kinds, ⟨atM7Kinds, ifM7Kinds, kM7Kinds⟩, ((fun_mk (st := s_Kinds_losers) lM7Kinds cM7Kinds kM7Kinds).binds (ps := ["self", "name", "winner"]) fun _ _ _ _ _ _ us hl => match us, hl with | [_, _, _], _ => rfl), fn_in lM7Kinds⟩, m_renamed := ⟨_, _, fun_mk (st := s_Kinds_renamed) lM8Kinds cM8Kinds kM8Kinds, ⟨atM8Kinds, ifM8Kinds, kM8Kinds⟩, ((fun_mk (st := s_Kinds_renamed) lM8Kinds cM8Kinds kM8Kinds).binds (ps := ["self", "names"]) fun _ _ _ _ _ _ us hl => match us, hl with | [_, _], _ => rfl), fn_in lM8Kinds⟩, m_contains := ⟨_, _, fun_mk (st := s_Kinds_contains) lM9Kinds cM9Kinds kM9Kinds, ⟨atM9Kinds, ifM9Kinds, kM9Kinds⟩, ((fun_mk (st := s_Kinds_contains) lM9Kinds cM9Kinds kM9Kinds).binds (ps := ["self", "value"]) fun _ _ _ _ _ _ us hl => match us, hl with | [_, _], _ => rfl), fn_in lM9Kinds⟩, m_getitem := ⟨_, _, fun_mk (st := s_Kinds_getitem) lM10Kinds cM10Kinds kM10Kinds, ⟨atM10Kinds, ifM10Kinds, kM10Kinds⟩, ((fun_mk (st := s_Kinds_getitem) lM10Kinds cM10Kinds kM10Kinds).binds (ps := ["self", "name"]) fun _ _ _ _ _ _ us hl => match us, hl with | [_, _], _ => rfl), fn_in lM10Kinds⟩, m_len := ⟨_, _, fun_mk (st := s_Kinds_len) lM12Kinds cM12Kinds kM12Kinds, ⟨atM12Kinds, ifM12Kinds, kM12Kinds⟩, ((fun_mk (st := s_Kinds_len) lM12Kinds cM12Kinds kM12Kinds).binds (ps := ["self"]) fun _ _ _ _ _ _ us hl => match us, hl with | [_], _ => rfl), fn_in lM12Kinds⟩, m_eq := ⟨_, _, fun_mk (st := s_Kinds_eq) lM13Kinds cM13Kinds kM13Kinds, ⟨atM13Kinds, ifM13Kinds, kM13Kinds⟩, ((fun_mk (st := s_Kinds_eq) lM13Kinds cM13Kinds kM13Kinds).binds (ps := ["self", "other"]) fun _ _ _ _ _ _ us hl => match us, hl with | [_, _], _ => rfl), fn_in lM13Kinds⟩, m_str := ⟨_, _, fun_mk (st := s_Kinds_str) lM14Kinds cM14Kinds kM14Kinds, ⟨atM14Kinds, ifM14Kinds, kM14Kinds⟩, ((fun_mk (st := s_Kinds_str) lM14Kinds cM14Kinds kM14Kinds).binds (ps := ["self"]) fun _ _ _ _ _ _ us hl => match us, hl with | [_], _ => rfl), fn_in lM14Kinds⟩ }⟩
    g_MAX_LETTERS := ⟨_, PySem.W.mg_of X G m0⟩
    g__TOO_LONG := ⟨_, PySem.W.mg_of X G m1⟩
    g_MAX_KINDS := ⟨_, PySem.W.mg_of X G m2⟩
    g_MAX_PARTS := ⟨_, PySem.W.mg_of X G m3⟩
    b_IndexError := PySem.W.mg_none_of X G z0
    b_KeyError := PySem.W.mg_none_of X G z1
    b_TypeError := PySem.W.mg_none_of X G z2
    b_ValueError := PySem.W.mg_none_of X G z3
    b_abs := PySem.W.mg_none_of X G z4
    b_all := PySem.W.mg_none_of X G z5
    b_bool := PySem.W.mg_none_of X G z6
    b_classmethod := PySem.W.mg_none_of X G z7
    b_dict := PySem.W.mg_none_of X G z8
    b_int := PySem.W.mg_none_of X G z9
    b_isinstance := PySem.W.mg_none_of X G z10
    b_len := PySem.W.mg_none_of X G z11
    b_list := PySem.W.mg_none_of X G z12
    b_max := PySem.W.mg_none_of X G z13
    b_min := PySem.W.mg_none_of X G z14
    b_property := PySem.W.mg_none_of X G z15
    b_range := PySem.W.mg_none_of X G z16
    b_repr := PySem.W.mg_none_of X G z17
    b_set := PySem.W.mg_none_of X G z18
    b_sorted := PySem.W.mg_none_of X G z19
    b_str := PySem.W.mg_none_of X G z20
    b_tuple := PySem.W.mg_none_of X G z21 }
  have tt0 : PySem.W.tabIn K "_law_asked_right" = some (cT0, PT0) := Gx.tabIn_of a17 l17 tc0 tl0 tp0
  have tt1 : PySem.W.tabIn K "_law_renamed_right" = some (cT1, PT1) := Gx.tabIn_of a18 l18 tc1 tl1 tp1
  have tt2 : PySem.W.tabIn K "law" = some (cT2, PT2) := Gx.tabIn_of a19 l19 tc2 tl2 tp2
  have nd : (([(PT0, ln "_law_asked_right"), (PT1, ln "_law_renamed_right"), (PT2, ln "law")] : List (Addr × Str)).map (·.1)).Nodup := tdd
  refine ⟨PySem.W.fnOf "law" "law" (defArgs s_law) (defBody s_law) (defScope s_law) .none kV19 dc19 pm19 an19 cd19 ct19, [(cT0, PT0), (cT1, PT1), (cT2, PT2)], spLaw K [(PT0, ln "_law_asked_right"), (PT1, ln "_law_renamed_right"), (PT2, ln "law")], fun c hc => ?_, fun s v => .of_eq rfl, fun H a ns hl hc hS => ⟨a, ns, rfl, hS, hl, fun p hp => ?_, fun _ => rfl⟩, fun base KB GB TB => ok_law (fun_mk (st := s_law) l19 c19 k19) (PySem.W.mg_of X G a19) (Lam.mk_of KB GB tt0 (TB _ (.head _)) nd (.head _)) (Lam.mk_of KB GB tt1 (TB _ (.tail _ (.head _))) nd (.tail _ (.head _))) (Lam.mk_of KB GB tt2 (TB _ (.tail _ (.tail _ (.head _)))) nd (.tail _ (.tail _ (.head _)))) T (fun C1 C2 g1 g2 => by cases g1.symm.trans (PySem.W.mg_of X G ge0); cases g2.symm.trans (PySem.W.mg_of X G gy0); exact exm_no be0 xe0 we0 nc0)⟩
  · simp only [List.mem_cons, List.not_mem_nil, or_false] at hc
    rcases hc with rfl | rfl | rfl
    · exact ⟨⟨_, _, tr0, tt0⟩, tn0⟩
    · exact ⟨⟨_, _, tr1, tt1⟩, tn1⟩
    · exact ⟨⟨_, _, tr2, tt2⟩, tn2⟩
  · simp only [List.mem_cons, List.not_mem_nil, or_false] at hp
    rcases hp with rfl | rfl | rfl
    · exact .nil (hc _ (.head _))
    · exact .nil (hc _ (.tail _ (.head _)))
    · exact .nil (hc _ (.tail _ (.tail _ (.head _))))
end Kl
open PySem PySem.W PyProof.Rows
set_option maxHeartbeats 0 in
theorem PySem.Challenge.cw_linkbooks_k07_errors_of_kinds_holds : PySem.Challenge.rw_linkbooks_k07_errors_of_kinds.Holds := by
  w_on; o_law; k_head; (case hw => w_witness2)
  k_fill
  refine Gx.walkGT (l := PySem.Challenge.rw_linkbooks_k07_errors_of_kinds) (n := 63) (k := 13) (x := "_law_script") (CX := fun _ => L2.CX0) rfl (by decide) rfl ⟨rfl, by decide, by decide⟩ (fun w h Y => PySem.W.km_in_of Y) ?F (fun _ _ _ _ _ h => h)
  case F =>
    intro w mg fa h KX G hmg
    refine' Kl.all_mk KX G hmg ?ge0 ?he0 ?te0 ?oe0 ?qe0 ?de0 ?se0 ?ue0 ?ve0 ?ne0 ?ie0 ?ye0 ?ke0 ?be0 ?we0 ?xe0 ?re0 ?le0 ?ce0 ?pe0 ?ge1 ?he1 ?te1 ?oe1 ?qe1 ?de1 ?se1 ?ue1 ?ve1 ?ne1 ?ie1 ?ye1 ?ke1 ?be1 ?we1 ?xe1 ?re1 ?le1 ?ce1 ?pe1 ?gy0 ?hy0 ?ty0 ?iy0 ?ky0 ?by0 ?wy0 ?xy0 ?ry0 ?zy0 ?a0 ?l0 ?c0 ?k0 ?a1 ?l1 ?c1 ?k1 ?a2 ?l2 ?c2 ?k2 ?a3 ?l3 ?c3 ?k3 ?a4 ?l4 ?c4 ?k4 ?a5 ?l5 ?c5 ?k5 ?a6 ?l6 ?c6 ?k6 ?a7 ?l7 ?c7 ?k7 ?a8 ?l8 ?c8 ?k8 ?a9 ?l9 ?c9 ?k9 ?a10 ?l10 ?c10 ?k10 ?a11 ?l11 ?c11 ?k11 ?a12 ?l12 ?c12 ?k12 ?a13 ?l13 ?c13 ?k13 ?a14 ?l14 ?c14 ?k14 ?a15 ?l15 ?c15 ?k15 ?a16 ?l16 ?c16 ?k16 ?a17 ?l17 ?c17 ?k17 ?a18 ?l18 ?c18 ?k18 ?a19 ?l19 ?c19 ?k19 ?goKinds ?pgoKinds ?hdoKinds ?pooKinds ?saoKinds ?mkoKinds ?kcoKinds ?neoKinds ?oboKinds ?kioKinds ?ktoKinds ?kdoKinds ?caoKinds ?cgoKinds ?ctoKinds ?n_leafoKinds ?n_makingsoKinds ?n_namesoKinds ?atM0Kinds ?ifM0Kinds ?lM0Kinds ?cM0Kinds ?kM0Kinds ?atM2Kinds ?geM2Kinds ?taM2Kinds ?reM2Kinds ?lM2Kinds ?cM2Kinds ?kM2Kinds ?atM3Kinds ?geM3Kinds ?taM3Kinds ?reM3Kinds ?lM3Kinds ?cM3Kinds ?kM3Kinds ?atM4Kinds ?geM4Kinds ?taM4Kinds ?reM4Kinds ?lM4Kinds ?cM4Kinds ?kM4Kinds ?atM5Kinds ?geM5Kinds ?taM5Kinds ?reM5Kinds ?lM5Kinds ?cM5Kinds ?kM5Kinds ?atM6Kinds ?ifM6Kinds ?lM6Kinds ?cM6Kinds ?kM6Kinds ?atM7Kinds ?ifM7Kinds ?lM7Kinds ?cM7Kinds ?kM7Kinds ?atM8Kinds ?ifM8Kinds ?lM8Kinds ?cM8Kinds ?kM8Kinds ?atM9Kinds ?ifM9Kinds ?lM9Kinds ?cM9Kinds ?kM9Kinds ?atM10Kinds ?ifM10Kinds ?lM10Kinds ?cM10Kinds ?kM10Kinds ?atM12Kinds ?ifM12Kinds ?lM12Kinds ?cM12Kinds ?kM12Kinds ?atM13Kinds ?ifM13Kinds ?lM13Kinds ?cM13Kinds ?kM13Kinds ?atM14Kinds ?ifM14Kinds ?lM14Kinds ?cM14Kinds ?kM14Kinds ?m0 ?m1 ?m2 ?m3 ?z0 ?z1 ?z2 ?z3 ?z4 ?z5 ?z6 ?z7 ?z8 ?z9 ?z10 ?z11 ?z12 ?z13 ?z14 ?z15 ?z16 ?z17 ?z18 ?z19 ?z20 ?z21 ?tc0 ?tl0 ?tp0 ?tn0 ?tr0 ?tc1 ?tl1 ?tp1 ?tn1 ?tr1 ?tc2 ?tl2 ?tp2 ?tn2 ?tr2 ?tdd ?nc0
    (case ge0 => k_is); (case he0 => k_is); (case te0 => decide +kernel); (case oe0 => kx_is); (case qe0 => k_is); (case de0 => k_is); (case se0 => k_is); (case ue0 => k_is); (case ve0 => k_is); (case ne0 => k_is); (case ie0 => k_is); (case ye0 => k_is); (case ke0 => k_is); (case be0 => k_is); (case we0 => k_is); (case xe0 => k_is); (case re0 => first | rfl | k_is); (case le0 => k_is); (case ce0 => k_is); (case pe0 => k_is); (case ge1 => k_is); (case he1 => k_is); (case te1 => decide +kernel); (case oe1 => kx_is); (case qe1 => k_is); (case de1 => k_is); (case se1 => k_is); (case ue1 => k_is); (case ve1 => k_is); (case ne1 => k_is); (case ie1 => k_is); (case ye1 => k_is); (case ke1 => k_is); (case be1 => k_is); (case we1 => k_is); (case xe1 => k_is); (case re1 => first | rfl | k_is); (case le1 => k_is); (case ce1 => k_is); (case pe1 => k_is); (case gy0 => k_is); (case hy0 => k_is); (case ty0 => decide +kernel); (case iy0 => k_is); (case ky0 => k_is); (case by0 => k_is); (case wy0 => k_is); (case xy0 => k_is); (case ry0 => first | rfl | k_is); (case zy0 => kernel_rfl); (case a0 => k_is); (case l0 => k_is); (case c0 => k_is); (case k0 => k_is); (case a1 => k_is); (case l1 => k_is); (case c1 => k_is); (case k1 => k_is); (case a2 => k_is); (case l2 => k_is); (case c2 => k_is); (case k2 => k_is); (case a3 => k_is); (case l3 => k_is); (case c3 => k_is); (case k3 => k_is); (case a4 => k_is); (case l4 => k_is); (case c4 => k_is); (case k4 => k_is); (case a5 => k_is); (case l5 => k_is); (case c5 => k_is); (case k5 => k_is); (case a6 => k_is); (case l6 => k_is); (case c6 => k_is); (case k6 => k_is); (case a7 => k_is); (case l7 => k_is); (case c7 => k_is); (case k7 => k_is); (case a8 => k_is); (case l8 => k_is); (case c8 => k_is); (case k8 => k_is); (case a9 => k_is); (case l9 => k_is); (case c9 => k_is); (case k9 => k_is); (case a10 => k_is); (case l10 => k_is); (case c10 => k_is); (case k10 => k_is); (case a11 => k_is); (case l11 => k_is); (case c11 => k_is); (case k11 => k_is); (case a12 => k_is); (case l12 => k_is); (case c12 => k_is); (case k12 => k_is); (case a13 => k_is); (case l13 => k_is); (case c13 => k_is); (case k13 => k_is); (case a14 => k_is); (case l14 => k_is); (case c14 => k_is); (case k14 => k_is); (case a15 => k_is); (case l15 => k_is); (case c15 => k_is); (case k15 => k_is); (case a16 => k_is); (case l16 => k_is); (case c16 => k_is); (case k16 => k_is); (case a17 => k_is); (case l17 => k_is); (case c17 => k_is); (case k17 => k_is); (case a18 => k_is); (case l18 => k_is); (case c18 => k_is); (case k18 => k_is); (case a19 => k_is); (case l19 => k_is); (case c19 => k_is); (case k19 => k_is); (case goKinds => k_is); (case pgoKinds => k_is); (case hdoKinds => k_is); (case pooKinds => k_is); (case saoKinds => k_is); (case mkoKinds => k_is); (case kcoKinds => k_is); (case neoKinds => k_is); (case oboKinds => k_is); (case kioKinds => first | rfl | k_is); (case ktoKinds => first | rfl | k_is); (case kdoKinds => first | rfl | k_is); (case caoKinds => k_is); (case cgoKinds => k_is); (case ctoKinds => k_is); (case n_leafoKinds => k_is); (case n_makingsoKinds => k_is); (case n_namesoKinds => k_is); (case atM0Kinds => k_is); (case ifM0Kinds => k_is); (case lM0Kinds => k_is); (case cM0Kinds => k_is); (case kM0Kinds => k_is); (case atM2Kinds => k_is); (case geM2Kinds => k_is); (case taM2Kinds => k_is); (case reM2Kinds => k_is); (case lM2Kinds => k_is); (case cM2Kinds => k_is); (case kM2Kinds => k_is); (case atM3Kinds => k_is); (case geM3Kinds => k_is); (case taM3Kinds => k_is); (case reM3Kinds => k_is); (case lM3Kinds => k_is); (case cM3Kinds => k_is); (case kM3Kinds => k_is); (case atM4Kinds => k_is); (case geM4Kinds => k_is); (case taM4Kinds => k_is); (case reM4Kinds => k_is); (case lM4Kinds => k_is); (case cM4Kinds => k_is); (case kM4Kinds => k_is); (case atM5Kinds => k_is); (case geM5Kinds => k_is); (case taM5Kinds => k_is); (case reM5Kinds => k_is); (case lM5Kinds => k_is); (case cM5Kinds => k_is); (case kM5Kinds => k_is); (case atM6Kinds => k_is); (case ifM6Kinds => k_is); (case lM6Kinds => k_is); (case cM6Kinds => k_is); (case kM6Kinds => k_is); (case atM7Kinds => k_is); (case ifM7Kinds => k_is); (case lM7Kinds => k_is); (case cM7Kinds => k_is); (case kM7Kinds => k_is); (case atM8Kinds => k_is); (case ifM8Kinds => k_is); (case lM8Kinds => k_is); (case cM8Kinds => k_is); (case kM8Kinds => k_is); (case atM9Kinds => k_is); (case ifM9Kinds => k_is); (case lM9Kinds => k_is); (case cM9Kinds => k_is); (case kM9Kinds => k_is); (case atM10Kinds => k_is); (case ifM10Kinds => k_is); (case lM10Kinds => k_is); (case cM10Kinds => k_is); (case kM10Kinds => k_is); (case atM12Kinds => k_is); (case ifM12Kinds => k_is); (case lM12Kinds => k_is); (case cM12Kinds => k_is); (case kM12Kinds => k_is); (case atM13Kinds => k_is); (case ifM13Kinds => k_is); (case lM13Kinds => k_is); (case cM13Kinds => k_is); (case kM13Kinds => k_is); (case atM14Kinds => k_is); (case ifM14Kinds => k_is); (case lM14Kinds => k_is); (case cM14Kinds => k_is); (case kM14Kinds => k_is); (case m0 => k_is); (case m1 => k_is); (case m2 => k_is); (case m3 => k_is); (case z0 => k_is); (case z1 => k_is); (case z2 => k_is); (case z3 => k_is); (case z4 => k_is); (case z5 => k_is); (case z6 => k_is); (case z7 => k_is); (case z8 => k_is); (case z9 => k_is); (case z10 => k_is); (case z11 => k_is); (case z12 => k_is); (case z13 => k_is); (case z14 => k_is); (case z15 => k_is); (case z16 => k_is); (case z17 => k_is); (case z18 => k_is); (case z19 => k_is); (case z20 => k_is); (case z21 => k_is); (case tc0 => rfl); (case tl0 => k_is); (case tp0 => rfl); (case tn0 => kernel_rfl); (case tr0 => rfl); (case tc1 => rfl); (case tl1 => k_is); (case tp1 => rfl); (case tn1 => kernel_rfl); (case tr1 => rfl); (case tc2 => rfl); (case tl2 => k_is); (case tp2 => rfl); (case tn2 => kernel_rfl); (case tr2 => rfl); (case tdd => decide); (case nc0 => first | rfl | k_is)
