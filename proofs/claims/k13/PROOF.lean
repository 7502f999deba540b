import PyProof.Rows.All
import Wide.All
import OpenK.AllK
import Wide.FinOn
import PyProof.Rows.StrCountLaw
import HandS.ForMost
import HandS.Wide
import HandS.IsInst
import HandS.StrMore
import HandS.Style
import PyProof.ReprReads
import HandS.Ends
import PyProof.ReprRoads
import PyProof.Rows.SortShellAny
import PyProof.TupleOfSeq
import KE.KExcInit
import HandS.ForExc
import HandS.TryMany
import HandS.Defaults
import KE.KCallOwn
import KE.KEqDict
import PyProof.InstEq
import HandS.Base
import HandS.Call
import HandS.List
import HandS.Dict
import HandS.More
import HandS.Comp
import HandS.Words
import HandS.Property
import PyProof.Rows.SetFrom
import HandS.Set
import HandS.Deep
import HandS.ExcValue
import KE.KExcMake
import KE.KExcIs
import HandS.Lambda
import HandS.EndBits
import KE.KNest
import HandS.Walk
import HandS.FStr
import HandS.DictComp
import HandS.ListItems
import HandS.TupAny
import HandS.Star
import HandS.Strs
import HandS.Small
import HandS.SetFor
import PyProof.Rows.StrSplitCount
import PyProof.Rows.StrSplitJoin
import PyProof.Rows.RegFStrParts
import KE.KExcLine
import PySem.Challenge.RW_linkbooks_k13_whole_rows_there_and_back
set_option Elab.async false
set_option linter.all false
set_option maxRecDepth 100000
set_option maxHeartbeats 4000000
namespace Gx
open PySem PySem.Spec PyProof.Rows L2
/-! ### rules of my own, over any program -/
section
variable {X : Cx}
/-- repr of a truth -/
theorem call_repr_bl : CallR X (.builtin "repr") (fun xs H Q => ∃ b : Bool, xs = [.bl b] ∧ Q (.str (if b then "True" else "False")) H) := by
  intro pins s σ H xs us Q I r h
  obtain ⟨b, rfl, q⟩ := h
  obtain ⟨u, rfl, rx⟩ := vals1 r
  cases (show u = Value.bool b from rx)
  exact PySem.P.repr_of_bool ⟨.str _, H, I.tok _, ⟨_, rfl⟩, q⟩
/-- the signs of a text, a text each -/
def signV (x : Str) : List V := x.cps.toList.map fun c => V.str ⟨#[c]⟩
theorem vals_signs {x : Str} {acc : Array Value} (h : ItemsOf (SignAt x) acc x.cps.size) : Vals (signV x) acc.toList := by
  have key : ∀ (l : List Nat) (vs : List Value), vs.length = l.length → (∀ (j : Nat) (v : Value), vs[j]? = some v → ∃ (c : Nat) (u : Tok), l[j]? = some c ∧ v = Value.str ⟨#[c]⟩ u) → Vals (l.map fun c => V.str ⟨#[c]⟩) vs := by
    intro l
    induction l with
    | nil =>
      intro vs hl _
      cases vs with
      | nil => exact .nil
      | cons a r => cases hl
    | cons c l ih =>
      intro vs hl hv
      cases vs with
      | nil => cases hl
      | cons v vs =>
        obtain ⟨c', u, e1, e2⟩ := hv 0 v rfl
        have e1' : c = c' := Option.some.inj e1
        subst e1'
        exact .cons ⟨u, e2⟩ (ih vs (Nat.succ.inj hl) fun j w hw => hv (j + 1) w hw)
  refine key x.cps.toList acc.toList (by rw [Array.length_toList, Array.length_toList]; exact h.1) fun j v hv => ?_
  obtain ⟨c, u, hc, e⟩ := h.2 j v (by simpa using hv)
  exact ⟨c, u, by simpa using hc, e⟩
/-- list(text) -/
theorem call_list_text (hc : X.calm = true) : CallR X (.type "list") (fun xs H Q => ∃ x : Str, xs = [.str x] ∧ x.length ≤ sizeLine ∧ ∀ l, H l = none → Q (.ref l) (upd H l (.lst (signV x)))) := by
  intro pins s σ H xs us Q I r h
  obtain ⟨x, rfl, hz, q⟩ := h
  obtain ⟨u, rfl, t, rfl⟩ := vals1 r
  refine PySem.call_list_str (I.ok.hd hc) x t (fun h' tk acc' c' kp e ha => ?_) hz
  have hv := vals_signs ha
  refine ⟨.ref s.heap.objs.size, _, I.laid (t' := tk) kp (Nat.le_refl _) (show ObjOk X.prog X.w _ h' _ (.lst (signV x)) from ⟨?_, acc'.toList, c', hv, by simpa using e⟩), rfl, q _ (I.hok.fresh (Nat.le_refl _))⟩
  rw [hv.length, Array.length_toList]
  have := ha.1
  rw [this]
  exact hz
/-- tuple(text) -/
theorem call_tuple_text (hc : X.calm = true) : CallR X (.type "tuple") (fun xs H Q => ∃ x : Str, xs = [.str x] ∧ x.length ≤ sizeLine ∧ ∀ l, H l = none → Q (.ref l) (upd H l (.tup (signV x)))) := by
  intro pins s σ H xs us Q I r h
  obtain ⟨x, rfl, hz, q⟩ := h
  obtain ⟨u, rfl, t, rfl⟩ := vals1 r
  refine PySem.call_tuple_str (I.ok.hd hc) x t (fun h' tk acc kp ha => ?_) hz
  have hv := vals_signs ha
  have I1 : Inv X pins σ H { s with heap := h', toks := tk } := I.kept (t' := tk) kp
  have hlen : (signV x).length ≤ sizeLine := by
    rw [hv.length, Array.length_toList]
    have := ha.1
    rw [this]
    exact hz
  have I2 : Inv X pins σ (upd H h'.objs.size (.tup (signV x))) { s with heap := h'.push { cls := .type "tuple", data := .seq acc }, toks := tk } :=
    I1.laid (t' := tk) (fun b o e => Heap.get?_push_of_some _ e) (Nat.le_refl _) (show ObjOk X.prog X.w _ _ _ (.tup (signV x)) from ⟨hlen, acc.toList, hv, by simpa using IsTup.new _ _⟩)
  exact ⟨.ref h'.objs.size, _, I2, rfl, q _ (I1.hok.fresh (Nat.le_refl _))⟩
/-- text * k -/
theorem op_mul_text : OpR X (binaryOp .Mult) (fun x y H Q => ∃ (a : Str) (n : Int), x = .str a ∧ y = .int n ∧ MulOk a n ∧ Q (.str (Txt.mul a n)) H) := by
  intro pins s σ H x y v u Q I rx ry h
  obtain ⟨a, n, rfl, rfl, hz, q⟩ := h
  obtain ⟨t, rfl⟩ := rx
  obtain ⟨t', rfl⟩ := ry
  exact SB.mul hz fun t' k => ⟨.str _, H, I.tok _, ⟨_, rfl⟩, q⟩
end
theorem mulOk_small {a : Str} {n : Int} (h1 : 2 ≤ n) (h2 : n ≤ 1000) (ha : a.length ≤ 1000) : MulOk a n := by
  refine ⟨?_, fun _ _ => ?_, fun _ _ => ?_⟩
  · rw [Bool.or_eq_false_iff]
    exact ⟨decide_eq_false (by omega), decide_eq_false (by omega)⟩
  · have : (1000 : Int) ≤ (2 ^ 63 - 1) / n := by
      refine (Int.le_ediv_iff_mul_le (by omega)).mpr ?_
      have : (1000 : Int) * n ≤ 1000 * 1000 := Int.mul_le_mul_of_nonneg_left h2 (by decide)
      omega
    omega
  · unfold Builtin.Str.tooLong
    refine decide_eq_false ?_
    have h3 : a.length * n.toNat ≤ 1000 * 1000 := Nat.mul_le_mul ha (by omega)
    rw [sizeLine_eq]
    omega

/-! ### defs of the top, and what they promise -/
/-- the def st stands at the top under its name -/
def Def (K : PySem.W.Frag) (mg : Str → Option Value) (x qual : Str) (st : Stmt) (ps : List Str) : Prop :=
  ∃ (f : Addr) (fd : FuncData), Fun K x qual st f fd ∧ Binds K fd ps [] ∧ mg x = some (.ref f)
/-- the name x is a def that keeps the promise sp, by at most level k -/
def Cal (P : Program) (w : World) (K : PySem.W.Frag) (mg : Str → Option Value) (base : Heap) (k : Nat) (x : Str) (ps : List Str) (sp : Sp) : Prop :=
  ∃ (f : Addr) (fd : FuncData), FnOk P w K mg base CX0 k f fd ps sp ∧ PySem.W.keepIn K (.ref f) = true ∧ Binds K fd ps [] ∧ mg x = some (.ref f)
section
variable {P : Program} {w : World} {K : PySem.W.Frag} {mg : Str → Option Value} {base : Heap}
theorem Cal.mono {j k : Nat} {x : Str} {ps : List Str} {sp : Sp} (c : Cal P w K mg base j x ps sp) (h : j ≤ k) : Cal P w K mg base k x ps sp := by
  obtain ⟨f, fd, F, kp, b, g⟩ := c
  exact ⟨f, fd, F.mono h, kp, b, g⟩
theorem Cal.imp {k : Nat} {x : Str} {ps : List Str} {sp sp' : Sp} (c : Cal P w K mg base k x ps sp) (h : ∀ vs H Q E, sp' vs H Q E → sp vs H Q E) : Cal P w K mg base k x ps sp' := by
  obtain ⟨f, fd, F, kp, b, g⟩ := c
  exact ⟨f, fd, F.imp h, kp, b, g⟩
theorem Def.cal {x qual : Str} {st : Stmt} {ps : List Str} (d : Def K mg x qual st ps) {k : Nat} {sp : Sp} (h : ∀ f fd, Fun K x qual st f fd → FnOk P w K mg base CX0 k f fd ps sp) : Cal P w K mg base k x ps sp := by
  obtain ⟨f, fd, F, b, g⟩ := d
  exact ⟨f, fd, h f fd F, F.kp, b, g⟩
end
section
variable {X : Cx}
/-- f(..), without the empty list of defaults -/
def tCl (sp : Sp) (t : TA) : TE := fun σ H Q => t σ H fun vs H1 => sp vs H1 Q E0
theorem tCl_eq (sp : Sp) (t : TA) : tCall sp [] E0 t = tCl sp t := by
  funext σ H Q
  show t σ H _ = t σ H _
  congr 1
  funext vs H1
  rw [List.append_nil]
theorem pe_cal {x : Str} {ps : List Str} {sp : Sp} {k : Nat} {e : Expr} {es : List Expr} {t : TA} {p pos : Pos} (c : Cal X.prog X.w X.K X.mg X.base k x ps sp) (hr : Room k X.A) (hg : Gl X x) (h : PA X (e :: es) t)
    (hdb : (x == ("__debug__" : Str)) = false := by decide) (he : starEach (e :: es) X.env = (false, eval e X.env) :: starEach es X.env := by rfl) (hpl : (backTo pos (starEach es X.env)).any (·.1) = false := by rfl) :
    PE X (.Call (.Name x p) (e :: es) [] pos) (tCl sp t) := by
  obtain ⟨f, fd, F, kp, b, g⟩ := c
  rw [← tCl_eq]
  exact pe_call F hr hg g kp b .nil pass0 h hdb he hpl
theorem pe_cal0 {x : Str} {ps : List Str} {sp : Sp} {k : Nat} {p pos : Pos} (c : Cal X.prog X.w X.K X.mg X.base k x ps sp) (hr : Room k X.A) (hg : Gl X x)
    (hdb : (x == ("__debug__" : Str)) = false := by decide) : PE X (.Call (.Name x p) [] [] pos) (tCl sp tNil) := by
  obtain ⟨f, fd, F, kp, b, g⟩ := c
  rw [← tCl_eq]
  exact pe_call0 F hr hg g kp b .nil pass0 hdb
end
/-- a statement, then the rest, with a word between them: what follows is shown once -/
def tCut (t u : TS) : TS := fun D σ H => ∃ Mid : L2.St → Hp → Prop, t { D with nx := Mid } σ H ∧ ∀ σ' H', Mid σ' H' → u D σ' H'
section
variable {X : Cx}
theorem pss_cut {st : Stmt} {rest : List Stmt} {t u : TS} (h1 : PS X st t) (h2 : PSs X rest u) : PSs X (st :: rest) (tCut t u) := by
  refine ⟨fun pins s σ H D I h => ?_⟩
  obtain ⟨Mid, hm, hu⟩ := h
  refine wpAny_execs_cons (thn (h1.run pins s σ H { D with nx := Mid } I hm) fun f s1 q => ?_)
  cases f with
  | next =>
    obtain ⟨σ', H', I', q⟩ := q
    exact h2.run pins s1 σ' H' D I' (hu σ' H' q)
  | ret v => exact q
  | brk => exact q
  | cont => exact q
end
theorem sqL_ne {K : PySem.W.Frag} {H : Hp} {a d : Addr} {o : HO} {xs : List V} (n : a ≠ d) (h : SqL K H a xs) : SqL K (upd H d o) a xs := by
  rcases h with (h | ⟨u, h⟩) | h
  · exact .inl (.inl (by rw [upd_ne n]; exact h))
  · exact .inl (.inr ⟨u, by rw [upd_ne n]; exact h⟩)
  · exact .inr h
theorem sqT_ne {K : PySem.W.Frag} {H : Hp} {a d : Addr} {o : HO} {xs : List V} (n : a ≠ d) (h : SqT K H a xs) : SqT K (upd H d o) a xs := by
  rcases h with (h | ⟨u, h⟩) | h
  · exact .inl (.inl (by rw [upd_ne n]; exact h))
  · exact .inl (.inr ⟨u, by rw [upd_ne n]; exact h⟩)
  · exact .inr h
theorem atI_int {α : Type} {xs : List α} {r : Int} (h0 : 0 ≤ r) (h1 : r < xs.length) : ∃ v, v ∈ xs ∧ atI xs r = some v := by
  obtain ⟨k, rfl⟩ := Int.eq_ofNat_of_zero_le h0
  have hk : k < xs.length := by omega
  exact ⟨xs[k], List.getElem_mem hk, atI_nat (List.getElem?_eq_getElem hk)⟩
theorem signV_len (z : Str) : (signV z).length = z.length := by
  unfold signV
  rw [List.length_map, Array.length_toList]
  rfl
/-- for c in text -/
theorem for_str {x : Str} {g : TG} {tb : TS} {D : Ends} {σ : L2.St} {H : Hp} (Pv : Nat → L2.St → Hp → Prop) (h0 : Pv 0 σ H)
    (hs : ∀ (i c : Nat) (σ : L2.St) (H : Hp), x.cps.toList[i]? = some c → Pv i σ H → g (.str ⟨#[c]⟩) σ H fun σ2 H2 => tb { D with nx := Pv (i + 1), ct := Pv (i + 1), bk := D.nx } σ2 H2) (hd : ∀ σ H, Pv x.cps.size σ H → D.nx σ H) :
    ∃ W : Nat → Nat → L2.St → Hp → Prop, (∃ m, W 0 m σ H) ∧ ∀ i m σ H, W i m σ H →
      ((Its x).stop i H ∧ D.nx σ H) ∨ ((Its x).go i H ∧ ∃ N : L2.St → Hp → Prop, (∀ σ' H', N σ' H' → ∃ m', m' < m ∧ W (i + 1) m' σ' H') ∧ ∀ v H', (Its x).yld i H v H' → g v σ H' fun σ2 H2 => tb { D with nx := N, ct := N, bk := D.nx } σ2 H2) := by
  refine ⟨fun i m σ H => m = x.cps.size - i ∧ i ≤ x.cps.size ∧ Pv i σ H, ⟨x.cps.size, by simp, Nat.zero_le _, h0⟩, ?_⟩
  rintro i m σ H ⟨rfl, hi, p⟩
  by_cases hlt : i < x.cps.size
  · refine .inr ⟨hlt, Pv (i + 1), fun σ' H' p' => ⟨x.cps.size - (i + 1), by omega, rfl, hlt, p'⟩, fun v H' y => ?_⟩
    obtain ⟨e, c, hc, ev⟩ := y
    subst e ev
    exact hs i c σ _ (by simpa using hc) p
  · have e : i = x.cps.size := by omega
    subst e
    exact .inl ⟨Nat.le_refl _, hd σ H p⟩
theorem decI (a b : Int) : decide (V.int a = V.int b) = decide (a = b) := decide_eq_decide.mpr ⟨V.int.inj, fun e => e ▸ rfl⟩
theorem decS (a b : Str) : decide (V.str a = V.str b) = decide (a = b) := decide_eq_decide.mpr ⟨V.str.inj, fun e => e ▸ rfl⟩
theorem app_len (a b : Str) : (a ++ b).length = a.length + b.length := by
  show (a.cps ++ b.cps).size = _
  rw [Array.size_append]
  rfl
/-- texts of one sign each, joined by nothing -/
theorem join_one {e : Str} (he : e.length = 0) : ∀ zs : List Str, (∀ z ∈ zs, z.length = 1) → (Txt.join e zs).length = zs.length := by
  have key : ∀ zs : List Str, (∀ z ∈ zs, z.length = 1) → (Str.join e zs).length = zs.length := by
    intro zs
    induction zs with
    | nil => intro _; rfl
    | cons x r ih =>
      intro h
      cases r with
      | nil => exact h x (List.mem_cons_self ..)
      | cons y r =>
        show (x ++ e ++ Str.join e (y :: r)).length = _
        rw [app_len, app_len, he, ih fun z hz => h z (List.mem_cons_of_mem _ hz), h x (List.mem_cons_self ..), List.length_cons (a := x)]
        omega
  intro zs h
  rw [TL.join_eq]
  exact key zs h
theorem sum_ones : ∀ zs : List Str, (∀ z ∈ zs, z.length = 1) → (zs.map (·.length)).sum = zs.length
  | [], _ => rfl
  | x :: r, h => by
    rw [List.map_cons, List.sum_cons, sum_ones r fun z hz => h z (List.mem_cons_of_mem _ hz), h x (List.mem_cons_self ..), List.length_cons]
    omega
theorem mul_len {a : Str} {n : Int} (h1 : 2 ≤ n) (ha : 1 ≤ a.length) : (Txt.mul a n).length = a.length * n.toNat := by
  unfold Txt.mul
  rw [if_neg (by omega)]
  have e1 : (n == 1) = false := by rw [beq_eq_false_iff_ne]; omega
  have e2 : (a.length == 0) = false := by rw [beq_eq_false_iff_ne]; omega
  rw [e1, e2, if_neg (by decide)]
  have key : ∀ (k : Nat) (acc : Array Nat), ((List.replicate k a.cps).foldl (· ++ ·) acc).size = acc.size + k * a.cps.size := by
    intro k
    induction k with
    | zero => intro acc; show acc.size = _; omega
    | succ k ih =>
      intro acc
      rw [List.replicate_succ, List.foldl_cons, ih, Array.size_append, Nat.succ_mul]
      omega
  show ((List.replicate n.toNat a.cps).foldl (· ++ ·) #[]).size = a.cps.size * n.toNat
  rw [key, Nat.mul_comm]
  show 0 + _ = _
  omega
theorem same_at {H H' : Hp} {p : Addr} {o : HO} (n : H p = none) (s : Same H H') : Same H (upd H' p o) := fun b u e => by
  rw [upd_ne (ne_of_none e n)]
  exact s b u e
/-- the three numbers of some dice -/
def DiceAt (H : Hp) (d : Addr) : Prop := ∃ x b c : Int, H d = some (.lst [.int x, .int b, .int c])
end Gx

set_option maxRecDepth 100000
set_option maxHeartbeats 4000000
namespace Gx
open PySem PySem.Spec PyProof.Rows L2
/-! ### promises that hold where no repr is under way -/
/-- no repr is under way -/
abbrev Gd (A : Around) : Prop := A.guards = some []
structure FnG (P : Program) (w : World) (K : PySem.W.Frag) (mg : Str → Option Value) (base : Heap) (CX : CXT) (k : Nat) (f : Addr) (fd : FuncData) (ps : List Str) (sp : Sp) : Prop where
  len : ∀ vs H Q E, sp vs H Q E → vs.length = ps.length
  run : ∀ (A : Around) (outer : List Env) (s : Shared) (H : Hp) (args : Args) (us : List Value) (vs : List V) (Q : VK) (E : XK),
    Gd A → Room k A → Env0 P w K mg base A outer s H → BindsTo s fd args (ps.zip us) → Vals vs us → sp vs H Q E →
      codeAny (model P w) A (.call (.ref f) args) (CR CX outer P w H s Q E) s
section
variable {P : Program} {w : World} {K : PySem.W.Frag} {mg : Str → Option Value} {base : Heap} {CX : CXT} {k : Nat} {f : Addr} {fd : FuncData} {ps : List Str} {sp : Sp}
theorem fnG_of (F : FnOk P w K mg base CX k f fd ps sp) : FnG P w K mg base CX k f fd ps sp := ⟨F.len, fun A outer s H args us vs Q E _ => F.run A outer s H args us vs Q E⟩
theorem FnG.up {j : Nat} (F : FnG P w K mg base CX j f fd ps sp) (h : j ≤ k) : FnG P w K mg base CX k f fd ps sp :=
  ⟨F.len, fun A outer s H args us vs Q E g hr => F.run A outer s H args us vs Q E g (hr.mono h)⟩
theorem FnG.less {sp' : Sp} (F : FnG P w K mg base CX k f fd ps sp) (h : ∀ vs H Q E, sp' vs H Q E → sp vs H Q E) : FnG P w K mg base CX k f fd ps sp' :=
  ⟨fun vs H Q E q => F.len vs H Q E (h vs H Q E q), fun A outer s H args us vs Q E g hr he hb hv hs => F.run A outer s H args us vs Q E g hr he hb hv (h vs H Q E hs)⟩
end
/-- a def by its body, where no repr is under way -/
theorem fnG_body {CX : CXT} {P : Program} {w : World} {K : PySem.W.Frag} {mg : Str → Option Value} {base : Heap} {k : Nat} {f : Addr} {nm ql : Str} {prm : Arguments} {bd : List Stmt} {sc : Scope}
    {dv kv dc pm cd ct oc : Value} {an od : Option Addr} {sl : Array (Option Value)} {N ps : List Str} {sp : Sp}
    (look : K.lookup f = some ⟨oc, od, .func (PySem.W.fnOf nm ql prm bd sc dv kv dc pm an cd ct), sl⟩) (hcode : PySem.W.codeIn K cd ql = true) (S : FnScope N ps sc)
    (hlen : ∀ vs H Q E, sp vs H Q E → vs.length = ps.length)
    (hb : ∀ (A : Around) (outer : List Env) (s : Shared) (H : Hp) (vs : List V) (Q : VK) (E : XK), Gd A → Room k (A.deeper (envOfC ql sc s.heap.objs.size f cd)) → sp vs H Q E →
      ∃ t, PSs (cxOf CX P w K mg base N ql sc f cd A outer s H E) bd t ∧ t { nx := fun _ H' => Q .non H', rt := Q } (start N vs) H) :
    FnG P w K mg base CX (k + 1) f (PySem.W.fnOf nm ql prm bd sc dv kv dc pm an cd ct) ps sp := by
  constructor
  · exact hlen
  · intro A outer s H args us vs Q E g room env bind rel want
    have inS : K.In s.heap := env.mod.kin.keeps fun b o e => (env.bs b o e).1
    have noLim : s.heap.NoLimit := env.mod.nolimit.keeps fun b o e => (env.bs b o e).1
    have kinds : ∀ y ∈ ps.zip us, sc.names.lookup y.1 = some .local ∨ (sc.names.lookup y.1 = some .cell ∧ ((cellsFrom (s.heap.objs.size + 1) sc.names []).lookup y.1).isSome = true) := by
      rintro ⟨n, v⟩ hy
      rcases S.par n (List.of_mem_zip hy).1 with q | q
      · exact Or.inl q
      · exact Or.inr ⟨q, PySem.W.cellsFrom_some _ _ _ (Or.inl q)⟩
    refine codeAny_call_function room.depth (inS _ _ look) rfl S.co S.gen rfl (PySem.W.codeRec_of inS hcode)
      (bind _ _ _ _ (wpAny_newFunctionEnv_cells S.kind kinds fun env' he s1 made => ?_))
    subst he
    refine ⟨noLim.keeps made.toInCall.keep, codeAny_func ?_⟩
    obtain ⟨t, ht, hq⟩ := hb A outer s H vs Q E g (room.deeper _) want
    have I0 := inv_start (CX := CX) (E := E) (N := N) S room.hd env (hlen _ _ _ _ want) rel made
    refine wpAny_mono (ht.run [] s1 (start N vs) H _ I0 hq) ?_ (fun e s' hs => hs)
    intro fl s' hs
    cases fl with
    | brk =>
      obtain ⟨_, _, _, no⟩ := hs
      exact no.elim
    | cont =>
      obtain ⟨_, _, _, no⟩ := hs
      exact no.elim
    | next =>
      obtain ⟨σ', H', J, q⟩ := hs
      exact ⟨V.non, H', J.os, J.bare, J.base, J.hok, rfl, q⟩
    | ret u =>
      obtain ⟨v, σ', H', J, rv, q⟩ := hs
      exact ⟨v, H', J.os, J.bare, J.base, J.hok, rv, q⟩
section
variable {P : Program} {w : World} {K : PySem.W.Frag} {mg : Str → Option Value} {base : Heap}
/-- .. of the text -/
theorem okG {x qual : Str} {st : Stmt} {f : Addr} {fd : FuncData} {N ps : List Str} {k : Nat} {sp : Sp} (F : Fun K x qual st f fd) (S : FnScope N ps (defScope st)) (hlen : ∀ vs H Q E, sp vs H Q E → vs.length = ps.length)
    (hb : ∀ (cdv : Value) (A : Around) (outer : List Env) (s : Shared) (H : Hp) (vs : List V) (Q : VK) (E : XK), Gd (A.deeper (envOfC qual (defScope st) s.heap.objs.size f cdv)) → Room k (A.deeper (envOfC qual (defScope st) s.heap.objs.size f cdv)) → sp vs H Q E →
      ∃ t, PSs (cxOf CX0 P w K mg base N qual (defScope st) f cdv A outer s H E).nox (defBody st) t ∧ t { nx := fun _ H' => Q .non H', rt := Q } (start N vs) H) : FnG P w K mg base CX0 (k + 1) f fd ps sp := by
  obtain ⟨oc, od, kV, doc, pm, an, cdv, ct, osl, rfl, lk, hcd⟩ := F.ex
  refine fnG_body lk hcd S hlen fun A outer s H vs Q E g hr want => ?_
  obtain ⟨t, h, q⟩ := hb cdv A outer s H vs Q E g hr want
  exact ⟨t, h.nox, q⟩
/-- .. which may raise -/
theorem okGX {x qual : Str} {st : Stmt} {f : Addr} {fd : FuncData} {N ps : List Str} {k : Nat} {sp : Sp} (F : Fun K x qual st f fd) (S : FnScope N ps (defScope st)) (hlen : ∀ vs H Q E, sp vs H Q E → vs.length = ps.length) {CX : CXT}
    (hb : ∀ (cdv : Value) (A : Around) (outer : List Env) (s : Shared) (H : Hp) (vs : List V) (Q : VK) (E : XK), Gd (A.deeper (envOfC qual (defScope st) s.heap.objs.size f cdv)) → Room k (A.deeper (envOfC qual (defScope st) s.heap.objs.size f cdv)) → sp vs H Q E →
      ∃ t, PSs (cxOf CX P w K mg base N qual (defScope st) f cdv A outer s H E) (defBody st) t ∧ t { nx := fun _ H' => Q .non H', rt := Q } (start N vs) H) : FnG P w K mg base CX (k + 1) f fd ps sp := by
  obtain ⟨oc, od, kV, doc, pm, an, cdv, ct, osl, rfl, lk, hcd⟩ := F.ex
  exact fnG_body lk hcd S hlen fun A outer s H vs Q E g hr want => hb cdv A outer s H vs Q E g hr want
/-- the name x is a def that keeps the promise sp where no repr is under way -/
def CalG (P : Program) (w : World) (K : PySem.W.Frag) (mg : Str → Option Value) (base : Heap) (k : Nat) (x : Str) (ps : List Str) (sp : Sp) : Prop :=
  ∃ (f : Addr) (fd : FuncData), FnG P w K mg base CX0 k f fd ps sp ∧ PySem.W.keepIn K (.ref f) = true ∧ Binds K fd ps [] ∧ mg x = some (.ref f)
theorem Cal.g {k : Nat} {x : Str} {ps : List Str} {sp : Sp} (c : Cal P w K mg base k x ps sp) : CalG P w K mg base k x ps sp := by
  obtain ⟨f, fd, F, r⟩ := c
  exact ⟨f, fd, fnG_of F, r⟩
theorem CalG.up {j k : Nat} {x : Str} {ps : List Str} {sp : Sp} (c : CalG P w K mg base j x ps sp) (h : j ≤ k) : CalG P w K mg base k x ps sp := by
  obtain ⟨f, fd, F, r⟩ := c
  exact ⟨f, fd, F.up h, r⟩
theorem Def.calG {x qual : Str} {st : Stmt} {ps : List Str} (d : Def K mg x qual st ps) {k : Nat} {sp : Sp} (h : ∀ f fd, Fun K x qual st f fd → FnG P w K mg base CX0 k f fd ps sp) : CalG P w K mg base k x ps sp := by
  obtain ⟨f, fd, F, b, g⟩ := d
  exact ⟨f, fd, h f fd F, F.kp, b, g⟩
end
section
variable {X : Cx}
/-- the callee runs -/
theorem runG {CX : CXT} {k : Nat} {f : Addr} {fd : FuncData} {ps : List Str} {sp : Sp} {E : XK} {ds : List Value} {dvs : List V} {pins : List (Addr × Obj)} {σ : L2.St} {H : Hp} {s : Shared} {Q : VK} {us : List Value} {vs : List V}
    (F : FnG X.prog X.w X.K X.mg X.base CX k f fd ps sp) (g : Gd X.A) (room : Room k X.A) (hb : Binds X.K fd ps ds) (hd : Vals dvs ds) (hx : Passes CX X E)
    (I : Inv X pins σ H s) (r : Vals vs us) (want : sp (vs ++ dvs) H Q E) : wpAny (model X.prog X.w) X.A (call (.ref f) us) (EP X pins σ Q) X.xe s := by
  have rel := r.append hd
  have hl : (us ++ ds).length = ps.length := rel.length.symm.trans (F.len _ _ _ _ want)
  have hc := F.run X.A X.stack s H ⟨us, []⟩ (us ++ ds) (vs ++ dvs) Q E g room I.env0 (hb s us I.kIn hl) rel want
  refine wpAny_call (codeAny_mono hc ?_)
  intro res s' hres
  match res, hres with
  | .error e, hres => exact hx pins σ H s e s' I hres
  | .ok (.ret u), hres => exact I.after hres
theorem pe_calG {x : Str} {ps : List Str} {sp : Sp} {k : Nat} {e : Expr} {es : List Expr} {t : TA} {p pos : Pos} (c : CalG X.prog X.w X.K X.mg X.base k x ps sp) (g : Gd X.A) (room : Room k X.A) (hg : Gl X x) (h : PA X (e :: es) t)
    (hdb : (x == ("__debug__" : Str)) = false := by decide) (hst : starEach (e :: es) X.env = (false, eval e X.env) :: starEach es X.env := by rfl) (hpl : (backTo pos (starEach es X.env)).any (·.1) = false := by rfl) :
    PE X (.Call (.Name x p) (e :: es) [] pos) (tCl sp t) := by
  obtain ⟨f, fd, F, kp, b, hm⟩ := c
  rw [← tCl_eq]
  refine ⟨fun pins s σ H Q I want => wpAny_Call_Name_kw (ld_glob I hg hm ?_ hdb)⟩
  exact PySem.W.callWith_K (h₀ := X.base) I.ok.mod.kin kp (thn (h.run pos pins s σ H _ I want) fun us s1 ⟨vs, H1, I1, r, q⟩ => ⟨I1.kIn, runG F g room b .nil pass0 I1 r q⟩) hst hpl
theorem pe_calG0 {x : Str} {ps : List Str} {sp : Sp} {k : Nat} {p pos : Pos} (c : CalG X.prog X.w X.K X.mg X.base k x ps sp) (g : Gd X.A) (room : Room k X.A) (hg : Gl X x)
    (hdb : (x == ("__debug__" : Str)) = false := by decide) : PE X (.Call (.Name x p) [] [] pos) (tCl sp tNil) := by
  obtain ⟨f, fd, F, kp, b, hm⟩ := c
  rw [← tCl_eq]
  exact ⟨fun pins s σ H Q I want => wpAny_Call_Name_kw (ld_glob I hg hm (PySem.W.callWith_K0 I.kIn kp (runG (us := []) F g room b .nil pass0 I .nil want)) hdb)⟩
end
/-! ### repr of data -/
theorem repr_ref {prog : Program} {w : World} {A : Around} {E : Value → Shared → Prop} {s : Shared} {Q : Value → Shared → Prop} {a : Addr} {d : PyData} {as : List Addr}
    (r : Reads s.heap (.ref a) d as) (hs : d.showable = true) (hsm : d.hasDict = true → sysModules ∉ as) (hsz : d.shown.length ≤ sizeLine) (g : Gd A) (hu : A.units + 1 + d.depth < cLine)
    (h : ∀ h' u tk, (∀ b o, s.heap.get? b = some o → h'.get? b = some o) → Q (.str d.shown u) { s with heap := h', toks := tk }) : wpAny (model prog w) A (call (.builtin "repr") [.ref a]) Q E s := by
  obtain ⟨T, idr, B⟩ := showsBy_of_reads (prog := prog) (w := w) r hs hsm hsz
  have hT := B.typeIs s fun _ _ e => e
  refine Calls.call_function_entry F.kind_repr F.plain_repr F.entry_repr (F.args_repr1 _) ?_
  unfold Builtin.«repr»
  refine wpAny_bind (m := oneArg "repr" _) (wpAny_pure ?_)
  refine wpAny_bind (wpAny_cRoomFor (by show A.units + 1 < cLine; omega) ?_)
  refine wpAny_bind (wpAny_specialOf (name := Str.ofString "__repr__") hT B.slotRepr.lookup ?_)
  refine wpAny_bind (m := callSpecialIfBound? (.ref a) (Str.ofString "__repr__")) (wpAny_callSpecialIfBound?_slotG (name := Str.ofString "__repr__") hT B.slotRepr (B.call _ _ s _ g (by show A.units + 1 + _ < cLine; omega) (fun _ _ e => e) fun h' u tk hk => ?_))
  refine wpAny_bind (wpAny_isInstance (T := "str") (b := true) rfl isSubtype_str_str ?_)
  exact wpAny_pure ⟨_, rfl, h h' u tk hk⟩
section
variable {X : Cx}
/-- repr(x), x data without dicts -/
def rRepr (K : PySem.W.Frag) : List V → Hp → VK → Prop := fun xs H Q => ∃ (x : V) (d : PyData), xs = [x] ∧ Dp K H x d ∧ d.showable = true ∧ d.hasDict = false ∧ d.depth ≤ 60 ∧ d.shown.length ≤ sizeLine ∧ Q (.str d.shown) H
theorem call_reprD (g : Gd X.A) (hu : X.A.units + 64 < cLine) : CallR X (.builtin "repr") (rRepr X.K) := by
  intro pins s σ H xs us Q I r h
  obtain ⟨x, d, rfl, hd, h1, h2, h3, h4, q⟩ := h
  obtain ⟨u, rfl, rx⟩ := vals1 r
  obtain ⟨as, hr⟩ := Dp.reads I d x u hd rx
  cases hr with
  | none => simp only [PyData.shown] at q; exact PySem.P.repr_of_none ⟨.str _, H, I.tok _, ⟨_, rfl⟩, q⟩
  | bool b => simp only [PyData.shown] at q; exact PySem.P.repr_of_bool ⟨.str _, H, I.tok _, ⟨_, rfl⟩, q⟩
  | int i t => simp only [PyData.shown] at q; exact PySem.P.repr_of_int (by simpa [PyData.showable] using h1) ⟨.str _, H, I.tok _, ⟨_, rfl⟩, q⟩
  | str y t => simp only [PyData.shown] at q h4; exact PySem.P.repr_of_str ⟨.str _, H, I.tok _, ⟨_, rfl⟩, q⟩ h4
  | list e1 e2 e3 e4 =>
    exact repr_ref (.list e1 e2 e3 e4) h1 (fun e => by rw [h2] at e; cases e) h4 g (by omega) fun h' u tk hk => ⟨.str _, H, I.kept (t' := tk) hk, ⟨_, rfl⟩, q⟩
  | tuple e1 e2 e3 e4 =>
    exact repr_ref (.tuple e1 e2 e3 e4) h1 (fun e => by rw [h2] at e; cases e) h4 g (by omega) fun h' u tk hk => ⟨.str _, H, I.kept (t' := tk) hk, ⟨_, rfl⟩, q⟩
  | dict e1 e2 e3 e4 e5 =>
    exact repr_ref (.dict e1 e2 e3 e4 e5) h1 (fun e => by rw [h2] at e; cases e) h4 g (by omega) fun h' u tk hk => ⟨.str _, H, I.kept (t' := tk) hk, ⟨_, rfl⟩, q⟩
end
/-! ### sorted of a tuple of texts -/
section
variable {X : Cx}
def rSortedTS (K : PySem.W.Frag) : List V → Hp → VK → Prop := fun vs H Q => ∃ (a : Addr) (xs : List Str), vs = [V.ref a] ∧ SqT K H a (xs.map V.str) ∧ xs.length ≤ 100000 ∧
  ∀ (ys : List Str) (p : Addr), ys.Perm xs → sortedS ys = true → H p = none → Q (.ref p) (upd H p (.lst (ys.map V.str)))
theorem cr_sortedTS : CallR X (.builtin "sorted") (rSortedTS X.K) := by
  intro pins s σ H vs us Q I r h
  obtain ⟨a, xs, rfl, ht, hz, q⟩ := h
  obtain ⟨its, rv, ⟨o, ho, hc, n, hd⟩, _⟩ := I.tuple ht
  rw [Vals.ref1 r]
  have hln : xs.length = its.length := by
    have e := rv.length
    rw [List.length_map] at e
    exact e
  have hS : StrsAre its xs := rv.strs
  have hL : its.length ≤ sizeLine := Nat.le_trans (by omega) (show 100000 ≤ sizeLine by decide)
  refine Calls.call_function_entry kind_sorted plain_sorted entry_sorted (args_sorted1 _) ?_
  unfold Builtin.«sorted»
  refine wpAny_bind (m := checkCount "sorted" 1 1 _) (wpAny_pure ?_)
  refine wpAny_bind (wpAny_collect_seq a (.inr rfl) ho hc hd (fun h' hk => ?_) (by rw [List.size_toArray]; exact hL))
  have I1 : Inv _ pins σ H { s with heap := h' } := I.kept (t' := s.toks) hk
  rw [List.toList_toArray]
  refine wpAny_bind (wpAny_newList ?_ hL)
  have hoL : (h'.push (seqObj "list" its.toArray 0)).get? h'.objs.size = some (seqObj "list" its.toArray 0) := Heap.get?_push_size _ rfl
  show wpAny _ _ _ _ _ { s with heap := h'.push (seqObj "list" its.toArray 0) }
  refine wpAny_bind (wpAny_holding (wpAny_call_entry slot_list_sort ⟨_, hoL, rfl⟩ entry_list_sort
    (list_sort_treeKAny strKind_oneLt (s := { s with heap := h'.push (seqObj "list" its.toArray 0) }) hoL hS.keysOf (fun v₁ v₂ rest e => keyKind_strs (by rw [← e]; exact hS)) hL fun st' hp hs => ⟨_, rfl, ?_⟩) (args_list_sort _)))
  obtain ⟨ys, g1, g2, g3⟩ := sorted_out_str hS hp hs
  obtain ⟨e', he'⟩ := sortedHeap_at (vs := its) (out := (arrOf st').map (·.2)) hoL
  have hlen : (ys.map V.str).length ≤ sizeLine := by
    rw [List.length_map, g2.length_eq, hln]
    exact hL
  refine wpAny_pure ⟨_, rfl, .ref h'.objs.size, upd H h'.objs.size (.lst (ys.map V.str)), I1.laid (t' := s.toks) (fun b u e => ?_) (Nat.le_refl _)
    (show ObjOk X.prog X.w _ _ _ (.lst (ys.map V.str)) from ⟨hlen, ((arrOf st').map (·.2)).toList, e', vals_of_strs g1, by rw [Array.toArray_toList]; exact he'⟩), rfl, q ys _ g2 g3 (I1.hok.fresh (Nat.le_refl _))⟩
  have hb : b < h'.objs.size := Heap.lt_size e
  rw [sortedHeap_old (Nat.ne_of_lt hb) (by rw [size_push']; exact Nat.lt_succ_of_lt hb)]
  exact Heap.get?_push_of_some _ e
end
/-! ### the end of a law whose promise holds where no repr is under way -/
/-- the abstract heap at the law's call: the script alone, if the module does not own it -/
def H00 (a : Addr) (o : Obj) (ns : List Int) (own : Bool) : Hp := fun b => if own = false ∧ b = a then some (.frz o (.lst (ns.map V.int))) else none
theorem h00_none {a b : Addr} {o : Obj} {ns : List Int} {own : Bool} (h : own = true ∨ b ≠ a) : H00 a o ns own b = none := by
  unfold H00
  rw [if_neg]
  rintro ⟨h1, h2⟩
  rcases h with h | h
  · rw [h1] at h; cases h
  · exact h h2
theorem h00_some {a b : Addr} {o : Obj} {ns : List Int} {own : Bool} {u : HO} (h : H00 a o ns own b = some u) : own = false ∧ b = a ∧ u = .frz o (.lst (ns.map V.int)) := by
  unfold H00 at h
  by_cases c : own = false ∧ b = a
  · rw [if_pos c] at h
    exact ⟨c.1, c.2, (Option.some.inj h).symm⟩
  · rw [if_neg c] at h
    cases h
theorem lawG {P : Program} {w : World} {K : PySem.W.Frag} {mg mb : Str → Option Value} {CX : CXT} {k : Nat} {fa a : Addr} {fd : FuncData} {x : Str} {sp : Sp} {t : Shared} {vs : List Value} {ns : List Int}
    (inK : K.In t.heap) (glob : t.heap.Ns mainGlobals mg) (blt : t.heap.Ns builtinsNs mb) (boot : ∀ y : Str, y ≠ "__name__" → mb y = bootBuiltins y) (noLim : t.heap.NoLimit) (gens : t.gens = #[])
    (scr : t.heap.get? a = some { cls := .type "list", data := .seq vs.toArray }) (hints : IntsAre vs ns) (short : ns.length ≤ sizeLine) (room : Room k callerA)
    (F : ∀ base : Heap, K.In base → base.Ns mainGlobals mg → FnG P w K mg base CX k fa fd [x] sp) (bind : ∀ (s : Shared) (u : Value), BindsTo s fd ⟨[u], []⟩ [(x, u)])
    (want : ∀ H : Hp, Only H → SqL K H a (ns.map V.int) → sp [.ref a] H (fun v _ => v = .bl true) fun _ _ _ => False)
    (noErr : ∀ H e s', CX [] H t (fun _ _ _ => False) e s' → False) :
    codeAny (model P w) callerA (.call (.ref fa) ⟨[.ref a], []⟩) (fun r s' => r = .ok (.ret (.bool true)) ∧ OldK t.heap s'.heap ∧ s'.os = t.os ∧ AllBare s'.gens) t := by
  have hv : Vals (ns.map V.int) vs := vals_ints hints
  have hlv : vs.length = ns.length := hints.length
  -- does the module own the script?
  obtain ⟨own, hown⟩ : ∃ own : Bool, own = (K.lookup a).isSome := ⟨_, rfl⟩
  let o : Obj := { cls := .type "list", data := .seq vs.toArray }
  have hOk : HOk P w (H00 a o ns own) t.heap := by
    intro b u e
    obtain ⟨_, rfl, rfl⟩ := h00_some e
    exact ⟨scr, by rw [List.length_map]; exact short, vs, _, hv, scr⟩
  have keepT : ∀ {b : Addr} {ob : Obj}, t.heap.get? b = some ob → own = true ∨ b ≠ a → (hidT t.heap (H00 a o ns own)).get? b = some ob := fun e n => hidT_get e (h00_none n)
  have notScr : ∀ {b : Addr} {m : Str → Option Value}, t.heap.Ns b m → b ≠ a := by
    rintro b m ⟨ob, es, ep, e, dd, _⟩ rfl
    rw [scr] at e
    cases e
    cases dd
  have nsKeep : ∀ {b : Addr} {m : Str → Option Value}, t.heap.Ns b m → (hidT t.heap (H00 a o ns own)).Ns b m := by
    intro b m n
    have ne := notScr n
    obtain ⟨ob, es, ep, e, r⟩ := n
    exact ⟨ob, es, ep, keepT e (.inr ne), r⟩
  have inK' : K.In (hidT t.heap (H00 a o ns own)) := by
    intro b ob e
    refine keepT (inK b ob e) ?_
    by_cases hb : b = a
    · subst hb
      left
      rw [hown, e]
      rfl
    · exact .inr hb
  have noLim' : (hidT t.heap (H00 a o ns own)).NoLimit := by
    obtain ⟨mc, h1, h2⟩ := noLim
    exact ⟨mc, nsKeep h1, h2⟩
  have env : Env0 P w K mg (hidT t.heap (H00 a o ns own)) callerA [] t (H00 a o ns own) := by
    refine ⟨rfl, ⟨inK', nsKeep glob, ⟨mb, nsKeep blt, boot⟩, noLim'⟩, fun b ob e => of_hidT e, Nat.le_of_eq (hidT_size _ _), trivial, ?_, hOk, .of_eq gens⟩
    intro b hb
    exact absurd (show b ∈ ([] : List Addr) from hb) List.not_mem_nil
  have only : Only (H00 a o ns own) := by
    intro b
    cases e : H00 a o ns own b with
    | none => exact .inl rfl
    | some u =>
      obtain ⟨_, _, rfl⟩ := h00_some e
      exact .inr ⟨_, _, rfl⟩
  have hS : SqL K (H00 a o ns own) a (ns.map V.int) := by
    cases own with
    | false => exact .inl (.inr ⟨o, by unfold H00; rw [if_pos ⟨rfl, rfl⟩]⟩)
    | true =>
      obtain ⟨ob, e⟩ := Option.isSome_iff_exists.mp hown.symm
      have e2 := inK a ob e
      rw [scr] at e2
      cases e2
      exact .inr ⟨_, vs.toArray, _, e, rfl, rfl, rfl, by rw [List.size_toArray, hlv]; exact short, by simpa using hv⟩
  have runs := (F _ inK' (nsKeep glob)).run callerA [] t (H00 a o ns own) ⟨[.ref a], []⟩ [.ref a] [.ref a] _ _ rfl room env (bind t (.ref a)) (.cons rfl .nil) (want _ only hS)
  refine codeAny_mono runs ?_
  intro res s' hres
  match res, hres with
  | .error e, hres => exact (noErr _ e s' hres).elim
  | .ok (.ret u), hres =>
    obtain ⟨v, H', hos, bare, un, ok', rel, rfl⟩ := hres
    obtain rfl : u = Value.bool true := rel
    refine ⟨rfl, OldK.of_keep fun b ob e => ?_, hos, bare⟩
    cases q : H00 a o ns own b with
    | none => exact un.keep b ob e q (fun z => absurd (show b ∈ ([] : List Addr) from z) List.not_mem_nil) List.not_mem_nil
    | some u =>
      obtain ⟨_, _, rfl⟩ := h00_some q
      have q' := un.frzs b _ _ q
      have e1 := (hOk b _ q).1
      rw [e] at e1
      cases e1
      exact (ok' b _ q').1
/-- what k_head leaves -/
theorem walkG {l : PySem.W.OpenLaw} {n k : Nat} {q : Program} {loose : List Str} {XP : (Str → Option Value) → Heap → Prop} {YP : World → Heap → Prop} {d : DefRec} {K : Params → PySem.W.Frag} {CX : World → CXT} {sp : World → Sp} {x : Str}
    (most : l.most = some n) (small : n ≤ sizeLine) (plain : d.params.defaults = []) (room : Room k callerA) (hY : ∀ (w : World) (h : Heap), YP w h → (K w.params).In h)
    (F : ∀ (w : World) (mg : Str → Option Value) (fa : Addr) (h : Heap), (K w.params).In h → h.Ns mainGlobals mg → mg d.name = some (.ref fa) →
      ∃ fd : FuncData, (∀ (s : Shared) (u : Value), BindsTo s fd ⟨[u], []⟩ [(x, u)]) ∧ ∀ base : Heap, (K w.params).In base → base.Ns mainGlobals mg → FnG l.prog w (K w.params) mg base (CX w) k fa fd [x] (sp w))
    (want : ∀ (w : World) (H : Hp) (a : Addr) (ns : List Int), ns.length ≤ n → Only H → SqL (K w.params) H a (ns.map V.int) → sp w [.ref a] H (fun v _ => v = .bl true) fun _ _ _ => False)
    (noErr : ∀ (w : World) (H : Hp) (s : Shared) (e : Value) (s' : Shared), CX w [] H s (fun _ _ _ => False) e s' → False) :
    PySem.W.WalkO q loose XP YP l.row.toRowW d [] (fun f vs => PySem.call f vs) := by
  refine Att.attach_call most plain fun w s₀ t mg mb fa o pm cd doc a vs ns G Y ho hd hcd hmg scr hints hlen gens => ?_
  obtain ⟨fd, bind, body⟩ := F w mg fa _ (hY w _ Y) G.T.g hmg
  exact lawG (hY w _ Y) G.T.g G.T.b G.T.builtins G.T.nolimit gens scr hints (Nat.le_trans hlen small) room body bind (fun H hO hS => want w H a ns hlen hO hS) fun H e s' => noErr w H t e s'
end Gx

set_option maxRecDepth 100000
set_option maxHeartbeats 4000000
namespace Gx
open PySem PySem.Spec PySem.W PySem.Calls Builtin Builtin.ObjectAttr
section
variable {prog : Program} {w : World} {A : Around} {R : Result → Shared → Prop} {hp : Heap} {g : Array GenState} {d : Drawn} {t : Nat} {os : OsState} {K : Frag}
/-- the first field of an own exception, over any built-in base -/
theorem exc_storeX {B : String} {bmB : List Value} {name : Str} {tk : Tok} {v : Value} {x C t0 : Addr} (SF : StoreFacts B bmB "object.__setattr__" "object")
    (inK : K.In hp) (hx : hp.get? x = some (excObj C t0 none .none)) (over : excOver K C bmB = true) (noTake : takerIn K C name = some none) (hasD : hasDictIn K C = true)
    (hq : ∀ (h' : Heap) (tk' : Nat) (dx : Addr), (∀ b o, b ≠ x → hp.get? b = some o → h'.get? b = some o) → hp.objs.size ≤ dx → dx ≠ x → h'.get? x = some (excObj C t0 (some dx) .none) →
      h'.Ns1 dx (fun y => if y = name then some v else none) → R (.ok (.ret .none)) ⟨h', g, d, tk', os⟩) :
    codeAny (model prog w) A (.call (.builtin "object.__setattr__") ⟨[.ref x, .str name tk, v], []⟩) R ⟨hp, g, d, t, os⟩ := by
  have xs : x ≠ hp.objs.size := Nat.ne_of_lt (Heap.lt_size hx)
  refine osa_openX (s := ⟨hp, g, d, t, os⟩) (od := none) SF inK ⟨hx, rfl, rfl, trivial⟩ over noTake fun b => ?_
  obtain ⟨cd, hc, hd⟩ := any_some hasD
  refine wpAny_bind (wpAny_pure (wpAny_bind (instanceDict_exc (s := ⟨hp, g, d, t, os⟩) hx (looks_clsIn inK hc) hd ?_)))
  show wpAny _ _ (storeInDict hp.objs.size (.str name tk) name v) _ _ _
  have hx1 : (hp.push (dictOf [] 0)).get? x = some (excObj C t0 none .none) := Heap.get?_push_of_some _ hx
  refine PySem.HandSPX.store_in_new ⟨_, #[], _, (Heap.get?_update_ne _ _ _ _ xs.symm).trans (Heap.get?_push_at rfl rfl), rfl, fun e he => absurd he (by simp), fun _ => rfl⟩ fun h' tk' hn hs => ?_
  refine hq h' tk' hp.objs.size (fun b o hb ho => ?_) (Nat.le_refl _) xs.symm ((hs.2 x xs).trans (Heap.get?_update_self _ hx1 rfl)) hn
  have bl : b ≠ hp.objs.size := Nat.ne_of_lt (Heap.lt_size ho)
  exact (hs.2 b bl).trans ((Heap.get?_update_ne _ _ _ _ hb).trans (Heap.get?_push_of_some _ ho))
end
end Gx
namespace Gx
open PySem PySem.Spec PySem.W PySem.Calls PyProof.Rows L2
/-! ### own exceptions with one field: class cn(B): def __init__(self, fld): self.fld = fld -/
/-- what the written part says of the class -/
structure XTxt (K : Frag) (mg : Str → Option Value) (cn fld : Str) (newId : String) (bmB : List Value) (C fI : Addr) : Prop where
  gC : mg cn = some (.ref C)
  cls : ∃ nm q N bs bm sn sub ab col dd k0 k1 k2 k3 k5, K.lookup C = some (excClassObj nm q C N bs bm true sn sub ab col dd k0 k1 k2 k3 k5 newId) ∧ excTail bmB bm = true
  over : excOver K C bmB = true
  tak : takerIn K C fld = some none
  hdC : hasDictIn K C = true
  sa : findIn K (.ref C) "__setattr__" = some (some (.builtin "object.__setattr__"))
  ga : findIn K (.ref C) "__getattribute__" = some (some (.builtin "BaseException.__getattribute__"))
  gg : findIn K (.ref C) "__getattr__" = some none
  noN : findIn K (.ref C) fld = some none
  iC : findIn K (.ref C) "__init__" = some (some (.ref fI))
  tC : typeIn K (.ref fI) = some (.type "function")
  kC : keepIn K (.ref C) = true
  exC : subIn K (.ref C) (.type "BaseException") = some true
  tyC : typeIn K (.ref C) = some (.type "type")
  te : exmOne K (.ref C) (.ref C) = some true
/-- what __init__ leaves of a new exception at x -/
structure XInit (h h' : Heap) (x C dx t0 : Addr) (fld : Str) (v : Value) : Prop where
  keep : ∀ b o, b ≠ x → h.get? b = some o → h'.get? b = some o
  obj : h'.get? x = some (excObj C t0 (some dx) .none)
  big : h.objs.size ≤ dx
  ne : dx ≠ x
  ns : h'.Ns1 dx (fun y => if y = fld then some v else none)
/-- __init__ stores the field -/
def InitDoes (K : Frag) (C fI : Addr) (fld : Str) : Prop := ∀ (prog : Program) (w : World) (A : Around) (R : Result → Shared → Prop) (s : Shared) (x t0 : Addr) (v : Value),
  K.In s.heap → s.heap.NoLimit → s.heap.get? x = some (excObj C t0 none .none) → K.lookup x = none → A.depth < recursionLimit →
  (∀ h' tk dx, XInit s.heap h' x C dx t0 fld v → R (.ok (.ret .none)) { s with heap := h', toks := tk }) → codeAny (model prog w) A (.call (.ref fI) ⟨[.ref x, v], []⟩) R s
/-- such an exception, made -/
structure XMade (h h' : Heap) (e C d : Addr) (fld : Str) (v : Value) : Prop where
  keep : ∀ b o, h.get? b = some o → h'.get? b = some o
  new : h.objs.size ≤ e
  obj : ∃ oe vs, h'.get? e = some oe ∧ oe.cls = .ref C ∧ oe.dict = some d ∧ oe.data = .fields vs ∧ vs[1]? = some .none
  big : h.objs.size ≤ d
  ne : d ≠ e
  ns : h'.Ns1 d (fun y => if y = fld then some v else none)
theorem one_line (v : Value) : [v].length ≤ sizeLine := by
  show 1 ≤ sizeLine
  decide
section
variable {prog : Program} {w : World} {A : Around} {R : Result → Shared → Prop} {s : Shared} {K : Frag} {mg : Str → Option Value} {C fI : Addr} {cn fld : Str} {B newId initId : String} {bmB : List Value}
theorem x_made (FB : ExcBaseFacts B newId initId bmB) (T : XTxt K mg cn fld newId bmB C fI) (D : InitDoes K C fI fld) {v : Value} (inK : K.In s.heap) (lim : s.heap.NoLimit) (room : A.depth + 1 < recursionLimit)
    (hq : ∀ h' tk e d, XMade s.heap h' e C d fld v → R (.ok (.ret (.ref e))) { s with heap := h', toks := tk }) : codeAny (model prog w) A (.call (.ref C) ⟨[v], []⟩) R s := by
  obtain ⟨nm, q, N, bs, bm, sn, sub, ab, col, dd, k0, k1, k2, k3, k5, hC, tail⟩ := T.cls
  obtain ⟨hp, g, dr, tk, os⟩ := s
  have stay : ∀ b o, hp.get? b = some o → ((hp.push (kdv_tup [v])).push (excObj C hp.objs.size none .none)).get? b = some o := fun b o e => Heap.get?_push_of_some _ (Heap.get?_push_of_some _ e)
  have there : ((hp.push (kdv_tup [v])).push (excObj C hp.objs.size none .none)).get? (hp.objs.size + 1) = some (excObj C hp.objs.size none .none) := by heap_get
  have fresh : K.lookup (hp.objs.size + 1) = none := by
    cases e : K.lookup (hp.objs.size + 1) with
    | none => rfl
    | some o => exact absurd (Nat.lt_of_succ_lt (Heap.lt_size (inK _ _ e))) (Nat.lt_irrefl _)
  refine PySem.HandSPX.call_own FB (fun Y => excTail_contains Y bm tail) (inK _ _ hC) (looks_findIn inK T.iC) (fun self => bind_fn inK self T.tC) (one_line v) ?_
  refine D prog w _ _ ⟨(hp.push (kdv_tup [v])).push (excObj C hp.objs.size none .none), g, dr, tk, os⟩ _ _ v (inK.keeps stay) (lim.keeps stay) there fresh room fun h' tk' dx M => ?_
  have old : ∀ b o, hp.get? b = some o → h'.get? b = some o := fun b o e => M.keep b o (Nat.ne_of_lt (Nat.lt_succ_of_lt (Heap.lt_size e))) (stay b o e)
  have z : hp.objs.size + 1 + 1 ≤ dx := by
    have q := M.big
    first
      | exact q
      | simpa only [Heap.size_push] using q
  exact ⟨rfl, hq h' tk' (hp.objs.size + 1) dx ⟨old, Nat.le_succ _, ⟨_, _, M.obj, rfl, rfl, rfl, rfl⟩, Nat.le_trans (Nat.le_trans (Nat.le_succ _) (Nat.le_succ _)) z, M.ne, M.ns⟩⟩
end
theorem relO_one {fld : Str} {v : V} {u : Value} (r : RelV v u) (f : Str) : RelO (List.lookup f [(fld, v)]) (if f = fld then some u else none) := by
  by_cases e : f = fld
  · subst e
    rw [if_pos rfl, show List.lookup f [(f, v)] = some v by simp [List.lookup]]
    exact r
  · have q : (f == fld) = false := by simpa using e
    rw [if_neg e, show List.lookup f [(fld, v)] = none by simp [List.lookup, q]]
    trivial
section
variable {X : Cx} {C fI : Addr} {cn fld : Str} {B newId initId : String} {bmB : List Value}
/-- cn(e) -/
def tMkX (C : Addr) (fld : Str) (ta : TA) : L2.St → Hp → XK → Prop := fun σ H Q => ta σ H fun vs H1 => ∃ v, vs = [v] ∧ ∀ d, H1 d = none → Q (.ref C) (some d) (upd H1 d (.xd [(fld, v)]))
theorem pmk_x {a : Expr} {ta : TA} {p pos : Pos} {k : Nat} (FB : ExcBaseFacts B newId initId bmB) (T : XTxt X.K X.mg cn fld newId bmB C fI) (D : InitDoes X.K C fI fld) (room : Room k X.A) (ha : PA X [a] ta) (hg : Gl X cn)
    (hdb : (cn == ("__debug__" : Str)) = false := by decide) (hst : starEach (a :: []) X.env = (false, eval a X.env) :: starEach [] X.env := by rfl) (hpl : (backTo pos (starEach [] X.env)).any (·.1) = false := by rfl) :
    PMk X (.Call (.Name cn p) [a] [] pos) (tMkX C fld ta) := by
  intro pins s σ H Q I h
  refine wpAny_Call_Name_kw (ld_glob I hg T.gC ?_ hdb)
  refine PySem.W.callWith_K (h₀ := X.base) I.ok.mod.kin T.kC (thn (ha.run pos pins s σ H _ I h) ?_) hst hpl
  rintro us s1 ⟨vs, H1, I1, r1, v, rfl, q1⟩
  refine ⟨I1.kIn, ?_⟩
  obtain ⟨u, rfl, rv⟩ := vals1 r1
  show wpAny _ _ (call (.ref C) [u]) _ _ _
  have lim := I1.nolimit
  obtain ⟨hp, g, dr, tk, os⟩ := s1
  refine wpAny_call (x_made FB T D I1.kIn lim (by have := room.dp; omega) fun h' tk' e d M => ?_)
  show MkP X pins σ Q (.ref e) ⟨h', g, dr, tk', os⟩
  obtain ⟨oe, fv, hoe, hc, hd, hdat, h1⟩ := M.obj
  obtain ⟨G', g1, g2⟩ := restrict h' fun b => decide (b ≠ e)
  have off : ∀ b, b ≠ e → G'.get? b = h'.get? b := fun b hb => g1 b (decide_eq_true hb)
  have gone : G'.get? e = none := g2 e (by simp)
  have old : ∀ b o, hp.get? b = some o → G'.get? b = some o := fun b o q => (off b (Nat.ne_of_lt (Nat.lt_of_lt_of_le (Heap.lt_size q) M.new))).trans (M.keep b o q)
  have ob : ObjOk X.prog X.w (upd H1 d (.xd [(fld, v)])) G' d (.xd [(fld, v)]) := ⟨_, M.ns.at (fun o q => (off d M.ne).trans q), fun f => relO_one rv f⟩
  have J : Inv X pins σ (upd H1 d (.xd [(fld, v)])) ⟨G', g, dr, tk', os⟩ := I1.laid (t' := tk') old M.big ob
  refine ⟨e, oe, fv, ⟨G', g, dr, tk', os⟩, _, .ref C, some d, rfl, J, ?_, gone, hoe, ⟨hc, hd⟩, hdat, h1, ?_, rfl, I1.bare, raises_own T.exC T.tyC, q1 d (I1.hok.fresh M.big)⟩
  · intro b o q
    have q' : G'.get? b = some o := q
    by_cases hb : b = e
    · rw [hb, gone] at q'
      cases q'
    · exact (off b hb).symm.trans q
  · rw [upd_ne (Ne.symm M.ne)]
    exact I1.hok.fresh M.new
/-- raise cn(e) -/
def tRaiseX (C : Addr) (fld : Str) (W : WX) (ta : TA) : TS := fun _ σ H => tMkX C fld ta σ H fun cls d H' => W cls d σ H'
theorem ps_raiseX {a : Expr} {ta : TA} {W : WX} {p pos pos2 : Pos} {k : Nat} (hc : X.calm = true) (FB : ExcBaseFacts B newId initId bmB) (T : XTxt X.K X.mg cn fld newId bmB C fI) (D : InitDoes X.K C fI fld) (room : Room k X.A) (tk : Takes X W) (ha : PA X [a] ta) (hg : Gl X cn)
    (hdb : (cn == ("__debug__" : Str)) = false := by decide) (hst : starEach (a :: []) X.env = (false, eval a X.env) :: starEach [] X.env := by rfl) (hpl : (backTo pos (starEach [] X.env)).any (·.1) = false := by rfl) :
    PS X (.Raise (some (.Call (.Name cn p) [a] [] pos)) none pos2) (tRaiseX C fld W ta) := ps_raise hc tk (pmk_x FB T D room ha hg hdb hst hpl)
/-- e.fld, e the exception that the suite holds (at a; its class cls, its dict d) -/
def tByX (C : Addr) (fld : Str) (a : Addr) (cls : Value) (d : Option Addr) (te : TE) : TE := fun σ H Q => te σ H fun x H1 => x = .ref a ∧ cls = .ref C ∧ ∃ (dd : Addr) (v : V), d = some dd ∧ H1 dd = some (.xd [(fld, v)]) ∧ Q v H1
theorem pe_byX {a : Addr} {oe : Obj} {cls : Value} {d : Option Addr} {pn : List (Addr × Obj)} {e : Expr} {te : TE} {pos : Pos} (T : XTxt X.K X.mg cn fld newId bmB C fI) (hz : Zc cls d oe) (hf : ∃ vs, oe.data = .fields vs) (he : PE (X.suite a ((a, oe) :: pn)) e te)
    (hb : attributeBase e fld X.env (eval e X.env) = eval e X.env := by rfl) : PE (X.suite a ((a, oe) :: pn)) (.Attribute e fld pos) (tByX C fld a cls d te) := by
  constructor
  intro pins s σ H Q I h
  refine attr_of hb (thn (he.run pins s σ H _ I h) ?_)
  rintro u s1 ⟨x, H1, I1, rx, rfl, rfl, dd, v, rfl, ea, q⟩
  obtain rfl : u = Value.ref a := rx
  obtain ⟨here, _⟩ := I1.pin (a, oe) (List.mem_append_left _ List.mem_cons_self)
  obtain ⟨vs, hd⟩ := hf
  obtain ⟨mA, hns, hr⟩ := (show ObjOk X.prog X.w H1 s1.heap dd (.xd [(fld, v)]) from I1.hok dd _ ea)
  obtain ⟨od, ho, hl⟩ := lookIn_ns hns
  have l : List.lookup fld [(fld, v)] = some v := by simp [List.lookup]
  have hrf := hr fld
  rw [l] at hrf
  obtain ⟨u, hu, ru⟩ := RelO.some_of (v := v) (o := mA fld) hrf
  have J : PySem.W.InstAt s1.heap a oe C (some od) := ⟨here, hz.1, by unfold PySem.W.notCls; rw [hd] <;> rfl, by rw [hz.2]; exact ho⟩
  exact HandSPX.exc_get I1.kIn J T.ga T.gg T.exC (PySem.W.findObj_own T.hdC T.noN rfl (by rw [hl, hu])) (handed_of ru) ⟨v, H1, I1.tok _, ru, q⟩
end
end Gx
namespace Gx
open PySem PySem.Spec PySem.Calls PyProof.Rows L2
/-! ### calls of defs that may raise, also with keywords, where no repr is under way -/
section
variable {P : Program} {w : World} {K : PySem.W.Frag} {mg : Str → Option Value} {base : Heap}
theorem FnG.toX {k : Nat} {f : Addr} {fd : FuncData} {ps : List Str} {sp : Sp} (F : FnG P w K mg base CX0 k f fd ps sp) : FnG P w K mg base (L2.CX P w) k f fd ps sp := by
  refine ⟨F.len, fun A outer s H args us vs Q E g hr he hb hv hs => codeAny_mono (F.run A outer s H args us vs Q E g hr he hb hv hs) ?_⟩
  intro r s' h
  match r, h with
  | .error e, h => exact h.elim
  | .ok (.ret u), h => exact h
/-- the name x is a def that keeps sp, and may raise -/
def CalX (P : Program) (w : World) (K : PySem.W.Frag) (mg : Str → Option Value) (base : Heap) (k : Nat) (x : Str) (ps : List Str) (sp : Sp) : Prop :=
  ∃ (f : Addr) (fd : FuncData), FnG P w K mg base (L2.CX P w) k f fd ps sp ∧ PySem.W.keepIn K (.ref f) = true ∧ Binds K fd ps [] ∧ mg x = some (.ref f)
theorem CalX.up {j k : Nat} {x : Str} {ps : List Str} {sp : Sp} (c : CalX P w K mg base j x ps sp) (h : j ≤ k) : CalX P w K mg base k x ps sp := by
  obtain ⟨f, fd, F, r⟩ := c
  exact ⟨f, fd, F.up h, r⟩
theorem CalG.toX {k : Nat} {x : Str} {ps : List Str} {sp : Sp} (c : CalG P w K mg base k x ps sp) : CalX P w K mg base k x ps sp := by
  obtain ⟨f, fd, F, r⟩ := c
  exact ⟨f, fd, F.toX, r⟩
theorem Def.calX {x qual : Str} {st : Stmt} {ps : List Str} (d : Def K mg x qual st ps) {k : Nat} {sp : Sp} (h : ∀ f fd, Fun K x qual st f fd → FnG P w K mg base (L2.CX P w) k f fd ps sp) : CalX P w K mg base k x ps sp := by
  obtain ⟨f, fd, F, b, g⟩ := d
  exact ⟨f, fd, h f fd F, F.kp, b, g⟩
/-- .. called with n values by position and keywords ks; gV puts them in the parameters' order -/
def CalK (P : Program) (w : World) (K : PySem.W.Frag) (mg : Str → Option Value) (base : Heap) (k : Nat) (x : Str) (ps : List Str) (n : Nat) (ks : List Str) (gV : List V → List V → List V) (sp : Sp) : Prop :=
  ∃ (f : Addr) (fd : FuncData) (g : List Value → List Value → List Value), FnG P w K mg base (L2.CX P w) k f fd ps sp ∧ PySem.W.keepIn K (.ref f) = true ∧ KBn K fd ps n ks g gV ∧ mg x = some (.ref f)
theorem CalK.up {j k n : Nat} {x : Str} {ps ks : List Str} {gV : List V → List V → List V} {sp : Sp} (c : CalK P w K mg base j x ps n ks gV sp) (h : j ≤ k) : CalK P w K mg base k x ps n ks gV sp := by
  obtain ⟨f, fd, g, F, r⟩ := c
  exact ⟨f, fd, g, F.up h, r⟩
/-- the top's def with keyword-only parameters and no defaults -/
def DefK (K : PySem.W.Frag) (mg : Str → Option Value) (x qual : Str) (st : Stmt) (ps : List Str) (n : Nat) (ks : List Str) : Prop :=
  ∃ (f : Addr) (fd : FuncData), Fun K x qual st f fd ∧ KBn K fd ps n ks (fun us ws => us ++ ws) (fun vs zs => vs ++ zs) ∧ mg x = some (.ref f)
theorem DefK.calK {x qual : Str} {st : Stmt} {ps ks : List Str} {n : Nat} (d : DefK K mg x qual st ps n ks) {k : Nat} {sp : Sp} (h : ∀ f fd, Fun K x qual st f fd → FnG P w K mg base (L2.CX P w) k f fd ps sp) : CalK P w K mg base k x ps n ks (fun vs zs => vs ++ zs) sp := by
  obtain ⟨f, fd, F, b, g⟩ := d
  exact ⟨f, fd, _, h f fd F, F.kp, b, g⟩
theorem kbn_of {fd : FuncData} {ps ks : List Str} {n : Nat} (h : ∀ us ws : List Value, us.length = n → ws.length = ks.length → bindArgs fd ⟨us, ks.zip ws⟩ = pure (ps.zip (us ++ ws))) : KBn K fd ps n ks (fun us ws => us ++ ws) (fun vs zs => vs ++ zs) :=
  ⟨fun s us ws _ h1 h2 => .of_eq (h us ws h1 h2), fun r1 r2 => r1.append r2⟩
end
section
variable {X : Cx}
/-- nothing is raised -/
theorem neverAt (σ : L2.St) : PassesAt (L2.CX X.prog X.w) X σ ((fun _ => E0) σ) := by
  rintro pins H s e s' I ⟨a, B, H', cls, d, _, _, _, _, _, _, _, no⟩
  exact no.elim
theorem runX {k : Nat} {f : Addr} {fd : FuncData} {ps : List Str} {sp : Sp} {E : L2.St → XK} {args : Args} {pins : List (Addr × Obj)} {σ : L2.St} {H : Hp} {s : Shared} {Q : VK} {us : List Value} {vs : List V}
    (F : FnG X.prog X.w X.K X.mg X.base (L2.CX X.prog X.w) k f fd ps sp) (g : Gd X.A) (room : Room k X.A) (hb : BindsTo s fd args (ps.zip us)) (hx : PassesAt (L2.CX X.prog X.w) X σ (E σ))
    (I : Inv X pins σ H s) (r : Vals vs us) (want : sp vs H Q (E σ)) : wpAny (model X.prog X.w) X.A (call (.ref f) args.pos args.kw) (EP X pins σ Q) X.xe s := by
  have hc := F.run X.A X.stack s H args us vs Q (E σ) g room I.env0 hb r want
  refine wpAny_call (codeAny_mono hc ?_)
  intro res s' hres
  match res, hres with
  | .error e, hres => exact hx pins H s e s' I hres
  | .ok (.ret u), hres => exact I.after hres
def tClX (sp : Sp) (E : L2.St → XK) (t : TA) : TE := fun σ H Q => t σ H fun vs H1 => sp vs H1 Q (E σ)
theorem pe_calX {x : Str} {ps : List Str} {sp : Sp} {k : Nat} {e : Expr} {es : List Expr} {t : TA} {E : L2.St → XK} {p pos : Pos} (c : CalX X.prog X.w X.K X.mg X.base k x ps sp) (g : Gd X.A) (room : Room k X.A) (hg : Gl X x) (hx : ∀ σ, PassesAt (L2.CX X.prog X.w) X σ (E σ)) (h : PA X (e :: es) t)
    (hdb : (x == ("__debug__" : Str)) = false := by decide) (hst : starEach (e :: es) X.env = (false, eval e X.env) :: starEach es X.env := by rfl) (hpl : (backTo pos (starEach es X.env)).any (·.1) = false := by rfl) :
    PE X (.Call (.Name x p) (e :: es) [] pos) (tClX sp E t) := by
  obtain ⟨f, fd, F, kp, b, hm⟩ := c
  refine ⟨fun pins s σ H Q I want => wpAny_Call_Name_kw (ld_glob I hg hm ?_ hdb)⟩
  refine PySem.W.callWith_K (h₀ := X.base) I.ok.mod.kin kp (thn (h.run pos pins s σ H _ I want) fun us s1 ⟨vs, H1, I1, r, q⟩ => ⟨I1.kIn, ?_⟩) hst hpl
  have hl : us.length = ps.length := r.length.symm.trans (F.len _ _ _ _ q)
  have b1 := b s1 us I1.kIn (by rw [List.append_nil]; exact hl)
  rw [List.append_nil] at b1
  exact runX (args := ⟨us, []⟩) F g room b1 (hx σ) I1 r q
def tClK (n m : Nat) (sp : Sp) (gV : List V → List V → List V) (E : L2.St → XK) (t tk : TA) : TE := fun σ H Q => t σ H fun vs H1 => tk σ H1 fun zs H2 => vs.length = n ∧ zs.length = m ∧ sp (gV vs zs) H2 Q (E σ)
theorem pe_calK {x : Str} {ps ks : List Str} {n : Nat} {gV : List V → List V → List V} {sp : Sp} {k : Nat} {e : Expr} {es : List Expr} {kws : List Keyword} {t tk : TA} {E : L2.St → XK} {p pos : Pos} (c : CalK X.prog X.w X.K X.mg X.base k x ps n ks gV sp) (g : Gd X.A) (room : Room k X.A) (hg : Gl X x)
    (hx : ∀ σ, PassesAt (L2.CX X.prog X.w) X σ (E σ)) (h : PA X (e :: es) t) (hk : PK X kws tk) (hall : (backToKw pos (keywordEach kws X.env)).all (·.1.isSome) = true := by rfl) (hks : (backToKw pos (keywordEach kws X.env)).filterMap (·.1) = ks := by rfl)
    (hdb : (x == ("__debug__" : Str)) = false := by decide) (hst : starEach (e :: es) X.env = (false, eval e X.env) :: starEach es X.env := by rfl)
    (hpl : ((backTo pos (starEach (e :: es) X.env)).any (·.1) || (backToKw pos (keywordEach kws X.env)).any (·.1.isNone)) = false := by rfl) :
    PE X (.Call (.Name x p) (e :: es) kws pos) (tClK n ks.length sp gV E t tk) := by
  obtain ⟨f, fd, gg, F, kp, b, hm⟩ := c
  refine ⟨fun pins s σ H Q I want => wpAny_Call_Name_kw (ld_glob I hg hm ?_ hdb)⟩
  refine PySem.W.callWith_KW (h₀ := X.base) I.ok.mod.kin kp hall (thn (h.run pos pins s σ H _ I want) ?_) hpl hst
  rintro us s1 ⟨vs, H1, I1, r, q⟩
  refine thn (hk.run pos pins s1 σ H1 _ I1 q) ?_
  rintro ws s2 ⟨zs, H2, I2, rz, l1, l2, q2⟩
  refine ⟨I2.kIn, ?_⟩
  rw [hks]
  exact runX (args := ⟨us, ks.zip ws⟩) F g room (b.to s2 us ws I2.kIn (r.length.symm.trans l1) (rz.length.symm.trans l2)) (hx σ) I2 (b.rel r rz) q2
end
end Gx

set_option maxRecDepth 100000
set_option maxHeartbeats 4000000
namespace Gx
open PySem PySem.Spec PySem.Calls PyProof.Rows L2
/-! ### own protocols: in, [], len, str, == and != of instances -/
theorem rel_ref (a : Addr) : RelV (V.ref a) (Value.ref a) := rfl
/-- a method of the class at C that keeps the promise sp, by at most level k -/
def CalM (P : Program) (w : World) (K : PySem.W.Frag) (mg : Str → Option Value) (base : Heap) (C : Addr) (m : Str) (k : Nat) (ps : List Str) (sp : Sp) : Prop :=
  ∃ (f : Addr) (fd : FuncData), FnOk P w K mg base CX0 k f fd ps sp ∧ Meth K C m f ∧ Binds K fd ps [] ∧ PySem.W.fnIn K f = true
theorem CalM.mono {P : Program} {w : World} {K : PySem.W.Frag} {mg : Str → Option Value} {base : Heap} {C : Addr} {m : Str} {j k : Nat} {ps : List Str} {sp : Sp} (c : CalM P w K mg base C m j ps sp) (h : j ≤ k) : CalM P w K mg base C m k ps sp := by
  obtain ⟨f, fd, F, more⟩ := c
  exact ⟨f, fd, F.mono h, more⟩
section
variable {X : Cx} {C : Addr} {k : Nat} {ps : List Str} {sp : Sp} {m : Str}
/-- the method runs, somewhere below the body -/
theorem run_below {f : Addr} {fd : FuncData} {A : Around} {pins : List (Addr × Obj)} {σ : L2.St} {H : Hp} {s : Shared} {us : List Value} {vs : List V} {Q : VK} {E : Value → Shared → Prop} (F : FnOk X.prog X.w X.K X.mg X.base CX0 k f fd ps sp) (room : Room k A) (fr : A.frames = X.A.frames) (b : Binds X.K fd ps [])
    (I : Inv X pins σ H s) (r : Vals vs us) (want : sp vs H Q E0) : wpAny (model X.prog X.w) A (call (.ref f) us) (EP X pins σ Q) E s := by
  have e0 : Env0 X.prog X.w X.K X.mg X.base A X.stack s H := by
    have e := I.env0
    exact ⟨by rw [fr]; exact e.frames, e.mod, e.bs, e.bsz, e.funs, e.frf, e.hok, e.bare⟩
  have hl : us.length = ps.length := r.length.symm.trans (F.len _ _ _ _ want)
  have bt : BindsTo s fd ⟨us, []⟩ (ps.zip us) := by
    have q := b s us I.kIn (by rw [List.append_nil]; exact hl)
    rw [List.append_nil] at q
    exact q
  refine wpAny_call (codeAny_mono (F.run A X.stack s H ⟨us, []⟩ us vs Q E0 room e0 bt r want) fun res s' hres => ?_)
  match res, hres with
  | .error e, hres => exact hres.elim
  | .ok (.ret u), hres => exact I.after hres
/-- x in o, x not in o -/
def rInM (C : Addr) (sp : Sp) (neg : Bool) : R2 := fun x y H Q => ∃ a dx fs, y = .ref a ∧ H a = some (.ins C dx fs) ∧ sp [.ref a, x] H (fun v H' => ∃ b, v = .bl b ∧ Q (.bl (if neg then !b else b)) H') E0
theorem op_inM (c : CalM X.prog X.w X.K X.mg X.base C "__contains__" k ps sp) (hr : Room k X.A) : OpR X (compareOp .In) (rInM C sp false) := by
  intro pins s σ H x y v u Q I rx ry h
  obtain ⟨f, fd, F, me, b, _⟩ := c
  obtain ⟨a, dx, fs, rfl, ea, q⟩ := h
  obtain rfl : u = Value.ref a := ry
  obtain ⟨mA, O, _⟩ := ins_get I.hok ea
  obtain ⟨od, J, _⟩ := O.look
  obtain ⟨mm, hF⟩ := I.fr
  refine PySem.W.in_K hF I.ok.mod.kin J me.at_ me.fn (wpAny_mono (run_below F hr rfl b I (.cons (rel_ref a) (.cons rx .nil)) q) (fun r s' z => ?_) fun _ _ e => e)
  obtain ⟨v', H', I', rv, t, rfl, q'⟩ := z
  cases rv
  exact wpAny_truthy_bool ⟨.bl t, H', I', rfl, q'⟩
theorem op_notinM (c : CalM X.prog X.w X.K X.mg X.base C "__contains__" k ps sp) (hr : Room k X.A) : OpR X (compareOp .NotIn) (rInM C sp true) := by
  intro pins s σ H x y v u Q I rx ry h
  obtain ⟨f, fd, F, me, b, _⟩ := c
  obtain ⟨a, dx, fs, rfl, ea, q⟩ := h
  obtain rfl : u = Value.ref a := ry
  obtain ⟨mA, O, _⟩ := ins_get I.hok ea
  obtain ⟨od, J, _⟩ := O.look
  obtain ⟨mm, hF⟩ := I.fr
  refine PySem.W.notIn_K hF I.ok.mod.kin J me.at_ me.fn (wpAny_mono (run_below F hr rfl b I (.cons (rel_ref a) (.cons rx .nil)) q) (fun r s' z => ?_) fun _ _ e => e)
  obtain ⟨v', H', I', rv, t, rfl, q'⟩ := z
  cases rv
  exact wpAny_truthy_bool ⟨.bl (!t), H', I', rfl, q'⟩
/-- o[x] -/
def rIxM (C : Addr) (sp : Sp) : R2 := fun x y H Q => ∃ a dx fs, x = .ref a ∧ H a = some (.ins C dx fs) ∧ sp [.ref a, y] H Q E0
theorem pe_ixM {a b : Expr} {ta tb : TE} {pos : Pos} (c : CalM X.prog X.w X.K X.mg X.base C "__getitem__" k ps sp) (hr : Room (k + 1) X.A) (ha : PE X a ta) (hb : PE X b tb)
    (hs : ∀ v u, subscripted b true v u = runValue (.builtin "lifetime.subscript" ⟨[v, u], []⟩)) : PE X (.Subscript a b pos) (tOp (rIxM C sp) ta tb) := by
  obtain ⟨f, fd, F, me, bi, fi⟩ := c
  refine ⟨fun pins s σ H Q I h => ?_⟩
  refine Subscript_ (binT ha hb I h fun v u s2 x y H2 I2 rx ry q => ?_)
  obtain ⟨p, dx, fs, rfl, ea, q⟩ := q
  obtain rfl : v = Value.ref p := rx
  obtain ⟨mA, O, _⟩ := ins_get I2.hok ea
  obtain ⟨od, J, _⟩ := O.look
  obtain ⟨mm, hF⟩ := I2.fr
  exact PySem.W.sub_K hF I2.ok.mod.kin J me.at_ fi me.fn (run_below F hr.in1 rfl bi I2 (.cons (rel_ref _) (.cons ry .nil)) q) (hs _ _)
/-- len(o) -/
def rLenM (C : Addr) (sp : Sp) : List V → Hp → VK → Prop := fun vs H Q => ∃ a dx fs, vs = [.ref a] ∧ H a = some (.ins C dx fs) ∧ sp [.ref a] H (fun v H' => ∃ n : Nat, v = .int n ∧ n ≤ 1000000 ∧ Q (.int n) H') E0
theorem call_lenM (c : CalM X.prog X.w X.K X.mg X.base C "__len__" k ps sp) (hr : Room (k + 1) X.A) : CallR X (.builtin "len") (rLenM C sp) := by
  intro pins s σ H xs us Q I r h
  obtain ⟨f, fd, F, me, b, _⟩ := c
  obtain ⟨a, dx, fs, rfl, ea, q⟩ := h
  rw [Vals.ref1 r]
  obtain ⟨mA, O, _⟩ := ins_get I.hok ea
  obtain ⟨od, J, _⟩ := O.look
  obtain ⟨mm, hF⟩ := I.fr
  refine PySem.W.len_K hF I.ok.mod.kin J me.at_ me.fn (wpAny_mono (run_below F hr.in1 rfl b I (.cons (rel_ref a) .nil) q) (fun r s' z => ?_) fun _ _ e => e)
  obtain ⟨v', H', I', rv, n, rfl, hn, q'⟩ := z
  obtain ⟨t, rfl⟩ := (show ∃ t, r = Value.int n t from rv)
  exact ⟨⟨by omega, by omega⟩, .int n, H', I'.tok _, ⟨_, rfl⟩, q'⟩
/-- str(o) -/
def rStrM (C : Addr) (sp : Sp) : List V → Hp → VK → Prop := fun vs H Q => ∃ a dx fs, vs = [.ref a] ∧ H a = some (.ins C dx fs) ∧ sp [.ref a] H (fun v H' => ∃ z : Str, v = .str z ∧ Q (.str z) H') E0
theorem call_strM (c : CalM X.prog X.w X.K X.mg X.base C "__str__" k ps sp) (hr : Room (k + 2) X.A) : CallR X (.type "str") (rStrM C sp) := by
  intro pins s σ H xs us Q I r h
  obtain ⟨f, fd, F, me, b, _⟩ := c
  obtain ⟨a, dx, fs, rfl, ea, q⟩ := h
  rw [Vals.ref1 r]
  obtain ⟨mA, O, _⟩ := ins_get I.hok ea
  obtain ⟨od, J, _⟩ := O.look
  have r2 : Room k X.A.in1.in1 := (hr.in1).in1
  refine PySem.W.kso_call r2.units0 I.kIn J me.at_ me.fn (wpAny_mono (run_below F r2 rfl b I (.cons (rel_ref a) .nil) q) (fun r s' z => ?_) fun _ _ e => e)
  obtain ⟨v', H', I', rv, y, rfl, q'⟩ := z
  obtain ⟨t, rfl⟩ := (show ∃ t, r = Value.str y t from rv)
  exact ⟨.str y, H', I', ⟨_, rfl⟩, q'⟩
/-- what an instance of the class at C may be compared with: another one, a tuple, a dict -/
inductive Oth (K : PySem.W.Frag) (H : Hp) (C : Addr) : V → Value → Prop
  | ins {a dx : Addr} {fs : List (Str × V)} (e : H a = some (.ins C dx fs)) : Oth K H C (.ref a) (.ref C)
  | tup {a : Addr} {xs : List V} (e : SqT K H a xs) : Oth K H C (.ref a) (.type "tuple")
  | dict {a : Addr} {kvs : List (Key × V)} (e : H a = some (.dK kvs)) : Oth K H C (.ref a) (.type "dict")
theorem sub_tuple_own {K : PySem.W.Frag} {C : Addr} : PySem.W.subIn K (.type "tuple") (.ref C) = some false := by
  have e : fastBuiltinMro "tuple" = some [.type "tuple", .type "object"] := by decide +kernel
  show (fastBuiltinMro "tuple").map (·.contains (.ref C)) = some false
  rw [e]
  first
    | rfl
    | simp
theorem sub_dict_own {K : PySem.W.Frag} {C : Addr} : PySem.W.subIn K (.type "dict") (.ref C) = some false := by
  have e : fastBuiltinMro "dict" = some [.type "dict", .type "object"] := by decide +kernel
  show (fastBuiltinMro "dict").map (·.contains (.ref C)) = some false
  rw [e]
  first
    | rfl
    | simp
theorem Oth.looks {M : Model} {pins : List (Addr × Obj)} {σ : L2.St} {H : Hp} {s : Shared} {y : V} {u t : Value} (I : Inv X pins σ H s) (o : Oth X.K H C y t) (r : RelV y u) :
    PySem.W.Looks M s.heap (typeOf u) t ∧ PySem.W.notFirst X.K C t = true := by
  cases o with
  | @ins a dx fs e =>
    obtain rfl : u = Value.ref a := r
    obtain ⟨mA, O, _⟩ := ins_get I.hok e
    obtain ⟨od, J, _⟩ := O.look
    exact ⟨J.type, by simp [PySem.W.notFirst]⟩
  | @tup a xs e =>
    obtain rfl : u = Value.ref a := r
    obtain ⟨its, rv, ⟨ob, ho, hc, _⟩, _⟩ := I.tuple e
    refine ⟨?_, by simp [PySem.W.notFirst, sub_tuple_own]⟩
    intro A Q E s' kp q
    exact wpAny_typeOf (T := "tuple") ⟨ob, kp _ _ ho, hc⟩ q
  | @dict a kvs e =>
    obtain rfl : u = Value.ref a := r
    obtain ⟨_, _, vs, _, dd⟩ := dk_of I.hok e
    refine ⟨?_, by simp [PySem.W.notFirst, sub_dict_own]⟩
    intro A Q E s' kp q
    obtain ⟨ob, ho, hc⟩ := dd.typeIs
    exact wpAny_typeOf (T := "dict") ⟨ob, kp _ _ ho, hc⟩ q
/-- o == y by the class's own == -/
def rEqM (K : PySem.W.Frag) (C : Addr) (sp : Sp) : R2 := fun x y H Q => ∃ a dx fs t, x = .ref a ∧ H a = some (.ins C dx fs) ∧ Oth K H C y t ∧ sp [.ref a, y] H (fun v H' => ∃ b, v = .bl b ∧ Q (.bl b) H') E0
theorem op_eqM (c : CalM X.prog X.w X.K X.mg X.base C "__eq__" k ps sp) (hr : Room k X.A) : OpR X (compareOp .Eq) (rEqM X.K C sp) := by
  intro pins s σ H x y v u Q I rx ry h
  obtain ⟨f, fd, F, me, b, _⟩ := c
  obtain ⟨a, dx, fs, t, rfl, ea, o, q⟩ := h
  obtain rfl : v = Value.ref a := rx
  obtain ⟨mA, O, _⟩ := ins_get I.hok ea
  obtain ⟨od, J, _⟩ := O.look
  obtain ⟨mm, hF⟩ := I.fr
  obtain ⟨lk, nf⟩ := o.looks (M := model X.prog X.w) I ry
  show wpAny _ _ (richCompare .Eq (.ref a) u) _ _ _
  refine PySem.W.cmp_K (op := .Eq) hr.units0 hF I.ok.mod.kin J lk nf me.at_ me.fn (wpAny_mono (run_below F hr rfl b I (.cons (rel_ref _) (.cons ry .nil)) q) (fun r s' z => ?_) fun _ _ e => e)
  obtain ⟨v', H', I', rv, t, rfl, q'⟩ := z
  cases rv
  exact ⟨.bl t, H', I', rfl, q'⟩
end
section
variable {prog : Program} {w : World} {A : Around} {E : Value → Shared → Prop} {s : Shared} {K : PySem.W.Frag} {x C f : Addr} {ox : Obj} {od : Option Obj} {y : Value}
theorem objNe_by (inK : K.In s.heap) (J : PySem.W.InstAt s.heap x ox C od) (hs : PySem.W.findIn K (.ref C) "__eq__" = some (some (.ref f))) (hf : PySem.W.isFn K (.ref f) = true) (hu : A.units < cLine) {Q : Fin → Shared → Prop}
    (hcall : wpAny (model prog w) A (call (.ref f) [.ref x, y]) (fun v s' => ∃ b, v = .bool b ∧ Q (.done (.ret (.bool (!b)))) s') E s) : wpAny (model prog w) A (Builtin.«object.__ne__» ⟨[.ref x, y], []⟩) Q E s := by
  unfold Builtin.«object.__ne__»
  repeat (first
    | with_reducible refine wpAny_cRoomFor hu ?_
    | (refine wpAny_bind (m := callSpecialIfBound? (.ref x) (Str.ofString "__eq__") [y]) (PySem.W.ifBound_K inK J hs hf (wpAny_mono hcall (fun r s' hr => by
          obtain ⟨b, rfl, hq⟩ := hr
          repeat (first | exact hq | exact wpAny_pure hq | exact wpAny_truthy_bool hq | (refine wpAny_bind (m := truthy (.bool _)) (wpAny_truthy_bool ?_)) | wp_step)) fun _ _ e => e)))
    | wp_step)
theorem bound_ne {args : List Value} {Q : Option Value → Shared → Prop} (inK : K.In s.heap) (J : PySem.W.InstAt s.heap x ox C od) (hs : PySem.W.findIn K (.ref C) "__ne__" = some (some (.builtin "object.__ne__")))
    (h : wpAny (model prog w) A (call (.builtin "object.__ne__") (.ref x :: args)) (fun v => Q (some v)) E s) : wpAny (model prog w) A (callSpecialIfBound? (.ref x) "__ne__" args) Q E s := by
  simp only [callSpecialIfBound?, bindSpecialIfBound?]
  refine wpAny_holding (wpAny_bind (wpAny_bind (wpAny_bind (J.type.here ((PySem.W.looks_findIn inK hs).here ?_)))))
  refine wpAny_bind (wpAny_askSetting (wpAny_ite ?_))
  have last : wpAny (model prog w) A (call (.builtin "object.__ne__") ([.ref x] ++ args) >>= fun v => pure (some v)) Q E s := wpAny_bind (wpAny_mono h (fun v s' h' => wpAny_pure h') fun _ _ h' => h')
  split
  · exact wpAny_bind (wpAny_of_eq (PySem.F.cmp_object.ne.bind _) (wpAny_pure (by exact last)))
  · exact wpAny_tryCatch (wpAny_bind (wpAny_of_eq (PySem.F.cmp_object.ne.bind _) (wpAny_pure (by exact last))))
theorem rc_neM {tb : Value} {Q : Value → Shared → Prop} (inK : K.In s.heap) (J : PySem.W.InstAt s.heap x ox C od) (hm : PySem.W.mroIn K C (.type "object") = some true) (hn : PySem.W.findIn K (.ref C) "__ne__" = some (some (.builtin "object.__ne__")))
    (hs : PySem.W.findIn K (.ref C) "__eq__" = some (some (.ref f))) (hf : PySem.W.isFn K (.ref f) = true) (hu : A.units < cLine) (hu1 : A.in1.units < cLine) (lk : PySem.W.Looks (model prog w) s.heap (typeOf y) tb) (nf : PySem.W.notFirst K C tb = true)
    (hcall : wpAny (model prog w) A.in1 (call (.ref f) [.ref x, y]) (fun v s' => ∃ b, v = .bool b ∧ Q (.bool (!b)) s') E s) : wpAny (model prog w) A (richCompare .NotEq (.ref x) y) Q E s := by
  have one : wpAny (model prog w) A (tryCompare (.ref x) "__ne__" y) (fun r s' => ∃ v, r = some v ∧ Q v s') E s := by
    unfold tryCompare
    refine wpAny_bind (bound_ne inK J hn (wpAny_call (codeAny_call_builtin PySem.F.cmp_object.ne.plain PySem.F.cmpEntry_ne
      (PySem.W.check_slot PySem.F.cmpKind_ne PySem.F.cmpSplit_ne (J.type.andThen (PySem.W.looks_mroIn inK hm)) (PySem.F.cmpArgs_ne _ _) (objNe_by inK J hs hf hu1 (wpAny_mono hcall (fun v s' hv => ?_) fun _ _ e => e))))))
    obtain ⟨b, rfl, q⟩ := hv
    first
      | exact ⟨b, rfl, wpAny_pure ⟨_, rfl, q⟩⟩
      | exact ⟨b, rfl, wpAny_pure (wpAny_pure ⟨_, rfl, q⟩)⟩
      | exact ⟨b, rfl, ⟨_, rfl, q⟩⟩
  unfold richCompare
  simp only [oneThing_ref]
  refine wpAny_holding (wpAny_bind (wpAny_cRoomFor hu ?_))
  refine wpAny_bind (J.type.here (wpAny_bind (lk.here ?_)))
  split
  · rename_i q
    have e : PySem.W.subIn K tb (.ref C) = some false := by
      rcases Bool.or_eq_true_iff.mp nf with e | e
      · rw [beq_iff_eq.mp e] at q
        simp at q
      · exact beq_iff_eq.mp e
    refine wpAny_bind ((PySem.W.looks_subIn inK e).here ?_)
    simp only [Bool.false_eq_true, if_false]
    refine wpAny_bind (wpAny_mono one (fun r s' z => ?_) fun _ _ e => e)
    obtain ⟨v, rfl, hq⟩ := z
    exact wpAny_pure hq
  · refine wpAny_bind (wpAny_pure ?_)
    simp only [Bool.false_eq_true, if_false]
    refine wpAny_bind (wpAny_mono one (fun r s' z => ?_) fun _ _ e => e)
    obtain ⟨v, rfl, hq⟩ := z
    exact wpAny_pure hq
end
section
variable {X : Cx} {C : Addr} {k : Nat} {ps : List Str} {sp : Sp}
/-- o != y, the class having no != of its own -/
def rNeM (K : PySem.W.Frag) (C : Addr) (sp : Sp) : R2 := fun x y H Q => ∃ a dx fs t, x = .ref a ∧ H a = some (.ins C dx fs) ∧ Oth K H C y t ∧ sp [.ref a, y] H (fun v H' => ∃ b, v = .bl b ∧ Q (.bl (!b)) H') E0
theorem op_neM (c : CalM X.prog X.w X.K X.mg X.base C "__eq__" k ps sp) (hn : PySem.W.findIn X.K (.ref C) "__ne__" = some (some (.builtin "object.__ne__"))) (hm : PySem.W.mroIn X.K C (.type "object") = some true) (hr : Room (k + 1) X.A) :
    OpR X (compareOp .NotEq) (rNeM X.K C sp) := by
  intro pins s σ H x y v u Q I rx ry h
  obtain ⟨f, fd, F, me, b, _⟩ := c
  obtain ⟨a, dx, fs, t, rfl, ea, o, q⟩ := h
  obtain rfl : v = Value.ref a := rx
  obtain ⟨mA, O, _⟩ := ins_get I.hok ea
  obtain ⟨od, J, _⟩ := O.look
  obtain ⟨lk, nf⟩ := o.looks (M := model X.prog X.w) I ry
  show wpAny _ _ (richCompare .NotEq (.ref a) u) _ _ _
  refine rc_neM I.kIn J hm hn me.at_ me.fn hr.units0 hr.in1.units0 lk nf (wpAny_mono (run_below F hr.in1 rfl b I (.cons (rel_ref _) (.cons ry .nil)) q) (fun r s' z => ?_) fun _ _ e => e)
  obtain ⟨v', H', I', rv, t, rfl, q'⟩ := z
  cases rv
  exact ⟨t, rfl, .bl (!t), H', I', rfl, q'⟩
/-! ### dicts of data compared -/
/-- the pairs ks, one by one, in the dict of the pairs ls -/
inductive HitsV (K : PySem.W.Frag) (H : Hp) (ls : List (Key × V)) : List (Key × V) → Bool → Prop
  | nil : HitsV K H ls [] true
  | miss {p : Key × V} {r : List (Key × V)} (e : valV ls p.1 = none) : HitsV K H ls (p :: r) false
  | hit {p : Key × V} {r : List (Key × V)} {y : V} {d e : PyData} {b : Bool} (at_ : valV ls p.1 = some y) (hd : Dp K H p.2 d) (he : Dp K H y e) (sd : SeqAt.shaped d = true) (se : SeqAt.shaped e = true) (more : HitsV K H ls r b) : HitsV K H ls (p :: r) (PyData.eqv d e && b)
theorem HitsV.raw {pins : List (Addr × Obj)} {σ : L2.St} {H : Hp} {s : Shared} (I : Inv X pins σ H s) (hu : X.A.in1.units + 64 < cLine) {ls : List (Key × V)} {vb : List (Key × Value)} (rb : KV ls vb) {ks : List (Key × V)} {r : Bool} (h : HitsV X.K H ls ks r) :
    ∀ {va : List (Key × Value)}, KV ks va → PySem.W.KeqHits X.A.in1 s vb va r := by
  induction h with
  | nil =>
    intro va ra
    unfold KV at ra
    cases ra
    exact .nil
  | @miss p r e =>
    intro va ra
    unfold KV at ra
    cases ra with
    | @cons _ q _ qs h t =>
      obtain ⟨k, v⟩ := q
      obtain ⟨h1, h2⟩ := h
      have h1' : p.1 = k := h1
      have rr := rb.val p.1
      rw [e, h1'] at rr
      refine .miss ?_
      cases c : valueAt vb k with
      | none => rfl
      | some z => rw [c] at rr; exact rr.elim
  | @hit p r y d e b at_ hd he sd se more ih =>
    intro va ra
    unfold KV at ra
    cases ra with
    | @cons _ q _ qs h t =>
      obtain ⟨k, v⟩ := q
      obtain ⟨h1, h2⟩ := h
      have h1' : p.1 = k := h1
      have rr := rb.val p.1
      rw [at_, h1'] at rr
      obtain ⟨z, hz, rz⟩ := RelO.some_of rr
      obtain ⟨as, r1⟩ := Dp.reads I d p.2 v hd h2
      obtain ⟨bs, r2⟩ := Dp.reads I e y z he rz
      exact .hit hz (PySem.W.keq_at r1 r2 sd se hu) (ih t)
def rEqDX (K : PySem.W.Frag) : R2 := fun x y H Q => ∃ a b ks ls r, x = .ref a ∧ y = .ref b ∧ H a = some (.dK ks) ∧ H b = some (.dK ls) ∧ (ks.length = ls.length → HitsV K H ls ks r) ∧ Q (.bl (ks.length == ls.length && r)) H
theorem op_eqDX (hu : X.A.units + 66 < cLine) : OpR X (compareOp .Eq) (rEqDX X.K) := by
  intro pins s σ H x y v u Q I rx ry h
  obtain ⟨a, b, ks, ls, r, rfl, rfl, ea, eb, hits, q⟩ := h
  obtain rfl : v = Value.ref a := rx
  obtain rfl : u = Value.ref b := ry
  obtain ⟨_, ya, va, ra, da⟩ := dk_of I.hok ea
  obtain ⟨_, yb, vb, rb, db⟩ := dk_of I.hok eb
  have l1 := ra.length
  have l2 := rb.length
  have u1 : X.A.in1.units + 64 < cLine := by
    have e : X.A.in1.units ≤ X.A.units + 1 := by
      show X.A.units + 1 ≤ _
      exact Nat.le_refl _
    omega
  refine PySem.W.keq_eq (knd := mixKind X.prog X.w) (r := r) ya yb da db (by omega) (fun e => (hits (by omega)).raw I u1 rb ra) (fin_bl I q ?_)
  rw [l1, l2]
/-! ### a star before a dict -/
def tStarD (te : TE) (t : TA) : TA := fun σ H Q => te σ H fun x H1 => ∃ p kvs, x = V.ref p ∧ H1 p = some (.dK kvs) ∧ t σ H1 fun ys H2 => Q ((kvs.map fun kv => kV kv.1) ++ ys) H2
theorem star_dict {pins : List (Addr × Obj)} {σ : L2.St} {H : Hp} {s : Shared} (hc : X.calm = true) {a : Addr} {kvs : List (Key × V)} {E : Value → Shared → Prop} {Q : List Value → Shared → Prop} (I : Inv X pins σ H s) (h : H a = some (.dK kvs)) (hQ : ∀ us s', Inv X pins σ H s' → Vals (kvs.map fun kv => kV kv.1) us → Q us s') :
    PySem.W.StarOf (model X.prog X.w) X.A E (.ref a) Q s := by
  obtain ⟨z, lo, vs, rel, dd⟩ := dk_of I.hok h
  obtain ⟨ep, hat⟩ := dd.dictAt
  have hT : s.TypeIs (.ref a) "dict" := dd.typeIs
  have z2 : vs.length ≤ sizeLine := by rw [← rel.length]; exact z
  have ek : (kvs.map fun kv => kV kv.1) = vs.map fun p => kV p.1 := by
    have e := congrArg (List.map kV) rel.keys
    rw [List.map_map, List.map_map] at e
    exact e
  have g : wpAny (model X.prog X.w) X.A (collect (.ref a)) Q E s := by
    refine PySem.W.kdu_collect (PySem.W.kdl_dict (knd := mixKind X.prog X.w) (kvs := vs) (ep := ep) lo) (I.ok.hd hc) hat z2 fun h' tk acc hk hacc => ?_
    have hv : Vals (vs.map fun p => kV p.1) acc.toList := keys_at (by rw [Array.length_toList]; exact hacc.1) fun j v e => hacc.2 j v (by rw [← Array.getElem?_toList]; exact e)
    exact hQ _ _ (I.kept (t' := tk) hk) (by rw [ek]; exact hv)
  unfold PySem.W.StarOf notIterableAtAll
  exact wpAny_bind (wpAny_specialOf hT PySem.F.slot_dict_iter.lookup (wpAny_pure ⟨rfl, g⟩))
theorem pa_starD {e : Expr} {es : List Expr} {te : TE} {t : TA} {p : Pos} (hc : X.calm = true) (he : PE X e te) (hr : PA X es t) (hs : starEach (.Starred e p :: es) X.env = (true, eval e X.env) :: starEach es X.env := by rfl) : PA X (.Starred e p :: es) (tStarD te t) := by
  refine ⟨fun pos pins s σ H Q I h => ?_⟩
  refine PySem.W.items_star (thn (he.run pins s σ H _ I h) fun v s1 ⟨y, H1, I1, ry, a, kvs, ey, hx, q⟩ => ?_) hs
  subst ey
  obtain rfl : v = Value.ref a := ry
  refine star_dict hc I1 hx fun us s2 I2 rv => ?_
  exact thn (hr.run pos pins s2 σ H1 _ I2 q) fun ws s3 ⟨vs, H3, I3, r3, q3⟩ => ⟨_, H3, I3, rv.append r3, q3⟩
end
end Gx

set_option maxRecDepth 100000
set_option maxHeartbeats 4000000
namespace Gx
open PySem PySem.Spec PyProof.Rows L2
/-! ### classes of the top: methods, properties, making -/
theorem fn_in {K : PySem.W.Frag} {f : Addr} {oc : Value} {od : Option Addr} {fd : FuncData} {sl : Array (Option Value)} (l : K.lookup f = some ⟨oc, od, .func fd, sl⟩) : PySem.W.fnIn K f = true := by
  unfold PySem.W.fnIn
  rw [l]
/-- the class at C has the def st as its property m -/
def PropD (K : PySem.W.Frag) (C : Addr) (m qual : Str) (st : Stmt) : Prop := ∃ (p f : Addr) (fd : FuncData), PropOf K C m p f ∧ Fun K m qual st f fd ∧ Binds K fd ["self"] []
/-- .. as its method m -/
def DefM (K : PySem.W.Frag) (C : Addr) (m qual : Str) (st : Stmt) (ps : List Str) : Prop := ∃ (f : Addr) (fd : FuncData), Fun K m qual st f fd ∧ Meth K C m f ∧ Binds K fd ps [] ∧ PySem.W.fnIn K f = true
/-- a property that keeps the promise sp -/
def CalP (P : Program) (w : World) (K : PySem.W.Frag) (mg : Str → Option Value) (base : Heap) (C : Addr) (m : Str) (k : Nat) (sp : Sp) : Prop :=
  ∃ (p f : Addr) (fd : FuncData), PropOf K C m p f ∧ FnOk P w K mg base CX0 k f fd ["self"] sp ∧ Binds K fd ["self"] []
/-- C(..) by its __init__'s promise -/
def CalI (P : Program) (w : World) (K : PySem.W.Frag) (mg : Str → Option Value) (base : Heap) (C : Addr) (k : Nat) (ps : List Str) (sp : Sp) : Prop :=
  ∃ (f : Addr) (fd : FuncData), Mk K C f ∧ FnOk P w K mg base CX0 k f fd ps sp ∧ Binds K fd ps []
section
variable {P : Program} {w : World} {K : PySem.W.Frag} {mg : Str → Option Value} {base : Heap} {C : Addr} {m qual : Str} {st : Stmt} {k : Nat} {ps : List Str} {sp : Sp}
theorem DefM.cal (d : DefM K C m qual st ps) (h : ∀ f fd, Fun K m qual st f fd → FnOk P w K mg base CX0 k f fd ps sp) : CalM P w K mg base C m k ps sp := by
  obtain ⟨f, fd, F, me, b, fi⟩ := d
  exact ⟨f, fd, h f fd F, me, b, fi⟩
theorem PropD.cal (d : PropD K C m qual st) (h : ∀ f fd, Fun K m qual st f fd → FnOk P w K mg base CX0 k f fd ["self"] sp) : CalP P w K mg base C m k sp := by
  obtain ⟨p, f, fd, pr, F, b⟩ := d
  exact ⟨p, f, fd, pr, h f fd F, b⟩
theorem CalP.mono {j : Nat} (c : CalP P w K mg base C m j sp) (h : j ≤ k) : CalP P w K mg base C m k sp := by
  obtain ⟨p, f, fd, pr, F, b⟩ := c
  exact ⟨p, f, fd, pr, F.mono h, b⟩
theorem CalI.mono {j : Nat} (c : CalI P w K mg base C j ps sp) (h : j ≤ k) : CalI P w K mg base C k ps sp := by
  obtain ⟨f, fd, M, F, b⟩ := c
  exact ⟨f, fd, M, F.mono h, b⟩
end
section
variable {X : Cx} {C : Addr} {m x : Str} {k : Nat} {ps : List Str} {sp : Sp} {ta : TE} {t : TA} {o e : Expr} {es : List Expr} {pos apos p : Pos}
/-- o.m, a property -/
def tPropC (C : Addr) (sp : Sp) (ta : TE) : TE := fun σ H Q => ta σ H fun x H1 => ∃ a dx fs, x = .ref a ∧ H1 a = some (.ins C dx fs) ∧ sp [.ref a] H1 Q E0
theorem pe_propC (he : PE X o ta) (cl : Cls X.K C) (c : CalP X.prog X.w X.K X.mg X.base C m k sp) (hr : Room (k + 1) X.A) (hab : attributeBase o m X.env (eval o X.env) = eval o X.env := by rfl) : PE X (.Attribute o m pos) (tPropC C sp ta) := by
  obtain ⟨p, f, fd, pr, F, b⟩ := c
  have h := pe_prop (pos := pos) (E := E0) he cl pr F hr b .nil pass0 hab
  exact h
/-- o.m(..) -/
def tMethC (C : Addr) (m : Str) (sp : Sp) (ta : TE) (t : TA) : TE := fun σ H Q => ta σ H fun x H1 => ∃ a dx fs, x = .ref a ∧ H1 a = some (.ins C dx fs) ∧ fs.lookup m = none ∧ t σ H1 fun vs H2 => sp (x :: vs) H2 Q E0
theorem tMethC_eq : tMeth C m sp [] E0 ta t = tMethC C m sp ta t := by
  funext σ H Q
  show ta σ H _ = ta σ H _
  congr 1
  funext x H1
  simp only [List.append_nil]
theorem pe_methC {pl : Sem Bool} (he : PE X o ta) (cl : Cls X.K C) (c : CalM X.prog X.w X.K X.mg X.base C m k ps sp) (hr : Room k X.A) (ha : PA X (e :: es) t)
    (hst : starEach (e :: es) X.env = (false, eval e X.env) :: starEach es X.env := by rfl) (hpl : (backTo pos (starEach es X.env)).any (·.1) = false := by rfl)
    (ht : eval (.Call (.Attribute o m apos) (e :: es) [] pos) X.env = (do
      let ov ← eval o X.env
      standAt apos.atName
      let (f, first) ← holding [ov] (getMethod ov m pl)
      callWith pos f first (backTo pos (starEach (e :: es) X.env)) (backToKw pos (keywordEach [] X.env))) := by rfl) :
    PE X (.Call (.Attribute o m apos) (e :: es) [] pos) (tMethC C m sp ta t) := by
  obtain ⟨f, fd, F, me, b, fi⟩ := c
  rw [← tMethC_eq]
  exact pe_meth (pl := pl) he cl me F hr b .nil pass0 ha hst hpl ht
/-- C(..) -/
def tMakeC (C : Addr) (sp : Sp) (t : TA) : TE := fun σ H Q => t σ H fun vs H1 => ∀ x dx, H1 x = none → H1 dx = none → dx ≠ x →
  sp (.ref x :: vs) (upd (upd H1 dx (.own x)) x (.ins C dx [])) (fun v H2 => v = .non ∧ Q (.ref x) H2) E0
theorem tMakeC_eq : tMake C sp [] E0 t = tMakeC C sp t := by
  funext σ H Q
  show t σ H _ = t σ H _
  congr 1
  funext vs H1
  simp only [List.append_nil]
theorem pe_makeC (c : CalI X.prog X.w X.K X.mg X.base C k ps sp) (hr : Room (k + 1) X.A) (hg : Gl X x) (hm : X.mg x = some (.ref C)) (ha : PA X (e :: es) t)
    (hdb : (x == ("__debug__" : Str)) = false := by decide) (he : starEach (e :: es) X.env = (false, eval e X.env) :: starEach es X.env := by rfl) (hpl : (backTo pos (starEach es X.env)).any (·.1) = false := by rfl) :
    PE X (.Call (.Name x p) (e :: es) [] pos) (tMakeC C sp t) := by
  obtain ⟨f, fd, M, F, b⟩ := c
  rw [← tMakeC_eq]
  exact pe_make M F hr hg hm b .nil pass0 ha hdb he hpl
end
/-! ### dicts walked under their lock -/
theorem same_lock {H : Hp} {d : Addr} {u : HO} {o : Obj} (e : H d = some u) {b : Addr} {ob : HO} (n : b ≠ d) (h : H b = some ob) : upd H d (.frz o u) b = some ob := by
  rw [upd_ne n]
  exact h
theorem same_unlock {H H' : Hp} {d : Addr} {u : HO} {o : Obj} (e : H d = some u) (s : Same (upd H d (.frz o u)) H') : Same H (upd H' d u) := by
  intro b ob h
  by_cases n : b = d
  · subst n
    rw [upd_same]
    exact e.symm.trans h
  · rw [upd_ne n]
    exact s b ob (by rw [upd_ne n]; exact h)
end Gx

set_option maxRecDepth 100000
set_option maxHeartbeats 4000000
namespace Gx
open PySem PySem.Spec PyProof.Rows L2
/-! ### sets of texts: set(list), sorted(set) -/
/-- a member's text -/
def txE (m : Int × Value) : Str :=
  match m.2 with
  | .str z _ => z
  | _ => Str.empty
def TxE (P : Program) (w : World) (m : Int × Value) : Prop := ∃ z tk, m.2 = Value.str z tk ∧ m.1 = (PySem.strKind P w).hash z
/-- at a stands the set of the texts of L, some of which may be there twice; its table can be walked -/
def SetX (P : Program) (w : World) (h : Heap) (a : Addr) (L : List Str) : Prop :=
  ∃ ob ms ep tb, h.get? a = some ob ∧ ob.ExactSet ∧ ob.data = .set ms ep tb ∧ (∀ m ∈ ms.toList, TxE P w m) ∧ (ms.toList.map txE).Nodup ∧ (∀ z, z ∈ L ↔ z ∈ ms.toList.map txE) ∧
    ms.size < scanBound ∧ tb.fits ms.size = true ∧ ms.size ≤ L.length ∧ Ris tb.place.toList ∧ (w.params.followText "set-order" = true ∨ tb.led = true)
section
variable {P : Program} {w : World} {h h' : Heap} {a : Addr} {L : List Str}
theorem SetX.at (R : SetX P w h a L) (k : ∀ o, h.get? a = some o → h'.get? a = some o) : SetX P w h' a L := by
  obtain ⟨ob, ms, ep, tb, here, more⟩ := R
  exact ⟨ob, ms, ep, tb, k ob here, more⟩
theorem SetX.same {L' : List Str} (R : SetX P w h a L) (e : ∀ z, z ∈ L' ↔ z ∈ L) (hl : L.length ≤ L'.length) : SetX P w h a L' := by
  obtain ⟨ob, ms, ep, tb, here, ex, dt, gd, nd, mem, bd, ft, le, more⟩ := R
  exact ⟨ob, ms, ep, tb, here, ex, dt, gd, nd, fun z => (e z).trans (mem z), bd, ft, Nat.le_trans le hl, more⟩
theorem tx_elems {l : List (Int × Value)} (gd : ∀ m ∈ l, TxE P w m) : ElemsOf (PySem.strKind P w) l := by
  intro m hm
  obtain ⟨z, tk, e1, e2⟩ := gd m hm
  refine ⟨⟨z, ?_, e2⟩, ?_⟩
  · rw [e1]
    exact strKind_is P w z tk
  · rw [e1]
    rfl
theorem tx_is {m : Int × Value} (gd : TxE P w m) (z : Str) : (PySem.strKind P w).is z m.2 = true ↔ txE m = z := by
  obtain ⟨y, tk, e1, _⟩ := gd
  have e3 : txE m = y := by unfold txE; rw [e1]
  rw [e3, e1]
  constructor
  · intro q
    obtain ⟨t, q⟩ := Value.isStrOf_shape (show Value.isStrOf z (.str y tk) = true from q)
    cases q
    rfl
  · rintro rfl
    exact strKind_is P w y tk
theorem tx_mem {l : List (Int × Value)} (gd : ∀ m ∈ l, TxE P w m) (z : Str) : z ∈ l.map txE ↔ ∃ m ∈ l, (PySem.strKind P w).is z m.2 = true := by
  rw [List.mem_map]
  exact ⟨fun ⟨m, hm, q⟩ => ⟨m, hm, (tx_is (gd m hm) z).2 q⟩, fun ⟨m, hm, q⟩ => ⟨m, hm, (tx_is (gd m hm) z).1 q⟩⟩
end
section
variable {P : Program} {w : World} {A : Around} {E : Value → Shared → Prop} {s : Shared} {a : Addr} {L : List Str}
/-! ### one text more -/
theorem setX_tail {g : Bool → Sem Unit} (hg : ∀ (b : Bool) (s₁ : Shared) (Q' : Unit → Shared → Prop), Q' () s₁ → wpAny (model P w) A (g b) Q' E s₁)
    {ob : Obj} {ms : Array (Int × Value)} {ep : Nat} {tb : SetTable} (here : s.heap.get? a = some ob) (ex : ob.ExactSet) (dt : ob.data = .set ms ep tb)
    {ms1 : Array (Int × Value)} {tb2 : SetTable} {L' : List Str} (g1 : ∀ m ∈ ms1.toList, TxE P w m) (nd1 : (ms1.toList.map txE).Nodup) (m1 : ∀ z, z ∈ L' ↔ z ∈ ms1.toList.map txE)
    (bd1 : ms1.size < scanBound) (ft2 : tb2.fits ms1.size = true) (le1 : ms1.size ≤ L'.length) (ri : Ris tb2.place.toList) (ld : w.params.followText "set-order" = true ∨ tb2.led = true) {dummy : Bool} {R : Option Bool → Shared → Prop}
    (hR : ∀ h', Heap.SameBut a s.heap h' → SetX P w h' a L' → R (some true) { s with heap := h' }) :
    wpAny (model P w) A (do
        storeSet a ms1 tb2
        if (!dummy && tb2.tooFull) = true then do
            g (relayAll tb2 ms1 (SetTable.grown ms1.size)).2.2
            storeSet a (relayAll tb2 ms1 (SetTable.grown ms1.size)).1 (relayAll tb2 ms1 (SetTable.grown ms1.size)).2.1
            pure (some true)
          else pure (some true)) R E s := by
  refine wpAny_bind (wpAny_storeSet_of here dt ?_ (fits_of_scanBound bd1))
  have at1 := store_at (es' := ms1) (t' := tb2) here dt
  have but1 := Heap.SameBut.update s.heap a (Obj.putSet ms1 tb2)
  split
  · have perm2 := relayAll_perm tb2 ms1 (SetTable.grown ms1.size)
    have ft3 := relayAll_fits tb2 ms1 (SetTable.grown ms1.size)
    have ri3 := relayAll_ris tb2 ms1 (SetTable.grown ms1.size)
    have ld3 := relayAll_led tb2 ms1 (SetTable.grown ms1.size)
    generalize relayAll tb2 ms1 (SetTable.grown ms1.size) = laid at perm2 ft3 ri3 ld3 ⊢
    obtain ⟨ms2, tb3, gave⟩ := laid
    dsimp only at perm2 ft3 ri3 ld3 ⊢
    have sz2 : ms2.size = ms1.size := by rw [← Array.length_toList, perm2.length_eq, Array.length_toList]
    have bd2 : ms2.size < scanBound := sz2 ▸ bd1
    refine wpAny_bind (hg _ _ _ ?_)
    refine wpAny_bind (wpAny_storeSet_of at1 rfl ?_ (fits_of_scanBound bd2))
    have at2 := store_at (es' := ms2) (t' := tb3) at1 rfl
    refine wpAny_pure (hR _ (but1.trans (Heap.SameBut.update _ a _)) ⟨_, ms2, _, tb3, at2, ex, rfl, fun m hm => g1 m (perm2.mem_iff.mp hm), (perm2.map txE).nodup_iff.mpr nd1, fun z => (m1 z).trans (perm2.map txE).mem_iff.symm, bd2, ?_, by rw [sz2]; exact le1, ri3, ?_⟩)
    · exact ft3
    · exact ld.imp id fun z => by rw [ld3]; exact z
  · exact wpAny_pure (hR _ but1 ⟨_, ms1, _, tb2, at1, ex, rfl, g1, nd1, m1, bd1, ft2, le1, ri, ld⟩)
theorem setX_add {z : Str} {tk : Tok} {Q : Bool → Shared → Prop} (R : SetX P w s.heap a L) (room : L.length + 1 < scanBound)
    (hQ : ∀ h' b, Heap.SameBut a s.heap h' → SetX P w h' a (L ++ [z]) → Q b { s with heap := h' }) :
    wpAny (model P w) A (setAddHashed a (.str z tk) ((PySem.strKind P w).hash z)) Q E s := by
  obtain ⟨ob, ms, ep, tb, here, ex, dt, gd, nd, mem, bd, ft, le, ri, ld⟩ := R
  have isz : (PySem.strKind P w).is z (.str z tk) = true := strKind_is P w z tk
  have scz : (Value.str z tk).scannable = true := rfl
  have els : ElemsOf (PySem.strKind P w) ms.toList := tx_elems gd
  unfold setAddHashed setAddHashedIn
  refine wpAny_holding (wpAny_bind (wpAny_setState_of here dt ft ?_))
  dsimp only
  rw [byScan_of scz bd els]
  simp only [↓reduceIte]
  unfold setAddByScan
  refine wpAny_bind ?_
  refine wpAny_bind (wpAny_rule ?_)
  refine wpAny_bind (wpAny_setScan_of isz here dt ft els ?_)
  cases hfi : List.findIdx? (fun m => (PySem.strKind P w).is z m.2) ms.toList with
  | some j =>
    dsimp only
    obtain ⟨hj, pj, _⟩ := List.findIdx?_eq_some_iff_getElem.mp hfi
    have inL : z ∈ L := (mem z).2 ((tx_mem (P := P) (w := w) gd z).2 ⟨ms.toList[j], List.getElem_mem hj, pj⟩)
    refine wpAny_pure (wpAny_pure ?_)
    refine hQ s.heap _ (Heap.SameBut.refl a s.heap) ⟨ob, ms, ep, tb, here, ex, dt, gd, nd, fun y => ?_, bd, ft, by rw [List.length_append]; omega, ri, ld⟩
    rw [← mem y, List.mem_append, List.mem_singleton]
    exact ⟨fun q => q.elim id fun e => e ▸ inL, .inl⟩
  | none =>
    dsimp only
    have notIn : z ∉ ms.toList.map txE := by
      intro q
      obtain ⟨m, hm, q⟩ := (tx_mem (P := P) (w := w) gd z).1 q
      have c := List.findIdx?_eq_none_iff.mp hfi m hm
      rw [q] at c
      cases c
    have way : ∀ (b : Bool) {s₁ : Shared} {Q' : Unit → Shared → Prop}, Q' () s₁ → wpAny (model P w) A (match b with | true => rule "set.scan.the-table-gave-way" | false => pure ()) Q' E s₁ := by
      intro b s₁ Q' q
      cases b
      · exact wpAny_pure q
      · exact wpAny_rule q
    have perm1 := layNew_perm tb ms ((PySem.strKind P w).hash z) (.str z tk)
    have ft1 := layNew_fits tb ms ((PySem.strKind P w).hash z) (.str z tk)
    have ri1 := layNew_ris tb ms ((PySem.strKind P w).hash z) (.str z tk) ri
    have ld1 := layNew_led tb ms ((PySem.strKind P w).hash z) (.str z tk)
    generalize layNew tb ms ((PySem.strKind P w).hash z) (.str z tk) = laid at perm1 ft1 ri1 ld1 ⊢
    obtain ⟨ms1, tb1, dummy, gave⟩ := laid
    dsimp only at perm1 ft1 ri1 ld1 ⊢
    rw [Array.toList_push] at perm1
    have permC : ms1.toList.Perm (((PySem.strKind P w).hash z, Value.str z tk) :: ms.toList) := perm1.trans (List.perm_append_singleton _ _)
    have permK : (ms1.toList.map txE).Perm (z :: ms.toList.map txE) := permC.map txE
    have g1 : ∀ m ∈ ms1.toList, TxE P w m := by
      intro m hm
      rcases List.mem_cons.mp (permC.mem_iff.mp hm) with q | q
      · rw [q]
        exact ⟨z, tk, rfl, rfl⟩
      · exact gd m q
    have nd1 : (ms1.toList.map txE).Nodup := permK.nodup_iff.mpr (List.nodup_cons.mpr ⟨notIn, nd⟩)
    have m1 : ∀ y, y ∈ L ++ [z] ↔ y ∈ ms1.toList.map txE := by
      intro y
      rw [List.mem_append, List.mem_singleton, mem y, permK.mem_iff, List.mem_cons]
      exact Or.comm
    have sz1 : ms1.size = ms.size + 1 := by rw [← Array.length_toList, permC.length_eq, List.length_cons, Array.length_toList]
    have bd1 : ms1.size < scanBound := by omega
    have le1 : ms1.size ≤ (L ++ [z]).length := by rw [List.length_append, List.length_singleton]; omega
    have led1 : w.params.followText "set-order" = true ∨ tb1.led = true := ld.imp id fun q => by rw [ld1]; exact q
    refine wpAny_bind (way _ ?_)
    split
    · refine wpAny_bind ?_
      rw [hashByValue_scannable 8 scz]
      refine wpAny_pure ?_
      refine setX_tail ?_ here ex dt g1 nd1 m1 bd1 ?_ le1 ?_ ?_ ?_
      · intro b s₁ Q' q
        cases b <;> first | exact wpAny_pure q | exact wpAny_rule q
      · first | (split <;> first | exact ft1 | exact SetTable.fits_plain_off ft1) | exact ft1
      · first | (split <;> exact ri1) | exact ri1
      · first | (split <;> exact led1) | exact led1
      · intro h' sb r
        dsimp only
        exact wpAny_pure (hQ h' _ sb r)
    · refine wpAny_bind (wpAny_pure ?_)
      simp only [↓reduceIte]
      refine setX_tail ?_ here ex dt g1 nd1 m1 bd1 ft1 le1 ri1 led1 ?_
      · intro b s₁ Q' q
        cases b <;> first | exact wpAny_pure q | exact wpAny_rule q
      · intro h' sb r
        dsimp only
        exact wpAny_pure (hQ h' _ sb r)
end
/-- the texts of a list of values, by place -/
theorem texts_at : ∀ {us : List Value} {xs : List Str}, StrsAre us xs → ∀ (i : Nat) (v : Value), us[i]? = some v → ∃ x t, xs[i]? = some x ∧ v = .str x t
  | _, _, .nil, i, v, h => by cases h
  | _, _, .cons n t r, 0, v, h => by
    cases h
    exact ⟨n, t, rfl, rfl⟩
  | _, _, .cons n t r, i + 1, v, h => texts_at r i v h
section
variable {prog : Program} {w : World} {A : Around} {R : Result → Shared → Prop} {I : Addr} {fp wr : List Addr} {G : Array GenState → Array GenState → Prop} {n : Nat} {P : Nat → Value → Prop} {St : Nat → Shared → Prop}
/-- all texts of an iterator put into the set at S -/
theorem setX_loop (W : WalksS prog w A.in1 I fp wr G n P St) (S : Addr) (off : S ∉ fp) (xs : List Str) (len : xs.length = n) (few : n + 1 < scanBound)
    (val : ∀ i v, P i v → ∃ x t, xs[i]? = some x ∧ v = .str x t) : ∀ (k i : Nat) (s : Shared), n - i = k → i ≤ n → St i s → SetX prog w s.heap S (xs.take i) →
      (∀ s', Moved (S :: wr) G s s' → SetX prog w s'.heap S xs → R (.ok (.ret .none)) s') →
      codeAny (model prog w) A (.builtin "set.update.loop" ⟨[.ref S, .ref I], []⟩) R s := by
  have offW : S ∉ wr := fun z => off (W.sub _ z)
  have sub : ∀ b ∈ wr, b ∈ S :: wr := fun b hb => List.mem_cons_of_mem _ hb
  intro k
  induction k with
  | zero =>
    intro i s hk hi st hS hR
    obtain rfl : i = n := by omega
    rw [← len, List.take_length] at hS
    refine codeAny_builtin PyProof.Rows.F.entry_set_update_loop ?_
    rw [Around.under_plainId PyProof.Rows.F.plain_set_update_loop _]
    show wpAny _ A.in1 (pyNext (.ref I) >>= _) _ _ s
    refine wpAny_bind (W.done s _ _ st fun s' mv => ?_)
    show wpAny _ A.in1 (ret Value.none) _ _ s'
    exact wpAny_pure (hR s' (mv.mono sub) (hS.at fun o e => mv.heap S _ offW e))
  | succ k ih =>
    intro i s hk hi st hS hR
    have lt : i < n := by omega
    refine codeAny_builtin PyProof.Rows.F.entry_set_update_loop ?_
    rw [Around.under_plainId PyProof.Rows.F.plain_set_update_loop _]
    show wpAny _ A.in1 (pyNext (.ref I) >>= _) _ _ s
    refine wpAny_bind (W.item i s _ _ lt st fun v s' hP st' mv => ?_)
    obtain ⟨x, t, hx, rfl⟩ := val i v hP
    have hS' : SetX prog w s'.heap S (xs.take i) := hS.at fun o e => mv.heap S _ offW e
    show wpAny _ A.in1 (holding [Value.str x t] (setAdd S (.str x t)) >>= _) _ _ s'
    refine wpAny_bind (wpAny_holding ?_)
    unfold setAdd
    refine wpAny_holding ?_
    refine wpAny_bind ((PySem.strKind prog w).pyHash (k := x) (strKind_is _ _ _ _) ?_)
    refine setX_add (s := { s' with toks := s'.toks + 1 }) hS' (by rw [List.length_take]; omega) fun h' b sb hS2 => ?_
    have hS3 : SetX prog w h' S (xs.take (i + 1)) := by
      have e : xs.take (i + 1) = xs.take i ++ [x] := by rw [List.take_add_one, hx]; rfl
      rw [e]
      exact hS2
    refine wpAny_pure ⟨plainId_quiet PyProof.Rows.F.plain_set_update_loop _, ih (i + 1) _ (by omega) lt (W.frame _ s' _ _ st' (Nat.le_succ _) fun b hb o e => ?_) hS3 fun s'' mv2 hS4 => ?_⟩
    · rw [sb.2 b (fun z : b = S => off (z ▸ hb))]
      exact e
    · refine hR s'' (Moved.trans W.gtrans ((mv.mono sub).then_heap (Nat.le_succ _) fun b o hb e => ?_) mv2) hS4
      rw [sb.2 b (fun z : b = S => hb (by rw [z]; exact List.mem_cons_self))]
      exact e
end
section
variable {P : Program} {w : World} {A : Around} {E : Value → Shared → Prop} {s : Shared}
theorem code_setX {x : Value} {Q₁ : Value → Shared → Prop}
    (h : Q₁ (.ref s.heap.objs.size) { s with heap := s.heap.push { cls := .type "set", dict := none, data := .set #[] 0 (.fresh 0 0 (!w.params.followText "set-order")) } }) :
    codeAny (model P w) A (.call (.builtin "set.__new__") ⟨[.type "set", x], []⟩) (wants Q₁ E) s := by
  refine codeAny_of_tree ?_
  show wpAny _ A.in1 (do checkBuiltinCall "set.__new__" ⟨[.type "set", x], []⟩; again (.builtin "set.__new__" ⟨[.type "set", x], []⟩)) _ _ s
  refine wpAny_bind (wpAny_of_eq (PySem.F.newCall_set_1 x) (wpAny_pure ⟨plainId_quiet F.plain_set_new _, codeAny_builtin F.entry_set_new ?_⟩))
  rw [Around.under_plainId F.plain_set_new _]
  unfold Builtin.«set.__new__» Builtin.Frozenset.newClass
  have hsub := sub_set_self
  obtain ⟨hp, g, d, tk, os⟩ := s
  dsimp only
  wp_walk
  refine wpAny_askSetting (wpAny_pure ?_)
  dsimp only
  simp only [newObj]
  exact wpAny_bind (wpAny_alloc (wpAny_pure (wpAny_pure h)))
theorem setX_fresh {h : Heap} : SetX P w (h.push { cls := .type "set", dict := none, data := .set #[] 0 (.fresh 0 0 (!w.params.followText "set-order")) }) h.objs.size [] := by
  refine ⟨_, #[], 0, _, Heap.get?_push_size _ rfl, ⟨rfl, rfl, rfl⟩, rfl, (fun m hm => by simp at hm), (by simp), (fun z => by simp), (by decide), (by rfl), (Nat.zero_le _), List.Pairwise.nil, ?_⟩
  show _ ∨ (!w.params.followText "set-order") = true
  cases w.params.followText "set-order"
  · exact .inr rfl
  · exact .inl rfl
set_option maxHeartbeats 6400000 in
/-- set(list of texts) -/
theorem call_setX {l : Addr} {items : Array Value} {xs : List Str} {Q : Value → Shared → Prop} (hh : A.handled = none) (hl : s.heap.IsList l items) (hi : StrsAre items.toList xs) (few : xs.length + 1 < scanBound)
    (h : ∀ (h' : Heap) (tk : Nat), SetX P w h' s.heap.objs.size xs → (∀ b o, b < s.heap.objs.size → s.heap.get? b = some o → h'.get? b = some o) → Q (.ref s.heap.objs.size) { s with heap := h', toks := tk }) :
    wpAny (model P w) A (call (.type "set") [.ref l]) Q E s := by
  obtain ⟨c, tl, hmro⟩ := PySem.F.called_set.mro
  have hmade := PySem.F.called_set.made
  have hsub := PySem.F.called_set.sub
  refine wpAny_call (codeAny_of_tree ?_)
  show wpAny _ _ (callAny (.type "set") _) _ _ _
  refine wpAny_pure ⟨Code.quiet_builtin _ (by decide +kernel), codeAny_builtin PySem.F.entry_type_call ?_⟩
  rw [Around.under_plain (weight_type_call_type "set" [.ref l] []) rfl]
  have h1 := PySem.F.called_set.notType
  have h2 := PySem.F.called_set.canCreate
  have hct := PySem.F.typeCall_set_1 (.ref l)
  repeat (any_goals (first | assumption | wp_step))
  have R0 : SetX P w (s.heap.push { cls := .type "set", dict := none, data := .set #[] 0 (.fresh 0 0 (!w.params.followText "set-order")) }) s.heap.objs.size [] := setX_fresh
  refine codeAny_mono (code_setX (x := .ref l) (E := E) (Q₁ := fun obj s₁ => obj = .ref s.heap.objs.size ∧ s₁ = { s with heap := s.heap.push { cls := .type "set", dict := none, data := .set #[] 0 (.fresh 0 0 (!w.params.followText "set-order")) } }) ⟨rfl, rfl⟩) fun r s₁ hr => ?_
  have hS : (s.heap.push { cls := .type "set", dict := none, data := .set #[] 0 (.fresh 0 0 (!w.params.followText "set-order")) }).get? s.heap.objs.size = some { cls := .type "set", dict := none, data := .set #[] 0 (.fresh 0 0 (!w.params.followText "set-order")) } := Heap.get?_push_size _ rfl
  cases r with
  | error e => exact hr
  | ok fl =>
    cases fl with
    | ret obj =>
      obtain ⟨rfl, rfl⟩ := hr
      have hT : Shared.TypeIs { s with heap := s.heap.push ({ cls := .type "set", dict := none, data := .set #[] 0 (.fresh 0 0 (!w.params.followText "set-order")) } : Obj) } (.ref s.heap.objs.size) "set" := ⟨_, hS, rfl⟩
      have hli := PySem.F.called_set.init.lookup
      have hbi := PySem.F.called_set.init.bind (.ref s.heap.objs.size)
      repeat (any_goals (first | assumption | wp_step))
      refine codeAny_mono (codeAny_call_builtin (R := wants (fun r s₂ => r = .none ∧ ∃ h' tk, s₂ = { s with heap := h', toks := tk } ∧ SetX P w h' s.heap.objs.size xs ∧
          (∀ b o, b < s.heap.objs.size → s.heap.get? b = some o → h'.get? b = some o)) E) PySem.F.called_set.init.plain PySem.F.entry_set_init (check_set_init_1 hT ?_)) fun r₂ s₂ hr₂ => ?_
      · obtain ⟨ol, hol, hcl, nl, hdl⟩ := hl
        obtain ⟨ocls, odict, odata, oslots⟩ := ol
        simp only at hcl hdl
        subst hcl; subst hdl
        have hol' : (s.heap.push ({ cls := .type "set", dict := none, data := .set #[] 0 (.fresh 0 0 (!w.params.followText "set-order")) } : Obj)).get? l = some { cls := .type "list", dict := odict, data := .seq items nl, slots := oslots } := Heap.get?_push_of_some _ hol
        have hsls := PySem.F.sub_list_set
        have hslf := PySem.F.sub_list_frozenset
        have hne : (Value.type "list" == Value.type "dict") = false := by decide
        have hl1 : (s.heap.push ({ cls := .type "set", dict := none, data := .set #[] 0 (.fresh 0 0 (!w.params.followText "set-order")) } : Obj)).IsList l items := ⟨_, hol', rfl, nl, rfl⟩
        unfold Builtin.«set.__init__» noKeywords Builtin.Frozenset.updateFrom
        generalize hPI : pyIter = PI
        wp_walk
        subst hPI
        refine wpAny_pyIter_list hl1 ?_
        refine wpAny_bind (wpAny_runValue ?_)
        have hlS : l < s.heap.objs.size := Heap.lt_size hol
        have hh3 : A.in1.in1.in1.handled = none := by simp [hh]
        have szp : (s.heap.push ({ cls := .type "set", dict := none, data := .set #[] 0 (.fresh 0 0 (!w.params.followText "set-order")) } : Obj)).objs.size = s.heap.objs.size + 1 := Heap.size_push _ _
        have hneI : l ≠ (s.heap.push ({ cls := .type "set", dict := none, data := .set #[] 0 (.fresh 0 0 (!w.params.followText "set-order")) } : Obj)).objs.size := by rw [szp]; exact Nat.ne_of_lt (Nat.lt_succ_of_lt hlS)
        have hSf : s.heap.objs.size ∉ [(s.heap.push ({ cls := .type "set", dict := none, data := .set #[] 0 (.fresh 0 0 (!w.params.followText "set-order")) } : Obj)).objs.size, l] := by
          rw [szp]
          simp only [List.mem_cons, List.not_mem_nil, or_false, not_or]
          exact ⟨Nat.ne_of_lt (Nat.lt_succ_self _), Nat.ne_of_gt hlS⟩
        have hsz : xs.length = items.size := by rw [← StrsAre.len_eq hi, Array.length_toList]
        refine setX_loop ((Walks.list hh3 _ l hneI items).toS) s.heap.objs.size hSf xs hsz (by rw [← hsz]; exact few) (fun i v hv => texts_at hi i v (by rw [Array.getElem?_toList]; exact hv))
          (items.size - 0) 0 _ (by omega) (Nat.zero_le _) ⟨⟨_, Heap.get?_push_size _ rfl, rfl, rfl⟩, (hl1.push _)⟩ ?hS0 ?hR
        case hS0 => exact R0.at fun o e => Heap.get?_push_of_some _ e
        case hR =>
          intro s' hm hS'
          obtain ⟨h', g', d', tk', os'⟩ := s'
          obtain rfl : g' = s.gens := hm.gens
          obtain rfl : d' = s.drawn := hm.drawn
          obtain rfl : os' = s.os := hm.os
          show wpAny _ _ _ _ _ _
          refine wpAny_pure ?_
          show wpAny _ _ (ret Value.none) _ _ _
          refine wpAny_pure ⟨rfl, h', tk', rfl, hS', fun b o hb e => hm.heap b o ?_ (Heap.get?_push_of_some _ (Heap.get?_push_of_some _ e))⟩
          rw [szp]
          simp only [List.mem_cons, List.not_mem_nil, or_false, not_or]
          exact ⟨Nat.ne_of_lt hb, Nat.ne_of_lt (Nat.lt_succ_of_lt hb)⟩
      · cases r₂ with
        | error e => exact hr₂
        | ok fl₂ =>
          cases fl₂ with
          | ret r =>
            obtain ⟨rfl, h', tk, rfl, hS', hk'⟩ := hr₂
            repeat (any_goals (first | assumption | wp_step))
            exact h _ _ hS' hk'
          | _ => exact hr₂.elim
    | _ => exact hr.elim
theorem strs_of : ∀ (l : List Value), (∀ v ∈ l, ∃ z tk, v = Value.str z tk) → ∃ xs, StrsAre l xs ∧ xs = l.map fun v => txE (0, v)
  | [], _ => ⟨[], .nil, rfl⟩
  | v :: l, h => by
    obtain ⟨z, tk, rfl⟩ := h v List.mem_cons_self
    obtain ⟨xs, h1, rfl⟩ := strs_of l fun u hu => h u (List.mem_cons_of_mem _ hu)
    exact ⟨_, .cons z tk h1, rfl⟩
/-- sorted(set of texts) -/
theorem sorted_setX {a : Addr} {L : List Str} {Q : Value → Shared → Prop} (R : SetX P w s.heap a L) (hh : A.handled = none)
    (hQ : ∀ s' p (out : Array Value) (c : Nat) (ys : List Str), (∀ b o, s.heap.get? b = some o → s'.heap.get? b = some o) → s'.gens = s.gens → s'.os = s.os → s.heap.objs.size ≤ p →
      s'.heap.get? p = some (seqObj "list" out c) → StrsAre out.toList ys → sortedS ys = true → ys.Nodup → (∀ z, z ∈ ys ↔ z ∈ L) → Q (.ref p) s') :
    wpAny (model P w) A (call (.builtin "sorted") [.ref a]) Q E s := by
  obtain ⟨ob, ms, ep, tb, here, ex, dt, gd, nd, mem, bd, ft, le, ri, ld⟩ := R
  refine Calls.call_function_entry kind_sorted plain_sorted entry_sorted (args_sorted1 _) ?_
  unfold Builtin.«sorted»
  refine wpAny_bind (m := checkCount "sorted" 1 1 _) (wpAny_pure ?_)
  refine wpAny_bind (collect_set (A := A.in1) hh ⟨ob, here, ex.1, dt⟩ ft bd ri ld fun s1 vs k1 hz g1 o1 pm => ?_)
  have lenV : vs.length = ms.size := by rw [pm.length_eq, List.length_map, Array.length_toList]
  obtain ⟨xs, hS, exs⟩ := strs_of vs fun v hv => by
    obtain ⟨m, hm, q⟩ := List.mem_map.mp (pm.mem_iff.mp hv)
    obtain ⟨z, tk, e1, _⟩ := gd m hm
    exact ⟨z, tk, by rw [← q]; exact e1⟩
  have permX : xs.Perm (ms.toList.map txE) := by
    have q := pm.map fun v => txE (0, v)
    rw [List.map_map] at q
    rw [exs]
    exact q
  have lineV : vs.length ≤ sizeLine := by rw [lenV]; exact fits_of_scanBound bd
  refine wpAny_bind (wpAny_newList ?_ lineV)
  have hoL : (s1.heap.push (seqObj "list" vs.toArray 0)).get? s1.heap.objs.size = some (seqObj "list" vs.toArray 0) := Heap.get?_push_size _ rfl
  refine wpAny_bind (wpAny_holding (wpAny_call_entry slot_list_sort ⟨_, hoL, rfl⟩ entry_list_sort
    (list_sort_treeKAny strKind_oneLt (s := { s1 with heap := s1.heap.push (seqObj "list" vs.toArray 0) }) hoL hS.keysOf (fun v₁ v₂ rest e => keyKind_strs (by rw [← e]; exact hS)) lineV fun st' hp hs => ⟨_, rfl, ?_⟩) (args_list_sort _)))
  obtain ⟨ys, y1, y2, y3⟩ := sorted_out_str hS hp hs
  obtain ⟨c, hc⟩ := sortedHeap_at (vs := vs) (out := (arrOf st').map (·.2)) hoL
  have permY : ys.Perm (ms.toList.map txE) := y2.trans permX
  refine wpAny_pure ⟨_, rfl, hQ _ s1.heap.objs.size ((arrOf st').map (·.2)) c ys (fun b u e => ?_) g1 o1 hz hc y1 y3 (permY.nodup_iff.mpr nd) fun z => by rw [permY.mem_iff, ← mem z]⟩
  have q := k1 b u e
  have lt := Heap.lt_size q
  show (sortedHeap (s1.heap.push (seqObj "list" vs.toArray 0)) s1.heap.objs.size vs ((arrOf st').map (·.2))).get? b = some u
  rw [sortedHeap_old (Nat.ne_of_lt lt) (by rw [size_push']; exact Nat.lt_succ_of_lt lt)]
  exact Heap.get?_push_of_some _ q
end
/-! ### over the hand layer -/
/-- the set of the texts of L at a -/
def SetO' (P : Program) (w : World) (a : Addr) (L : List Str) : HO := .ext fun h => SetX P w h a L
section
variable {X : Cx}
def rSetX (K : PySem.W.Frag) (P : Program) (w : World) : List V → Hp → VK → Prop := fun vs H Q => ∃ (l : Addr) (xs : List Str), vs = [V.ref l] ∧ SqL K H l (xs.map V.str) ∧ xs.length ≤ 1000 ∧ ∀ p, H p = none → Q (.ref p) (upd H p (SetO' P w p xs))
theorem cr_setX (hc : X.calm = true) : CallR X (.type "set") (rSetX X.K X.prog X.w) := by
  intro pins s σ H vs us Q I r h
  obtain ⟨l, xs, rfl, hq, few, q⟩ := h
  rw [Vals.ref1 r]
  obtain ⟨its, rv, pl, hz⟩ := I.list hq
  refine call_setX (I.ok.hd hc) pl.isList (by simpa using rv.strs) (Nat.lt_of_le_of_lt (Nat.succ_le_succ few) (by decide)) fun h' tk hS hk => ?_
  have kp : ∀ b o, s.heap.get? b = some o → h'.get? b = some o := fun b o e => hk b o (Heap.lt_size e) e
  obtain ⟨ob, ms, ep, tb, here, more⟩ := id hS
  exact ⟨.ref s.heap.objs.size, _, I.laid (t' := tk) kp (Nat.le_refl _) (show ObjOk X.prog X.w _ h' _ (SetO' X.prog X.w s.heap.objs.size xs) from ⟨hS, ⟨ob, here⟩, fun h1 h2 p k => SetX.at p k⟩), rfl, q _ (I.hok.fresh (Nat.le_refl _))⟩
def rSortedX (P : Program) (w : World) : List V → Hp → VK → Prop := fun vs H Q => ∃ (a : Addr) (L : List Str), vs = [V.ref a] ∧ H a = some (SetO' P w a L) ∧ L.length ≤ 1000 ∧
  ∀ (ys : List Str) (p : Addr), sortedS ys = true → ys.Nodup → (∀ z, z ∈ ys ↔ z ∈ L) → H p = none → Q (.ref p) (upd H p (.lst (ys.map V.str)))
theorem vals_texts : ∀ {us : List Value} {xs : List Str}, StrsAre us xs → Vals (xs.map V.str) us
  | _, _, .nil => .nil
  | _, _, .cons n t r => .cons ⟨t, rfl⟩ (vals_texts r)
theorem cr_sortedX (hc : X.calm = true) : CallR X (.builtin "sorted") (rSortedX X.prog X.w) := by
  intro pins s σ H vs us Q I r h
  obtain ⟨a, L, rfl, ha, few, q⟩ := h
  rw [Vals.ref1 r]
  have hX : SetX X.prog X.w s.heap a L := (I.hok a _ ha).1
  refine sorted_setX hX (I.ok.hd hc) fun s' p out c ys k g o hp hg hi hs nd hm => ?_
  have lt : ys.length ≤ L.length := List.Nodup.length_le_of_subset nd fun z hz => (hm z).1 hz
  have hlen : (ys.map V.str).length ≤ sizeLine := by rw [List.length_map]; exact Nat.le_trans (Nat.le_trans lt few) (by decide)
  have hn : H p = none := I.hok.fresh hp
  have J : Inv X pins σ (upd H p (.lst (ys.map V.str))) { s with heap := s'.heap, gens := s'.gens, drawn := s'.drawn, toks := s'.toks } :=
    I.call (ch := []) (Un.laid k hp hn) (I.hok.laid k hp ⟨hlen, out.toList, c, vals_texts hi, hg⟩) (by rw [g]; exact I.bare) (fun _ z => nomatch z)
  obtain ⟨h', g', d', t', o'⟩ := s'
  obtain rfl : o' = s.os := o
  exact ⟨.ref p, _, J, rfl, q ys p hs nd hm hn⟩
end
end Gx

set_option maxRecDepth 100000
set_option maxHeartbeats 4000000
namespace Mx
open PySem PySem.Spec PyProof.Rows L2 Gx
/-! ### names: the mathematics -/
def isLow (c : Nat) : Bool := decide (97 ≤ c ∧ c ≤ 122)
/-- whether a text is a name -/
def nameB (z : Str) : Bool := (decide (1 ≤ z.cps.size) && decide (z.cps.size ≤ 8)) && z.cps.toList.all isLow
theorem low_facts : ∀ c, c < 128 → (isLow c = true → Unicode.isAlpha c = true ∧ Unicode.isLower c = true ∧ Unicode.isUpper c = false ∧ Unicode.isTitle c = false) ∧ (Unicode.isAlpha c = true → Unicode.isUpper c = false → isLow c = true) := by decide +kernel
theorem isLow_lt {c : Nat} (h : isLow c = true) : c < 128 := by
  have := of_decide_eq_true h
  omega
/-- what is_name reckons of a text -/
theorem name_by (z : Str) (h1 : 1 ≤ z.cps.size) : (Txt.isascii z && (Txt.isalpha z && Txt.islower z)) = z.cps.toList.all isLow := by
  have hl : z.length = z.cps.size := rfl
  unfold Txt.isascii Txt.isalpha Txt.islower
  rw [Bool.eq_iff_iff]
  simp only [Bool.and_eq_true, Array.all_eq_true', Array.any_eq_true', List.all_eq_true, decide_eq_true_eq, Bool.not_eq_true', Array.any_eq_false', Bool.or_eq_true, not_or, Bool.not_eq_true, Array.mem_toList_iff, hl]
  constructor
  · rintro ⟨ha, ⟨_, hb⟩, _, hd⟩ c hc
    exact (low_facts c (ha c hc)).2 (hb c hc) (hd c hc).1
  · intro h
    have f := fun c hc => (low_facts c (isLow_lt (h c hc))).1 (h c hc)
    refine ⟨fun c hc => isLow_lt (h c hc), ⟨h1, fun c hc => (f c hc).1⟩, ⟨z.cps[0], Array.getElem_mem (by omega), (f _ (Array.getElem_mem (by omega))).2.1⟩, fun c hc => ⟨(f c hc).2.2.1, (f c hc).2.2.2⟩⟩
/-! ### counts -/
def abcL : List Nat := [97,98,99,100,101,102,103,104,105,106,107,108,109,110,111,112,113,114,115,116,117,118,119,120,121,122]
theorem count_cnt (x : Str) (c : Nat) : Txt.count x ⟨#[c]⟩ = cnt c x.cps.toList := count_is x c
theorem one_sum (n : Nat) : ∀ L : List Nat, L.Nodup → (L.map fun c => if n = c then (1 : Int) else 0).sum = if n ∈ L then 1 else 0
  | [], _ => rfl
  | a :: L, h => by
    obtain ⟨h1, h2⟩ := List.nodup_cons.mp h
    rw [List.map_cons, List.sum_cons, one_sum n L h2]
    by_cases e : n = a
    · subst e
      rw [if_pos rfl, if_neg h1, if_pos (List.mem_cons_self ..)]
      rfl
    · rw [if_neg e]
      by_cases m : n ∈ L
      · rw [if_pos m, if_pos (List.mem_cons_of_mem _ m)]; rfl
      · rw [if_neg m, if_neg (by
          rw [List.mem_cons]
          rintro (z | z)
          · exact e z
          · exact m z)]; rfl
theorem cnt_sum (L : List Nat) (hL : L.Nodup) : ∀ l : List Nat, (L.map fun c => cnt c l).sum = (l.countP (fun n => decide (n ∈ L)) : Nat)
  | [] => by
    have : ∀ L : List Nat, (L.map fun c => cnt c []).sum = 0 := fun L => by
      induction L with
      | nil => rfl
      | cons a L ih => rw [List.map_cons, List.sum_cons, ih]; rfl
    rw [this]
    rfl
  | n :: r => by
    have h : ∀ L : List Nat, (L.map fun c => cnt c (n :: r)).sum = (L.map fun c => if n = c then (1 : Int) else 0).sum + (L.map fun c => cnt c r).sum := fun L => by
      induction L with
      | nil => rfl
      | cons a L ih => rw [List.map_cons, List.sum_cons, ih, cnt_cons, List.map_cons, List.sum_cons, List.map_cons, List.sum_cons]; omega
    rw [h, one_sum n L hL, cnt_sum L hL r, List.countP_cons]
    by_cases m : n ∈ L
    · rw [if_pos m, if_pos (decide_eq_true m)]; omega
    · rw [if_neg m, if_neg (by rw [decide_eq_false m]; decide)]; omega
theorem mem_abc (n : Nat) : n ∈ abcL ↔ isLow n = true := by
  unfold isLow
  rw [decide_eq_true_eq]
  constructor
  · intro h
    have : ∀ n ∈ abcL, 97 ≤ n ∧ n ≤ 122 := by decide
    exact this n h
  · intro h
    have : ∀ n, n < 123 → 97 ≤ n → n ∈ abcL := by decide
    exact this n (by omega) h.1
/-- all letters' counts together -/
def known (z : Str) (L : List Nat) : Int := (L.map fun c => Txt.count z ⟨#[c]⟩).sum
theorem known_eq (z : Str) : known z abcL = (z.cps.toList.countP isLow : Nat) := by
  unfold known
  have e : (abcL.map fun c => Txt.count z ⟨#[c]⟩) = abcL.map fun c => cnt c z.cps.toList := List.map_congr_left fun c _ => count_cnt z c
  rw [e, cnt_sum abcL (by decide)]
  congr 2
  funext n
  rw [Bool.eq_iff_iff, decide_eq_true_eq, mem_abc]
theorem due_eq (z : Str) : (decide (known z abcL = (z.cps.size : Int)) && (decide ((0 : Int) < known z abcL) && decide (known z abcL < 9))) = nameB z := by
  rw [known_eq]
  unfold nameB
  have hz : z.cps.size = z.cps.toList.length := by simp
  have hle := List.countP_le_length (p := isLow) (l := z.cps.toList)
  by_cases h : z.cps.toList.countP isLow = z.cps.toList.length
  · have ha : z.cps.toList.all isLow = true := by
      rw [List.all_eq_true]
      exact List.countP_eq_length.mp h
    rw [ha, h, hz]
    generalize z.cps.toList.length = n
    rw [Bool.and_true, decide_eq_true (show (n : Int) = (n : Int) from rfl), Bool.true_and]
    have e1 : decide ((0 : Int) < (n : Int)) = decide (1 ≤ n) := decide_eq_decide.mpr (by omega)
    have e2 : decide ((n : Int) < 9) = decide (n ≤ 8) := decide_eq_decide.mpr (by omega)
    rw [e1, e2]
  · have ha : z.cps.toList.all isLow = false := by
      rw [Bool.eq_false_iff]
      intro q
      rw [List.all_eq_true] at q
      exact h (List.countP_eq_length.mpr q)
    rw [ha, Bool.and_false, decide_eq_false (by omega), Bool.false_and]
theorem known_step (z : Str) {L : List Nat} {i c : Nat} (h : L[i]? = some c) : known z (L.take (i + 1)) = known z (L.take i) + Txt.count z ⟨#[c]⟩ := by
  unfold known
  have e : (L.map fun c => Txt.count z ⟨#[c]⟩)[i]? = some (Txt.count z ⟨#[c]⟩) := by rw [List.getElem?_map, h]; rfl
  rw [List.map_take, List.map_take, sum_take e]
end Mx

set_option maxRecDepth 100000
set_option maxHeartbeats 4000000
namespace Mx
open PySem PySem.Spec PyProof.Rows L2 Gx
/-! ### the order of texts -/
/-- a is not behind b -/
def leS (a b : Str) : Prop := ¬ b.cps.toList < a.cps.toList
theorem leS_iff (a b : Str) : leS a b ↔ ltCps b.cps.toList a.cps.toList = false := by
  rw [ltCps_eq, decide_eq_false_iff_not]
  exact Iff.rfl
theorem leS_anti {a b : Str} (h1 : leS a b) (h2 : leS b a) : a = b := by
  have e : a.cps.toList = b.cps.toList := List.le_antisymm (as := a.cps.toList) (bs := b.cps.toList) h1 h2
  cases a
  cases b
  simp only [Str.mk.injEq]
  exact Array.toList_inj.mp e
theorem leS_refl (a : Str) : leS a a := List.lt_irrefl _
theorem leS_trans {a b c : Str} (h1 : leS a b) (h2 : leS b c) : leS a c :=
  List.le_trans (l₁ := a.cps.toList) (l₂ := b.cps.toList) (l₃ := c.cps.toList) h1 h2
theorem leS_total (a b : Str) : leS a b ∨ leS b a := List.le_total a.cps.toList b.cps.toList
theorem risingS_iff : ∀ (l : List Str) (p : Str), risingS p l = true ↔ (p :: l).Pairwise leS
  | [], p => by simp [risingS]
  | x :: r, p => by
    rw [risingS, Bool.and_eq_true, risingS_iff r x, Bool.not_eq_true', ← leS_iff]
    constructor
    · rintro ⟨h1, h2⟩
      refine List.pairwise_cons.mpr ⟨fun y hy => ?_, h2⟩
      rcases List.mem_cons.mp hy with rfl | hy
      · exact h1
      · exact leS_trans h1 ((List.pairwise_cons.mp h2).1 y hy)
    · intro h
      obtain ⟨h1, h2⟩ := List.pairwise_cons.mp h
      exact ⟨h1 x (List.mem_cons_self ..), h2⟩
theorem sortedS_iff (l : List Str) : sortedS l = true ↔ l.Pairwise leS := by
  cases l with
  | nil => simp [sortedS]
  | cons x r => exact risingS_iff r x
theorem sortedS_unique {l m : List Str} (h : l.Perm m) (hl : sortedS l = true) (hm : sortedS m = true) : l = m :=
  List.Perm.eq_of_pairwise (fun _ _ _ _ => leS_anti) ((sortedS_iff l).mp hl) ((sortedS_iff m).mp hm) h
/-- a list of texts is what sorting makes of it just if it is sorted -/
theorem eq_sorted_iff {l m : List Str} (h : m.Perm l) (hm : sortedS m = true) : decide (l = m) = sortedS l := by
  cases e : sortedS l with
  | true => exact decide_eq_true (sortedS_unique h.symm e hm)
  | false => exact decide_eq_false fun q => by rw [q, hm] at e; cases e
/-! ### data of texts -/
def tD (xs : List Str) : List PyData := xs.map PyData.str
theorem eqv_texts : ∀ xs ys : List Str, PyData.eqvAll (tD xs) (tD ys) = decide (xs = ys)
  | [], [] => by simp [tD, PyData.eqvAll]
  | [], y :: ys => by simp [tD, PyData.eqvAll]
  | x :: xs, [] => by simp [tD, PyData.eqvAll]
  | x :: xs, y :: ys => by
    have ih := eqv_texts xs ys
    unfold tD at ih ⊢
    rw [List.map_cons, List.map_cons, PyData.eqvAll, ih, PyData.eqv]
    by_cases h : x = y
    · subst h
      by_cases h2 : xs = ys
      · subst h2
        simp
      · rw [decide_eq_false h2, Bool.and_false, decide_eq_false fun q => h2 (List.cons.inj q).2]
    · rw [decide_eq_false fun q => h (List.cons.inj q).1, beq_eq_false_iff_ne.mpr h, Bool.false_and]
theorem dp_texts {K : PySem.W.Frag} {H : Hp} : ∀ xs : List Str, DpAll K H (xs.map V.str) (tD xs)
  | [] => .nil
  | x :: xs => .cons (.str x) (dp_texts xs)
theorem canLay_texts : ∀ xs : List Str, (∀ x ∈ xs, PyData.strOk x = true) → PyData.canLayAll0 (tD xs) = true
  | [], _ => by simp [tD, PyData.canLayAll0]
  | x :: xs, h => by
    have ih := canLay_texts xs fun y hy => h y (List.mem_cons_of_mem _ hy)
    unfold tD at ih ⊢
    rw [List.map_cons, PyData.canLayAll0, ih, PyData.canLay0, h x (List.mem_cons_self ..)]
    rfl
theorem depth_texts : ∀ xs : List Str, PyData.depthAll (tD xs) ≤ 1
  | [] => by simp [tD, PyData.depthAll]
  | x :: xs => by
    have ih := depth_texts xs
    unfold tD at ih ⊢
    rw [List.map_cons, PyData.depthAll]
    simp only [PyData.depth]
    omega
theorem shaped_texts {xs : List Str} (h : ∀ x ∈ xs, PyData.strOk x = true) : SeqAt.shaped (.list (tD xs)) = true := by
  unfold SeqAt.shaped
  rw [Bool.and_eq_true]
  refine ⟨by simp only [PyData.canLay0]; exact canLay_texts xs h, decide_eq_true ?_⟩
  have := depth_texts xs
  simp only [PyData.depth]
  omega
theorem shaped_textsT {xs : List Str} (h : ∀ x ∈ xs, PyData.strOk x = true) : SeqAt.shaped (.tuple (tD xs)) = true := by
  unfold SeqAt.shaped
  rw [Bool.and_eq_true]
  refine ⟨by simp only [PyData.canLay0]; exact canLay_texts xs h, decide_eq_true ?_⟩
  have := depth_texts xs
  simp only [PyData.depth]
  omega
end Mx

set_option maxRecDepth 100000
set_option maxHeartbeats 4000000
namespace Gx
open PySem PySem.Spec PyProof.Rows L2 SeqAt
open AutoSeq1 (wpAny_loadPart')
/-! ### a dict is no tuple -/
theorem tup_eq_dict (l b : Addr) (items : Array Value) (n : Nat) (dd dd2 : Option Addr) (sl sl2 : Array (Option Value)) (d2 : Data) :
    Meets (Builtin.«tuple.__eq__» ⟨[.ref l, .ref b], []⟩) (fun _ R s => s.heap.get? l = some { cls := .type "tuple", dict := dd, data := .seq items n, slots := sl } ∧ s.heap.get? b = some { cls := .type "dict", dict := dd2, data := d2, slots := sl2 } ∧ R (.ok (.ret .notImplemented)) s) :=
  .of_wp fun prog w A R s h => by obtain ⟨hp, g, d, tk, os⟩ := s; obtain ⟨hl, hb, h⟩ := h; have f1 := F.sub_dict_tuple; wp_walk using wpAny_loadPart' hl, wpAny_loadPart' hb; exact ⟨_, rfl, h⟩
theorem dict_eq_tup {prog : Program} {w : World} {A : Around} {E : Value → Shared → Prop} {s : Shared} {Q : Value → Shared → Prop} {a b : Addr} (da : s.TypeIs (.ref a) "dict") (hb : s.TypeIs (.ref b) "tuple") (h : Q .notImplemented s) :
    wpAny (model prog w) A (call (.builtin "dict.__eq__") [.ref a, .ref b]) Q E s := by
  refine wpAny_call_entry PySem.F.slot_dict_eq da PySem.F.entry_dict_eq ?_ (PySem.F.args_dict_eq_2 _ _)
  show wpAny _ _ (Builtin.Dict.dictSlotArgs "__eq__" ⟨[.ref a, .ref b], []⟩ >>= _) _ _ s
  refine wpAny_bind ?_
  unfold Builtin.Dict.dictSlotArgs
  refine wpAny_bind (wpAny_notOrdered_dict da ?_)
  show wpAny _ _ (pure (Value.ref a, Value.ref b)) _ _ s
  refine wpAny_pure ?_
  refine wpAny_bind (wpAny_isInstance (T := "tuple") hb PySem.F.sub_tuple_dict ?_)
  simp only [Bool.not_false, if_true]
  exact wpAny_bind (wpAny_rule (wpAny_bind (wpAny_pure (wpAny_pure ⟨_, rfl, h⟩))))
section
variable {A : Around} {s : Shared}
theorem eqAt_tup_dict {l b : Addr} {items : Array Value} {ob : Obj} (hl : s.heap.IsTuple l items) (hb : s.heap.get? b = some ob) (hcb : ob.cls = .type "dict") (hu : A.units < cLine) : EqAt A s (.ref l) (.ref b) false := by
  obtain ⟨⟨cls, dd, data, sl⟩, ho, hc, n, hd⟩ := id hl
  simp only at hc hd
  subst hc hd
  obtain ⟨cls2, dd2, data2, sl2⟩ := ob
  simp only at hcb
  subst hcb
  have hne : l ≠ b := fun e => by
    subst e
    rw [ho] at hb
    exact absurd (congrArg Obj.cls (Option.some.inj hb)) (by simp)
  refine .of_refs hne fun prog w E Q h => ?_
  exact rc_eq_decline_or (k := false) ⟨_, ho, rfl⟩ ⟨_, hb, rfl⟩ (by decide) F.sub_dict_tuple F.slot_tuple_eq F.slot_dict_eq_refl
    (fun _ hq => call_meets F.slot_tuple_eq ⟨_, ho, rfl⟩ F.entry_tuple_eq (F.args_tuple_eq_2 _ _) (tup_eq_dict l b items n dd dd2 sl sl2 data2) ⟨ho, hb, hq⟩)
    (fun _ hq => dict_eq_tup ⟨_, hb, rfl⟩ ⟨_, ho, rfl⟩ hq)
    (fun _ hq => wpAny_isSame_ref_other' hne ho hb (by simp) hq) (.inr hu) h
end
section
variable {X : Cx}
/-- x in a list, data that are not deep -/
def rInF (K : PySem.W.Frag) : R2 := fun x y H Q => ∃ d ds, Dp K H x d ∧ Dp K H y (.list ds) ∧ d.canLay0 = true ∧ PyData.canLayAll0 ds = true ∧ d.depth ≤ 10 ∧ Q (.bl (ds.any fun z => PyData.eqv z d)) H
theorem op_inF (hu : X.A.units + 64 < cLine) : OpR X (compareOp .In) (rInF X.K) := by
  intro pins s σ H x y v u Q I rx ry h
  obtain ⟨d, ds, hd, he, sd, se, dp, q⟩ := h
  obtain ⟨as, r1⟩ := Dp.reads I d x v hd rx
  obtain ⟨bs, r2⟩ := Dp.reads I (.list ds) y u he ry
  exact SeqAt.in_list_reads r2 r1 se sd (by omega) ⟨.bl _, H, I, rfl, q⟩
/-- a dict in a list of tuples: it is not in it -/
def rInDict (K : PySem.W.Frag) : R2 := fun x y H Q => ∃ (a l : Addr) (kvs : List (Key × V)) (ps : List Addr), x = .ref a ∧ H a = some (.dK kvs) ∧ y = .ref l ∧ SqL K H l (ps.map V.ref) ∧ (∀ p ∈ ps, ∃ xs, SqT K H p xs) ∧ Q (.bl false) H
theorem op_inDict (hu : X.A.units + 64 < cLine) : OpR X (compareOp .In) (rInDict X.K) := by
  intro pins s σ H x y v u Q I rx ry h
  obtain ⟨a, l, kvs, ps, rfl, ea, rfl, hl, hp, q⟩ := h
  cases rx
  cases ry
  obtain ⟨its, rv, pl, hz⟩ := I.list hl
  have ei := refs_at rv
  subst ei
  obtain ⟨_, _, vs, _, hd⟩ := dk_of I.hok ea
  obtain ⟨ob, hb, hD⟩ := Heap.dictOf_iff.mp hd
  have hcb : ob.cls = .type "dict" := by
    obtain ⟨es, ep, ex, _⟩ := hD
    exact ex.1
  refine SeqAt.in_listAt (fun _ => false) pl.isList (fun y hy => ?_) ⟨.bl false, H, I, ?_, q⟩
  · rw [List.mem_toArray] at hy
    obtain ⟨p, hpm, rfl⟩ := List.mem_map.mp hy
    obtain ⟨xs, hx⟩ := hp p hpm
    obtain ⟨its2, _, ht, _⟩ := I.tuple hx
    exact eqAt_tup_dict ht hb hcb (by show X.A.units + 1 < cLine; omega)
  · show Value.bool _ = Value.bool false
    rw [Array.any_eq_false' |>.mpr (fun _ _ => by simp)]
end
end Gx

set_option maxRecDepth 100000
set_option maxHeartbeats 4000000
/-! own errors over a built-in error that takes another's maker (KeyError takes LookupError's) -/
namespace Gx
open PySem PySem.Spec PySem.Calls Builtin
/-- what making asks of the chain -/
structure Chn (B : String) (bm : List Value) : Prop where
  own : bm.contains (.type B) = true
  att : bm.contains (.type "AttributeError") = false
  nam : bm.contains (.type "NameError") = false
section
variable {M : Model} {prog : Program} {w : World} {A : Around} {E : Value → Shared → Prop} {R : Result → Shared → Prop} {hp : Heap} {gn : Array GenState} {dr : Drawn} {tk : Nat} {os : OsState}
variable {nm q : Str} {C N : Addr} {bs bm bmB : List Value} {hdct : Bool} {sn : List Str} {sub : List Value} {ab : Bool} {col : Option Bool} {dd : Option Addr} {k0 k1 k2 k3 k5 : Option Value} {B mk ini : String}
theorem kx_check (F : ExcBaseFacts B mk ini bmB) (ch : Chn B bm) {us : List Value} {Q : Unit → Shared → Prop} (cc : hp.get? C = some (excClassObj nm q C N bs bm hdct sn sub ab col dd k0 k1 k2 k3 k5 mk)) (hq : Q () ⟨hp, gn, dr, tk, os⟩) :
    wpAny M A (checkBuiltinCall mk ⟨.ref C :: us, []⟩) Q E ⟨hp, gn, dr, tk, os⟩ := by
  have c1 : (Value.ref C :: bm).contains (.type B) = true := by rw [List.contains_cons, ch.own, Bool.or_true]
  have st := F.noStar
  simp only [F.newRow, F.newSplit, F.newKind, checkBuiltinCall]
  repeat (first | refine wpAny_loadPart_at cc ?_ | (refine wpAny_isSubtype_exc cc ?_; rw [c1]) | refine wpAny_staticBase_exc cc ?_ | refine wpAny_madeBy_exc cc ?_ | simp only [bne_self_eq_false, Bool.false_eq_true, if_false] | wp_step)
  exact hq
theorem kx_new (F : ExcBaseFacts B mk ini bmB) (ch : Chn B bm) {us : List Value} (cc : hp.get? C = some (excClassObj nm q C N bs bm hdct sn sub ab col dd k0 k1 k2 k3 k5 mk))
    (hq : R (.ok (.ret (.ref (hp.objs.size + 1)))) ⟨(hp.push (W.kdv_tup us)).push (W.excObj C hp.objs.size none .none), gn, dr, tk, os⟩) (hz : us.length ≤ sizeLine) :
    codeAny (model prog w) A (.builtin mk ⟨.ref C :: us, []⟩) R ⟨hp, gn, dr, tk, os⟩ := by
  have fe := F.ends
  have c1 : (Value.ref C :: bm).contains (.type B) = true := by rw [List.contains_cons, ch.own, Bool.or_true]
  have c2 : (Value.ref C :: bm).contains (.type "AttributeError") = false := by rw [List.contains_cons, ch.att]; rfl
  have c3 : (Value.ref C :: bm).contains (.type "NameError") = false := by rw [List.contains_cons, ch.nam]; rfl
  refine codeAny_builtinAt F.entry ?_
  unfold Builtin.«BaseException.__new__»
  refine wpAt_bind ?_
  show wpAt _ _ _ (stack >>= _) _ _ _
  refine wpAt_bind (wpAt_stack fun p0 low => wpAt_of_wpAny ?_)
  wp_walk
  refine wpAt_of_wpAny ?_
  rw [F.owner]
  repeat (first | with_reducible refine wpAny_madeHere_exc F.canon cc ?_ | with_reducible refine wpAny_loadPart_at cc ?_ | (with_reducible refine wpAny_isSubtype_exc cc ?_; first | rw [c1] | rw [c2] | rw [c3]) | wp_step)
  show R _ _
  rw [Heap.size_push]
  exact hq
theorem kx_type (F : ExcBaseFacts B mk ini bmB) (ch : Chn B bm) {us : List Value} {fI : Addr} {Q : Fin → Shared → Prop} (cc : hp.get? C = some (excClassObj nm q C N bs bm hdct sn sub ab col dd k0 k1 k2 k3 k5 mk))
    (li : W.Looks (model prog w) hp (typeLookup (.ref C) "__init__") (some (.ref fI))) (lb : ∀ o, W.Looks (model prog w) hp (bindSpecial (.ref fI) o) (.ref fI, [o])) (hz : us.length ≤ sizeLine)
    (hq : codeAny (model prog w) A (.call (.ref fI) ⟨.ref (hp.objs.size + 1) :: us, []⟩)
      (fun r s' => match r with | .ok (.ret v) => v = .none ∧ Q (.done (.ret (.ref (hp.objs.size + 1)))) s' | .ok _ => False | .error e => E e s')
      ⟨(hp.push (W.kdv_tup us)).push (W.excObj C hp.objs.size none .none), gn, dr, tk, os⟩) : wpAny (model prog w) A (Builtin.«type.__call__» ⟨.ref C :: us, []⟩) Q E ⟨hp, gn, dr, tk, os⟩ := by
  repeat (first | with_reducible refine wpAny_loadPart_at cc ?_ | with_reducible refine wpAny_madeBy_exc cc ?_ | wp_step)
  refine codeAny_call_builtin_code (Code.quiet_builtin _ F.quiet) (kx_check F ch cc ?_)
  refine kx_new F ch cc ?_ hz
  show wpAny _ _ _ _ _ _
  have old : ∀ b o, hp.get? b = some o → ((hp.push (W.kdv_tup us)).push (W.excObj C hp.objs.size none .none)).get? b = some o := fun b o e => Heap.get?_push_of_some _ (Heap.get?_push_of_some _ e)
  have cc1 := old _ _ cc
  have ne : ((hp.push (W.kdv_tup us)).push (W.excObj C hp.objs.size none .none)).get? (hp.objs.size + 1) = some (W.excObj C hp.objs.size none .none) := by heap_get
  have cs : (Value.ref C :: bm).contains (.ref C) = true := by simp
  have li1 := li.keeps old
  have lb1 := (lb (.ref (hp.objs.size + 1))).keeps old
  unfold isInstance
  repeat (first | with_reducible refine wpAny_loadPart_at ne ?_ | (with_reducible refine wpAny_isSubtype_exc cc1 ?_; rw [cs]) | wp_step)
  show wpAny _ _ (typeLookup (.ref C) _) _ _ _
  refine li1.at ?_
  refine wpAny_holding (wpAny_bind (lb1.at ?_))
  refine wpAny_bind (wpAny_call (codeAny_mono hq fun r s1 z => ?_))
  rcases r with e | (v | _ | _ | _) <;> first | exact z | exact z.elim | skip
  obtain ⟨rfl, z⟩ := z
  first | exact wpAny_pure (wpAny_pure z) | (wp_walk; exact z)
theorem kx_call (F : ExcBaseFacts B mk ini bmB) (ch : Chn B bm) {us : List Value} {fI : Addr} (cc : hp.get? C = some (excClassObj nm q C N bs bm hdct sn sub ab col dd k0 k1 k2 k3 k5 mk))
    (li : W.Looks (model prog w) hp (typeLookup (.ref C) "__init__") (some (.ref fI))) (lb : ∀ o, W.Looks (model prog w) hp (bindSpecial (.ref fI) o) (.ref fI, [o])) (hz : us.length ≤ sizeLine)
    (hq : codeAny (model prog w) (A.under (.builtin "type.__call__" ⟨.ref C :: us, []⟩)) (.call (.ref fI) ⟨.ref (hp.objs.size + 1) :: us, []⟩) (W.InitBack (hp.objs.size + 1) R)
      ⟨(hp.push (W.kdv_tup us)).push (W.excObj C hp.objs.size none .none), gn, dr, tk, os⟩) : codeAny (model prog w) A (.call (.ref C) ⟨us, []⟩) R ⟨hp, gn, dr, tk, os⟩ := by
  have t1 := tc_lookup
  have t2 := tc_bind (.ref C)
  have t3 : (⟨hp, gn, dr, tk, os⟩ : Shared).TypeIs (.ref C) "type" := ⟨_, cc, rfl⟩
  refine codeAny_of_tree ?_
  show wpAny _ _ (callAny (.ref C) _) _ _ _
  repeat (any_goals (first | assumption | with_reducible refine wpAny_loadPart_at cc ?_ | wp_step))
  refine ⟨rfl, ?_⟩
  refine codeAny_call_builtin_at (Code.quiet_builtin _ (by decide +kernel)) entry_typeCall (wpAny_check_type_call_sub cc (kx_type F ch cc li lb hz ?_))
  refine codeAny_mono hq fun r s1 z => ?_
  rcases r with e | (v | _ | _ | _) <;> exact z
end
end Gx
namespace Gx
open PySem PySem.Spec PySem.W PySem.Calls PyProof.Rows L2
/-! ### own errors with one field, made, over any base -/
/-- a base: the maker's facts, and what each chain over it holds -/
structure XBase (B mk ini : String) (bmF bmB : List Value) : Prop where
  F : ExcBaseFacts B mk ini bmF
  ch : ∀ bm : List Value, excTail bmB bm = true → Chn B bm
theorem xbase_of {B mk ini : String} {bmB : List Value} (F : ExcBaseFacts B mk ini bmB) : XBase B mk ini bmB bmB :=
  ⟨F, fun bm t => ⟨by rw [excTail_contains _ bm t]; exact F.hasB, by rw [excTail_contains _ bm t]; exact F.noAttr, by rw [excTail_contains _ bm t]; exact F.noName⟩⟩
abbrev bmKey : List Value := [.type "KeyError", .type "LookupError", .type "Exception", .type "BaseException", .type "object"]
theorem xbase_KeyError : XBase "LookupError" "LookupError.__new__" "LookupError.__init__" [.type "LookupError", .type "Exception", .type "BaseException", .type "object"] bmKey :=
  ⟨PySem.F.excBase_LookupError, fun bm t => ⟨by rw [excTail_contains _ bm t]; decide +kernel, by rw [excTail_contains _ bm t]; decide +kernel, by rw [excTail_contains _ bm t]; decide +kernel⟩⟩
section
variable {prog : Program} {w : World} {A : Around} {R : Result → Shared → Prop} {s : Shared} {K : Frag} {mg : Str → Option Value} {C fI : Addr} {cn fld : Str} {B mk ini : String} {bmF bmB : List Value}
theorem x_madeC (FB : XBase B mk ini bmF bmB) (T : XTxt K mg cn fld mk bmB C fI) (D : InitDoes K C fI fld) {v : Value} (inK : K.In s.heap) (lim : s.heap.NoLimit) (room : A.depth + 1 < recursionLimit)
    (hq : ∀ h' tk e d, XMade s.heap h' e C d fld v → R (.ok (.ret (.ref e))) { s with heap := h', toks := tk }) : codeAny (model prog w) A (.call (.ref C) ⟨[v], []⟩) R s := by
  obtain ⟨nm, q, N, bs, bm, sn, sub, ab, col, dd, k0, k1, k2, k3, k5, hC, tail⟩ := T.cls
  obtain ⟨hp, g, dr, tk, os⟩ := s
  have stay : ∀ b o, hp.get? b = some o → ((hp.push (kdv_tup [v])).push (excObj C hp.objs.size none .none)).get? b = some o := fun b o e => Heap.get?_push_of_some _ (Heap.get?_push_of_some _ e)
  have there : ((hp.push (kdv_tup [v])).push (excObj C hp.objs.size none .none)).get? (hp.objs.size + 1) = some (excObj C hp.objs.size none .none) := by heap_get
  have fresh : K.lookup (hp.objs.size + 1) = none := by
    cases e : K.lookup (hp.objs.size + 1) with
    | none => rfl
    | some o => exact absurd (Nat.lt_of_succ_lt (Heap.lt_size (inK _ _ e))) (Nat.lt_irrefl _)
  refine kx_call FB.F (FB.ch bm tail) (inK _ _ hC) (looks_findIn inK T.iC) (fun self => bind_fn inK self T.tC) (one_line v) ?_
  refine D prog w _ _ ⟨(hp.push (kdv_tup [v])).push (excObj C hp.objs.size none .none), g, dr, tk, os⟩ _ _ v (inK.keeps stay) (lim.keeps stay) there fresh room fun h' tk' dx M => ?_
  have old : ∀ b o, hp.get? b = some o → h'.get? b = some o := fun b o e => M.keep b o (Nat.ne_of_lt (Nat.lt_succ_of_lt (Heap.lt_size e))) (stay b o e)
  have z : hp.objs.size + 1 + 1 ≤ dx := by
    have q := M.big
    first
      | exact q
      | simpa only [Heap.size_push] using q
  exact ⟨rfl, hq h' tk' (hp.objs.size + 1) dx ⟨old, Nat.le_succ _, ⟨_, _, M.obj, rfl, rfl, rfl, rfl⟩, Nat.le_trans (Nat.le_trans (Nat.le_succ _) (Nat.le_succ _)) z, M.ne, M.ns⟩⟩
end
/-! ### errors as values -/
/-- the error at e, of the class C, its dict at d -/
def ExV (C e : Addr) (d : Option Addr) : HO := .ext fun h => ∃ (oe : Obj) (vs : Array Value), h.get? e = some oe ∧ oe.cls = .ref C ∧ oe.dict = d ∧ oe.data = .fields vs
theorem exV_ok {P : Program} {w : World} {H : Hp} {h : Heap} {C e : Addr} {d : Option Addr} {oe : Obj} {vs : Array Value} (he : h.get? e = some oe) (hc : oe.cls = .ref C) (hd : oe.dict = d) (hf : oe.data = .fields vs) : ObjOk P w H h e (ExV C e d) :=
  ⟨⟨oe, vs, he, hc, hd, hf⟩, ⟨oe, he⟩, fun h1 h2 ⟨o, us, a, b, c, f⟩ k => ⟨o, us, k _ a, b, c, f⟩⟩
theorem exV_at {P : Program} {w : World} {H : Hp} {h : Heap} {C e : Addr} {d : Option Addr} (ok : HOk P w H h) (he : H e = some (ExV C e d)) : ∃ (oe : Obj) (vs : Array Value), h.get? e = some oe ∧ oe.cls = .ref C ∧ oe.dict = d ∧ oe.data = .fields vs :=
  (show ObjOk P w H h e (ExV C e d) from ok e _ he).1
section
variable {X : Cx} {C fI : Addr} {cn fld : Str} {B mk ini : String} {bmF bmB : List Value}
/-- cn(e), the error kept -/
def tMkV (C : Addr) (fld : Str) (ta : TA) : TE := fun σ H Q => ta σ H fun vs H1 => ∃ v, vs = [v] ∧ ∀ d e, H1 d = none → H1 e = none → e ≠ d → Q (.ref e) (upd (upd H1 d (.xd [(fld, v)])) e (ExV C e (some d)))
theorem pe_mkV {a : Expr} {ta : TA} {p pos : Pos} {k : Nat} (FB : XBase B mk ini bmF bmB) (T : XTxt X.K X.mg cn fld mk bmB C fI) (D : InitDoes X.K C fI fld) (room : Room k X.A) (ha : PA X [a] ta) (hg : Gl X cn)
    (hdb : (cn == ("__debug__" : Str)) = false := by decide) (hst : starEach (a :: []) X.env = (false, eval a X.env) :: starEach [] X.env := by rfl) (hpl : (backTo pos (starEach [] X.env)).any (·.1) = false := by rfl) :
    PE X (.Call (.Name cn p) [a] [] pos) (tMkV C fld ta) := by
  refine ⟨fun pins s σ H Q I h => ?_⟩
  refine wpAny_Call_Name_kw (ld_glob I hg T.gC ?_ hdb)
  refine PySem.W.callWith_K (h₀ := X.base) I.ok.mod.kin T.kC (thn (ha.run pos pins s σ H _ I h) ?_) hst hpl
  rintro us s1 ⟨vs, H1, I1, r1, v, rfl, q1⟩
  refine ⟨I1.kIn, ?_⟩
  obtain ⟨u, rfl, rv⟩ := vals1 r1
  show wpAny _ _ (call (.ref C) [u]) _ _ _
  have lim := I1.nolimit
  obtain ⟨hp, g, dr, tk, os⟩ := s1
  refine wpAny_call (x_madeC FB T D I1.kIn lim (by have := room.dp; omega) fun h' tk' e d M => ?_)
  obtain ⟨oe, fv, hoe, hc, hd, hdat, h1⟩ := M.obj
  obtain ⟨G', g1, g2⟩ := restrict h' fun b => decide (b ≠ e)
  have off : ∀ b, b ≠ e → G'.get? b = h'.get? b := fun b hb => g1 b (decide_eq_true hb)
  have gone : G'.get? e = none := g2 e (by simp)
  have old : ∀ b o, hp.get? b = some o → G'.get? b = some o := fun b o q => (off b (Nat.ne_of_lt (Nat.lt_of_lt_of_le (Heap.lt_size q) M.new))).trans (M.keep b o q)
  have ob : ObjOk X.prog X.w (upd H1 d (.xd [(fld, v)])) G' d (.xd [(fld, v)]) := ⟨_, M.ns.at (fun o q => (off d M.ne).trans q), fun f => relO_one rv f⟩
  have J : Inv X pins σ (upd H1 d (.xd [(fld, v)])) ⟨G', g, dr, tk', os⟩ := I1.laid (t' := tk') old M.big ob
  have ne0 : H1 e = none := I1.hok.fresh M.new
  have J2 := J.laidN (h' := h') (t' := tk') (o := ExV C e (some d)) (fun b o q => by
    by_cases hb : b = e
    · have q' : G'.get? b = some o := q
      rw [hb, gone] at q'
      cases q'
    · exact (off b hb).symm.trans q) gone (by rw [upd_ne (Ne.symm M.ne)]; exact ne0) (exV_ok hoe hc hd hdat)
  exact ⟨.ref e, _, J2, rfl, q1 d e (I1.hok.fresh M.big) ne0 (Ne.symm M.ne)⟩
end
end Gx

set_option maxRecDepth 100000
set_option maxHeartbeats 4000000
namespace Gx
open PySem PySem.Spec PySem.W PySem.Calls PyProof.Rows L2
/-! ### own errors without an __init__ of their own, as values -/
/-- what the written part says of such a class -/
structure XPln (K : Frag) (mg : Str → Option Value) (cn : Str) (mk ini : String) (bmB : List Value) (C : Addr) : Prop where
  gC : mg cn = some (.ref C)
  cls : ∃ nm q N bs bm hd sn sub ab col dd k0 k1 k2 k3 k5, K.lookup C = some (excClassObj nm q C N bs bm hd sn sub ab col dd k0 k1 k2 k3 k5 mk) ∧ excTail bmB bm = true
  iC : findIn K (.ref C) "__init__" = some (some (.builtin ini))
  kC : keepIn K (.ref C) = true
/-- .. of any own class of errors, for isinstance -/
structure XCls (K : Frag) (C : Addr) : Prop where
  isC : isClsIn K C = true
  ga : findIn K (.ref C) "__getattribute__" = some (some (.builtin "BaseException.__getattribute__"))
  gg : findIn K (.ref C) "__getattr__" = some none
  ex : subIn K (.ref C) (.type "BaseException") = some true
  cl : findIn K (.ref C) "__class__" = some (some (.builtin "object.__class__"))
  sp : specialIn K (.builtin "object.__class__") "__get__" = some (some (.builtin "getset_descriptor.__get__"))
  ta : takesIn K (.builtin "object.__class__") = some true
  ob : mroIn K C (.type "object") = some true
section
variable {X : Cx} {C : Addr} {cn : Str} {B mk ini : String} {bmB : List Value}
def tMkP (C : Addr) (ta : TA) : TE := fun σ H Q => ta σ H fun vs H1 => vs.length ≤ 1000 ∧ ∀ e, H1 e = none → Q (.ref e) (upd H1 e (ExV C e none))
theorem pe_mkP {a : Expr} {ta : TA} {p pos : Pos} (F : ExcBaseFacts B mk ini bmB) (T : XPln X.K X.mg cn mk ini bmB C) (ha : PA X [a] ta) (hg : Gl X cn)
    (hdb : (cn == ("__debug__" : Str)) = false := by decide) (hst : starEach (a :: []) X.env = (false, eval a X.env) :: starEach [] X.env := by rfl) (hpl : (backTo pos (starEach [] X.env)).any (·.1) = false := by rfl) :
    PE X (.Call (.Name cn p) [a] [] pos) (tMkP C ta) := by
  refine ⟨fun pins s σ H Q I h => ?_⟩
  refine wpAny_Call_Name_kw (ld_glob I hg T.gC ?_ hdb)
  refine PySem.W.callWith_K (h₀ := X.base) I.ok.mod.kin T.kC (thn (ha.run pos pins s σ H _ I h) ?_) hst hpl
  rintro us s1 ⟨vs, H1, I1, r1, hz, q1⟩
  refine ⟨I1.kIn, ?_⟩
  obtain ⟨nm, q, N, bs, bm, hd, sn, sub, ab, col, dd, k0, k1, k2, k3, k5, hC, tail⟩ := T.cls
  have hl : us.length ≤ sizeLine := by
    rw [← r1.length]
    exact Nat.le_trans hz (by decide)
  obtain ⟨hp, g, dr, tk, os⟩ := s1
  refine PySem.W.call_B F (fun Y => excTail_contains Y bm tail) (I1.kIn _ _ hC) (looks_findIn I1.kIn T.iC) hl fun h' k he ht => ?_
  have fr := I1.hok.fresh (Nat.le_succ hp.objs.size)
  exact ⟨.ref (hp.objs.size + 1), _, I1.laid (t' := tk) k (Nat.le_succ _) (exV_ok he rfl rfl rfl), rfl, q1 _ fr⟩
end
/-- the error at e stands, with its dict if it has one -/
def ExAt (H : Hp) (e C : Addr) (d : Option Addr) (fs : List (Str × V)) : Prop := H e = some (ExV C e d) ∧ ∀ dd, d = some dd → H dd = some (.xd fs)
section
variable {X : Cx} {pins : List (Addr × Obj)} {σ : L2.St} {H : Hp} {s : Shared}
theorem exAt_inst {e C : Addr} {d : Option Addr} {fs : List (Str × V)} (I : Inv X pins σ H s) (h : ExAt H e C d fs) : ∃ (oe : Obj) (od : Option Obj), PySem.W.InstAt s.heap e oe C od := by
  obtain ⟨h1, h2⟩ := h
  obtain ⟨oe, vs, he, hc, hd, hf⟩ := exV_at I.hok h1
  have nc : PySem.W.notCls oe = true := by unfold PySem.W.notCls; rw [hf] <;> rfl
  cases d with
  | none => exact ⟨oe, none, he, hc, nc, by rw [hd]; trivial⟩
  | some dd =>
    obtain ⟨mA, hns, _⟩ := (show ObjOk X.prog X.w H s.heap dd (.xd fs) from I.hok dd _ (h2 dd rfl))
    obtain ⟨od, ho, _⟩ := lookIn_ns hns
    exact ⟨oe, some od, he, hc, nc, by rw [hd]; exact ho⟩
end
/-- isinstance(e, c), e an own error -/
def rIsV (K : PySem.W.Frag) : List V → Hp → VK → Prop := fun xs H Q => ∃ (e C : Addr) (d : Option Addr) (fs : List (Str × V)) (c : V) (u : Value) (b : Bool), xs = [.ref e, c] ∧ ExAt H e C d fs ∧ XCls K C ∧ ClsV c u ∧ PySem.W.kitOne K (.ref C) u = some b ∧ Q (.bl b) H
section
variable {X : Cx}
theorem call_isV : CallR X (.builtin "isinstance") (rIsV X.K) := by
  intro pins s σ H xs us Q I r h
  obtain ⟨e, C, d, fs, c, u, b, rfl, hx, T, k, hb, q⟩ := h
  obtain ⟨u1, u2, rfl, r1, r2⟩ := vals2 r
  have e2 := k.eq r2
  subst e2
  cases (show u1 = Value.ref e from r1)
  obtain ⟨oe, od, J⟩ := exAt_inst I hx
  exact PySem.W.kia_one (PySem.W.kitx_exc (ox := oe) (od := od) T.isC T.ga T.gg T.ex T.cl T.sp T.ta T.ob) I.kIn J hb (fun z => nomatch z) fun tk => ⟨.bl b, H, I.tok tk, rfl, q⟩
/-- e.fld, e an own error with that field -/
def tGetV (C : Addr) (fld : Str) (te : TE) : TE := fun σ H Q => te σ H fun x H1 => ∃ (e dd : Addr) (v : V), x = .ref e ∧ ExAt H1 e C (some dd) [(fld, v)] ∧ Q v H1
theorem pe_getV {C fI : Addr} {cn fld : Str} {mk : String} {bmB : List Value} {e : Expr} {te : TE} {pos : Pos} (T : XTxt X.K X.mg cn fld mk bmB C fI) (he : PE X e te)
    (hb : attributeBase e fld X.env (eval e X.env) = eval e X.env := by rfl) : PE X (.Attribute e fld pos) (tGetV C fld te) := by
  constructor
  intro pins s σ H Q I h
  refine attr_of hb (thn (he.run pins s σ H _ I h) ?_)
  rintro u s1 ⟨x, H1, I1, rx, e1, dd, v, rfl, ⟨h1, h2⟩, q⟩
  obtain rfl : u = Value.ref e1 := rx
  obtain ⟨oe, vs, here, hc, hd, hf⟩ := exV_at I1.hok h1
  obtain ⟨mA, hns, hr⟩ := (show ObjOk X.prog X.w H1 s1.heap dd (.xd [(fld, v)]) from I1.hok dd _ (h2 dd rfl))
  obtain ⟨od, ho, hl⟩ := lookIn_ns hns
  have l : List.lookup fld [(fld, v)] = some v := by simp [List.lookup]
  have hrf := hr fld
  rw [l] at hrf
  obtain ⟨u, hu, ru⟩ := RelO.some_of (v := v) (o := mA fld) hrf
  have J : PySem.W.InstAt s1.heap e1 oe C (some od) := ⟨here, hc, by unfold PySem.W.notCls; rw [hf] <;> rfl, by rw [hd]; exact ho⟩
  exact HandSPX.exc_get I1.kIn J T.ga T.gg T.exC (PySem.W.findObj_own T.hdC T.noN rfl (by rw [hl, hu])) (handed_of ru) ⟨v, H1, I1.tok _, ru, q⟩
end
end Gx

set_option maxRecDepth 100000
set_option maxHeartbeats 4000000
namespace Gx
open PySem PySem.Spec PySem.W PySem.Calls PyProof.Rows L2
/-! ### stores over KeyError -/
theorem store_KeyErr : StoreFacts "KeyError" bmKey "object.__setattr__" "object" := by
  constructor
  case mro => kernel_rfl
  case slot => exact .of (owner := "object") (n := "__setattr__") (by rw [typeLookup_type, builtinLookup_eq_fast]; kernel_rfl) (by decide +kernel) (by decide +kernel) (by decide +kernel) (.inl (by decide +kernel)) (by rw [isSubtype_type]; kernel_rfl)
  case entry => exact PySem.F.store_LookupError.entry
  case kind => decide +kernel
  case split => decide +kernel
  case hasOwner => decide +kernel
  case args => exact fun a b c => PySem.F.store_LookupError.args a b c
  case passes => exact fun o => by kernel_rfl
/-! ### the table of all errors: who is derived from whom -/
def subC (i j : Nat) : Bool := i == j || (j == 0 && decide (i ≤ 11))
def BS : List String := ["ValueError", "KeyError", "IndexError", "LookupError", "RuntimeError", "OverflowError", "ArithmeticError"]
def subB (i : Nat) (b : String) : Bool :=
  if b = "ValueError" then decide (i ≤ 11) else if b = "KeyError" then i == 12 || i == 13 else if b = "IndexError" then i == 15
  else if b = "LookupError" then decide (12 ≤ i) && decide (i ≤ 15) else if b = "RuntimeError" then i == 16 else if b = "OverflowError" then i == 17 else decide (17 ≤ i)
def xclsB (K : Frag) (C : Addr) : Bool :=
  isClsIn K C && (decide (findIn K (.ref C) "__getattribute__" = some (some (.builtin "BaseException.__getattribute__"))) && (decide (findIn K (.ref C) "__getattr__" = some none) && (decide (subIn K (.ref C) (.type "BaseException") = some true) &&
    (decide (findIn K (.ref C) "__class__" = some (some (.builtin "object.__class__"))) && (decide (specialIn K (.builtin "object.__class__") "__get__" = some (some (.builtin "getset_descriptor.__get__"))) &&
    (decide (takesIn K (.builtin "object.__class__") = some true) && decide (mroIn K C (.type "object") = some true)))))))
theorem xclsB_ok {K : Frag} {C : Addr} (h : xclsB K C = true) : XCls K C := by
  unfold xclsB at h
  simp only [Bool.and_eq_true, decide_eq_true_eq] at h
  obtain ⟨a, b, c, d, e, f, g, i⟩ := h
  exact ⟨a, b, c, d, e, f, g, i⟩
def tabB (K : Frag) (cs : List Addr) : Bool := (List.range 20).all fun i => xclsB K (cs.getD i 0) && (((List.range 20).all fun j => decide (kitOne K (.ref (cs.getD i 0)) (.ref (cs.getD j 0)) = some (subC i j))) && (BS.all fun b => decide (kitOne K (.ref (cs.getD i 0)) (.type b) = some (subB i b))))
theorem getD_range (c : Nat → Addr) {i : Nat} (h : i < 20) : ((List.range 20).map c).getD i 0 = c i := by
  rw [List.getD_eq_getElem?_getD, List.getElem?_map, List.getElem?_range h]
  rfl
section
variable {K : Frag} {c : Nat → Addr} (t : tabB K ((List.range 20).map c) = true) {i : Nat} (hi : i < 20)
include t hi
theorem tab_at : xclsB K (c i) = true ∧ (∀ j, j < 20 → kitOne K (.ref (c i)) (.ref (c j)) = some (subC i j)) ∧ ∀ b ∈ BS, kitOne K (.ref (c i)) (.type b) = some (subB i b) := by
  unfold tabB at t
  have h := List.all_eq_true.mp t i (List.mem_range.mpr hi)
  simp only [Bool.and_eq_true, List.all_eq_true, decide_eq_true_eq, List.mem_range] at h
  rw [getD_range c hi] at h
  refine ⟨h.1, fun j hj => ?_, fun b hb => h.2.2 b hb⟩
  have := h.2.1 j hj
  rw [getD_range c hj] at this
  exact this
theorem tab_cls : XCls K (c i) := xclsB_ok (tab_at t hi).1
theorem tab_own {j : Nat} (hj : j < 20) : kitOne K (.ref (c i)) (.ref (c j)) = some (subC i j) := (tab_at t hi).2.1 j hj
theorem tab_blt {b : String} (hb : b ∈ BS) : kitOne K (.ref (c i)) (.type b) = some (subB i b) := (tab_at t hi).2.2 b hb
end
end Gx

set_option maxRecDepth 100000
set_option maxHeartbeats 4000000
namespace Gx
open PySem PySem.Spec PySem.W PySem.Calls PyProof.Rows L2
/-- an own class of errors is caught by its own name -/
theorem exm_own {K : PySem.W.Frag} {S : Addr} (b : PySem.W.subIn K (.ref S) (.type "BaseException") = some true) (i : PySem.W.isClsIn K S = true) (t : PySem.W.typeIn K (.ref S) = some (.type "type")) (s : PySem.W.subIn K (.ref S) (.ref S) = some true) : PySem.W.exmOne K (.ref S) (.ref S) = some true := by
  have i' : (PySem.W.clsIn K S).isSome = true := i
  unfold PySem.W.exmOne PySem.W.kitCls
  simp [b, i', t, s]
section
variable {X : Cx} {C : Addr} {cn : Str} {B mk ini : String} {bmB : List Value}
/-- raise cn(a), an own error without an __init__ of its own -/
def tMkR (C : Addr) (ta : TA) : L2.St → Hp → XK → Prop := fun σ H Q => ta σ H fun vs H1 => vs.length ≤ 1000 ∧ Q (.ref C) none H1
theorem pmk_P {a : Expr} {ta : TA} {p pos : Pos} (F : ExcBaseFacts B mk ini bmB) (T : XPln X.K X.mg cn mk ini bmB C) (XC : XCls X.K C) (ha : PA X [a] ta) (hg : Gl X cn)
    (hdb : (cn == ("__debug__" : Str)) = false := by decide) (hst : starEach (a :: []) X.env = (false, eval a X.env) :: starEach [] X.env := by rfl) (hpl : (backTo pos (starEach [] X.env)).any (·.1) = false := by rfl) :
    PMk X (.Call (.Name cn p) [a] [] pos) (tMkR C ta) := by
  intro pins s σ H Q I h
  refine wpAny_Call_Name_kw (ld_glob I hg T.gC ?_ hdb)
  refine PySem.W.callWith_K (h₀ := X.base) I.ok.mod.kin T.kC (thn (ha.run pos pins s σ H _ I h) ?_) hst hpl
  rintro us s1 ⟨vs, H1, I1, r1, hz, q1⟩
  refine ⟨I1.kIn, ?_⟩
  obtain ⟨nm, q, N, bs, bm, hd, sn, sub, ab, col, dd, k0, k1, k2, k3, k5, hC, tail⟩ := T.cls
  have hl : us.length ≤ sizeLine := by
    rw [← r1.length]
    exact Nat.le_trans hz (by decide)
  have tyC : typeIn X.K (.ref C) = some (.type "type") := by
    show (X.K.lookup C).map (·.cls) = _
    rw [hC]
    rfl
  obtain ⟨hp, g, dr, tk, os⟩ := s1
  refine PySem.W.call_B F (fun Y => excTail_contains Y bm tail) (I1.kIn _ _ hC) (looks_findIn I1.kIn T.iC) hl fun h' k he ht => ?_
  obtain ⟨G', g1, g2⟩ := restrict h' fun b => decide (b ≠ hp.objs.size + 1)
  have off : ∀ b, b ≠ hp.objs.size + 1 → G'.get? b = h'.get? b := fun b hb => g1 b (decide_eq_true hb)
  have gone : G'.get? (hp.objs.size + 1) = none := g2 _ (by simp)
  have old : ∀ b o, hp.get? b = some o → G'.get? b = some o := fun b o q => (off b (Nat.ne_of_lt (Nat.lt_succ_of_lt (Heap.lt_size q)))).trans (k b o q)
  have J : Inv X pins σ H1 ⟨G', g, dr, tk, os⟩ := I1.kept (t' := tk) old
  refine ⟨hp.objs.size + 1, _, _, ⟨G', g, dr, tk, os⟩, H1, .ref C, none, rfl, J, ?_, gone, he, ⟨rfl, rfl⟩, rfl, rfl, I1.hok.fresh (Nat.le_succ _), rfl, I1.bare, raises_own XC.ex tyC, q1⟩
  intro b o q
  have q' : G'.get? b = some o := q
  by_cases hb : b = hp.objs.size + 1
  · rw [hb, gone] at q'
    cases q'
  · exact (off b hb).symm.trans q
end
/-! ### methods that may raise -/
/-- the class at C has a method m that keeps sp, and may raise -/
def CalMX (P : Program) (w : World) (K : PySem.W.Frag) (mg : Str → Option Value) (base : Heap) (C : Addr) (m : Str) (k : Nat) (ps : List Str) (sp : Sp) : Prop :=
  ∃ (f : Addr) (fd : FuncData), FnG P w K mg base (L2.CX P w) k f fd ps sp ∧ Meth K C m f ∧ Binds K fd ps []
theorem DefM.calX {P : Program} {w : World} {K : PySem.W.Frag} {mg : Str → Option Value} {base : Heap} {C : Addr} {m qual : Str} {st : Stmt} {k : Nat} {ps : List Str} {sp : Sp} (d : DefM K C m qual st ps)
    (h : ∀ f fd, Fun K m qual st f fd → FnG P w K mg base (L2.CX P w) k f fd ps sp) : CalMX P w K mg base C m k ps sp := by
  obtain ⟨f, fd, F, me, b, fi⟩ := d
  exact ⟨f, fd, h f fd F, me, b⟩
theorem CalMX.up {P : Program} {w : World} {K : PySem.W.Frag} {mg : Str → Option Value} {base : Heap} {C : Addr} {m : Str} {j k : Nat} {ps : List Str} {sp : Sp} (c : CalMX P w K mg base C m j ps sp) (h : j ≤ k) : CalMX P w K mg base C m k ps sp := by
  obtain ⟨f, fd, F, r⟩ := c
  exact ⟨f, fd, F.up h, r⟩
section
variable {X : Cx} {C : Addr} {m : Str} {k : Nat} {ps : List Str} {sp : Sp} {ta : TE} {t : TA} {o e : Expr} {es : List Expr} {pos apos : Pos} {E : L2.St → XK}
/-- o.m(..), which may raise -/
def tMethX (C : Addr) (m : Str) (sp : Sp) (E : L2.St → XK) (ta : TE) (t : TA) : TE := fun σ H Q => ta σ H fun x H1 => ∃ a dx fs, x = .ref a ∧ H1 a = some (.ins C dx fs) ∧ fs.lookup m = none ∧ t σ H1 fun vs H2 => sp (x :: vs) H2 Q (E σ)
theorem pe_methX {pl : Sem Bool} (he : PE X o ta) (cl : Cls X.K C) (c : CalMX X.prog X.w X.K X.mg X.base C m k ps sp) (g : Gd X.A) (room : Room k X.A) (hx : ∀ σ, PassesAt (L2.CX X.prog X.w) X σ (E σ)) (ha : PA X (e :: es) t)
    (hst : starEach (e :: es) X.env = (false, eval e X.env) :: starEach es X.env := by rfl) (hpl : (backTo pos (starEach es X.env)).any (·.1) = false := by rfl)
    (ht : eval (.Call (.Attribute o m apos) (e :: es) [] pos) X.env = (do
      let ov ← eval o X.env
      standAt apos.atName
      let (f, first) ← holding [ov] (getMethod ov m pl)
      callWith pos f first (backTo pos (starEach (e :: es) X.env)) (backToKw pos (keywordEach [] X.env))) := by rfl) :
    PE X (.Call (.Attribute o m apos) (e :: es) [] pos) (tMethX C m sp E ta t) := by
  obtain ⟨f, fd, F, hm, b⟩ := c
  refine ⟨fun pins s σ H Q I h => ?_⟩
  refine PySem.W.methodCall_KW (pl := pl) (thn (he.run pins s σ H _ I h) fun u s1 ⟨x, H1, I1, rx, a, dx, fs, ex, ea, l, q⟩ => ?_) ht
  subst ex
  obtain rfl : u = Value.ref a := rx
  refine getmeth_ok I1 ea cl hm l ?_
  refine PySem.W.callWith_K (first := [.ref a]) (h₀ := X.base) I.ok.mod.kin hm.kp (thn (ha.run pos pins s1 σ H1 _ I1 q) fun us s2 ⟨vs, H2, I2, r, q2⟩ => ⟨I2.kIn, ?_⟩) hst hpl
  have hl : (Value.ref a :: us).length = ps.length := by
    rw [← F.len _ _ _ _ q2, List.length_cons, List.length_cons, r.length]
  have b1 := b s2 (.ref a :: us) I2.kIn (by rw [List.append_nil]; exact hl)
  rw [List.append_nil] at b1
  exact runX (us := .ref a :: us) (vs := .ref a :: vs) (args := ⟨.ref a :: us, []⟩) F g room b1 (hx σ) I2 (.cons rfl r) q2
end
end Gx

set_option maxRecDepth 100000
set_option maxHeartbeats 4000000
/-! ### own end: a law whose promise holds where no repr is under way, and whose defs make lambdas -/
namespace Gx
open PySem PySem.Spec PyProof.Rows L2
/-- the abstract heap at the law's call: the script and the empty tables of the defs that make lambdas -/
def H0T (a : Addr) (o : Obj) (ns : List Int) (own : Bool) (ts : List Addr) : Hp := fun b => if b ∈ ts then some (.tbl #[]) else H00 a o ns own b
theorem h0t_in {a b : Addr} {o : Obj} {ns : List Int} {own : Bool} {ts : List Addr} (h : b ∈ ts) : H0T a o ns own ts b = some (.tbl #[]) := by
  unfold H0T
  rw [if_pos h]
theorem h0t_out {a b : Addr} {o : Obj} {ns : List Int} {own : Bool} {ts : List Addr} (h : b ∉ ts) : H0T a o ns own ts b = H00 a o ns own b := by
  unfold H0T
  rw [if_neg h]
theorem h0t_some {a b : Addr} {o : Obj} {ns : List Int} {own : Bool} {ts : List Addr} {u : HO} (h : H0T a o ns own ts b = some u) : (b ∈ ts ∧ u = .tbl #[]) ∨ (b ∉ ts ∧ own = false ∧ b = a ∧ u = .frz o (.lst (ns.map V.int))) := by
  by_cases c : b ∈ ts
  · rw [h0t_in c] at h
    cases h
    exact .inl ⟨c, rfl⟩
  · rw [h0t_out c] at h
    exact .inr ⟨c, h00_some h⟩
/-- the tables cs stand in the heap, and the module does not name them -/
structure TabsHere (K : PySem.W.Frag) (h : Heap) (cs : List (Addr × Addr)) : Prop where
  hd : ∀ c ∈ cs, PySem.W.CodeHd h c.1 c.2
  at_ : ∀ c ∈ cs, h.get? c.2 = some (PySem.W.tabObj #[])
  free : ∀ c ∈ cs, K.lookup c.2 = none
theorem lawGT {P : Program} {w : World} {K : PySem.W.Frag} {mg mb : Str → Option Value} {CX : CXT} {k : Nat} {fa a : Addr} {fd : FuncData} {x : Str} {sp : Sp} {t : Shared} {vs : List Value} {ns : List Int} {cs : List (Addr × Addr)}
    (inK : K.In t.heap) (glob : t.heap.Ns mainGlobals mg) (blt : t.heap.Ns builtinsNs mb) (boot : ∀ y : Str, y ≠ "__name__" → mb y = bootBuiltins y) (noLim : t.heap.NoLimit) (gens : t.gens = #[]) (tabs : TabsHere K t.heap cs)
    (bmod : ∃ (bm : Addr) (ob : Obj), mg "__builtins__" = some (.ref bm) ∧ bm ≠ builtinsNs ∧ t.heap.get? bm = some ob ∧ ob.cls = .type "module" ∧ ob.dict = some builtinsNs ∧ ob.data = .plain)
    (scr : t.heap.get? a = some { cls := .type "list", data := .seq vs.toArray }) (hints : IntsAre vs ns) (short : ns.length ≤ sizeLine) (room : Room k callerA)
    (F : ∀ base : Heap, K.In base → base.Ns mainGlobals mg → (∀ c ∈ cs, LamX.TabB base mg c.1 c.2) → FnG P w K mg base CX k fa fd [x] sp) (bind : ∀ (s : Shared) (u : Value), BindsTo s fd ⟨[u], []⟩ [(x, u)])
    (want : ∀ H : Hp, (∀ c ∈ cs, H c.2 = some (.tbl #[])) → SqL K H a (ns.map V.int) → sp [.ref a] H (fun v _ => v = .bl true) fun _ _ _ => False)
    (noErr : ∀ H e s', CX [] H t (fun _ _ _ => False) e s' → False) :
    codeAny (model P w) callerA (.call (.ref fa) ⟨[.ref a], []⟩) (fun r s' => r = .ok (.ret (.bool true)) ∧ OldK t.heap s'.heap ∧ s'.os = t.os ∧ AllBare s'.gens) t := by
  have hv : Vals (ns.map V.int) vs := vals_ints hints
  have hlv : vs.length = ns.length := hints.length
  obtain ⟨own, hown⟩ : ∃ own : Bool, own = (K.lookup a).isSome := ⟨_, rfl⟩
  obtain ⟨ts, hts⟩ : ∃ ts : List Addr, ts = cs.map (·.2) := ⟨_, rfl⟩
  have tin : ∀ {c : Addr × Addr}, c ∈ cs → c.2 ∈ ts := fun h => by
    rw [hts]
    exact List.mem_map.mpr ⟨_, h, rfl⟩
  have tout : ∀ {b : Addr}, b ∈ ts → ∃ c ∈ cs, c.2 = b := fun h => by
    rw [hts] at h
    exact List.mem_map.mp h
  have tget : ∀ {b : Addr}, b ∈ ts → t.heap.get? b = some (PySem.W.tabObj #[]) := fun h => by
    obtain ⟨c, hc, rfl⟩ := tout h
    exact tabs.at_ c hc
  have na : a ∉ ts := fun h => by
    have e := tget h
    rw [scr] at e
    have e2 := congrArg Obj.data (Option.some.inj e)
    cases e2
  let o : Obj := { cls := .type "list", data := .seq vs.toArray }
  let H0 : Hp := H0T a o ns own ts
  have hOk : HOk P w H0 t.heap := by
    intro b u e
    rcases h0t_some e with ⟨h, rfl⟩ | ⟨_, _, rfl, rfl⟩
    · exact tget h
    · exact ⟨scr, by rw [List.length_map]; exact short, vs, _, hv, scr⟩
  have none0 : ∀ {b : Addr}, b ∉ ts → own = true ∨ b ≠ a → H0 b = none := fun h1 h2 => (h0t_out h1).trans (h00_none h2)
  have keepT : ∀ {b : Addr} {ob : Obj}, t.heap.get? b = some ob → b ∉ ts → own = true ∨ b ≠ a → (hidT t.heap H0).get? b = some ob := fun e n1 n2 => hidT_get e (none0 n1 n2)
  -- what is neither the script nor a table
  have other : ∀ {b : Addr} {ob : Obj}, t.heap.get? b = some ob → (∀ xs n, ob.data ≠ .seq xs n) → ob.data ≠ .fields #[] → b ∉ ts ∧ b ≠ a := by
    intro b ob e n1 n2
    refine ⟨fun h => ?_, fun h => ?_⟩
    · rw [tget h] at e
      cases e
      exact n2 rfl
    · rw [h, scr] at e
      cases e
      exact n1 _ _ rfl
  have nsKeep : ∀ {b : Addr} {m : Str → Option Value}, t.heap.Ns b m → (hidT t.heap H0).Ns b m := by
    rintro b m ⟨ob, es, ep, e, dd, r⟩
    obtain ⟨n1, n2⟩ := other e (fun xs n z => by rw [dd] at z; cases z) (fun z => by rw [dd] at z; cases z)
    exact ⟨ob, es, ep, keepT e n1 (.inr n2), dd, r⟩
  have inK' : K.In (hidT t.heap H0) := by
    intro b ob e
    have nt : b ∉ ts := fun h => by
      obtain ⟨c, hc, rfl⟩ := tout h
      rw [tabs.free c hc] at e
      cases e
    refine keepT (inK b ob e) nt ?_
    by_cases hb : b = a
    · subst hb
      left
      rw [hown, e]
      rfl
    · exact .inr hb
  have noLim' : (hidT t.heap H0).NoLimit := by
    obtain ⟨mc, h1, h2⟩ := noLim
    exact ⟨mc, nsKeep h1, h2⟩
  have tabB : ∀ c ∈ cs, LamX.TabB (hidT t.heap H0) mg c.1 c.2 := by
    intro c hc
    have hP := tabs.at_ c hc
    constructor
    · obtain ⟨oc, us, file, tf, flags, tg, inF, text, tt, e, r1, r2, r3, r4⟩ := tabs.hd c hc
      obtain ⟨n1, n2⟩ := other e (fun xs n z => by rw [r2] at z; cases z) (fun z => by
        rw [r2] at z
        cases z
        cases r3)
      exact ⟨oc, us, file, tf, flags, tg, inF, text, tt, keepT e n1 (.inr n2), r1, r2, r3, r4⟩
    · obtain ⟨bm, ob, b1, b2, b3, b4, b5, b6⟩ := bmod
      obtain ⟨n1, n2⟩ := other b3 (fun xs n z => by rw [b6] at z; cases z) (fun z => by rw [b6] at z; cases z)
      refine ⟨bm, ob, b1, b2, ?_, fun z => n1 (z ▸ tin hc), keepT b3 n1 (.inr n2), b4, b5, b6⟩
      rintro rfl
      obtain ⟨og, es, ep, e, dd, _⟩ := glob
      rw [b3] at e
      cases e
      rw [b6] at dd
      cases dd
    · rintro z
      obtain ⟨og, es, ep, e, dd, _⟩ := glob
      rw [z, hP] at e
      cases e
      cases dd
  have env : Env0 P w K mg (hidT t.heap H0) callerA [] t H0 := by
    refine ⟨rfl, ⟨inK', nsKeep glob, ⟨mb, nsKeep blt, boot⟩, noLim'⟩, fun b ob e => of_hidT e, Nat.le_of_eq (hidT_size _ _), trivial, ?_, hOk, .of_eq gens⟩
    intro b hb
    exact absurd (show b ∈ ([] : List Addr) from hb) List.not_mem_nil
  have hS : SqL K H0 a (ns.map V.int) := by
    cases own with
    | false =>
      refine .inl (.inr ⟨o, ?_⟩)
      show H0T a o ns false ts a = _
      rw [h0t_out na]
      unfold H00
      rw [if_pos ⟨rfl, rfl⟩]
    | true =>
      obtain ⟨ob, e⟩ := Option.isSome_iff_exists.mp hown.symm
      have e2 := inK a ob e
      rw [scr] at e2
      cases e2
      exact .inr ⟨_, vs.toArray, _, e, rfl, rfl, rfl, by rw [List.size_toArray, hlv]; exact short, by simpa using hv⟩
  have runs := (F _ inK' (nsKeep glob) tabB).run callerA [] t H0 ⟨[.ref a], []⟩ [.ref a] [.ref a] _ _ rfl room env (bind t (.ref a)) (.cons rfl .nil) (want _ (fun c hc => h0t_in (tin hc)) hS)
  refine codeAny_mono runs ?_
  intro res s' hres
  match res, hres with
  | .error e, hres => exact (noErr _ e s' hres).elim
  | .ok (.ret u), hres =>
    obtain ⟨v, H', hos, bare, un, ok', rel, rfl⟩ := hres
    obtain rfl : u = Value.bool true := rel
    have stays : ∀ b ob, b ∉ ts → t.heap.get? b = some ob → s'.heap.get? b = some ob := by
      intro b ob nb e
      cases q : H0 b with
      | none => exact un.keep b ob e q (fun z => absurd (show b ∈ ([] : List Addr) from z) List.not_mem_nil) List.not_mem_nil
      | some u =>
        rcases h0t_some q with ⟨h, _⟩ | ⟨_, _, _, rfl⟩
        · exact absurd h nb
        · have q' := un.frzs b _ _ q
          have e1 := (hOk b _ q).1
          rw [e] at e1
          cases e1
          exact (ok' b _ q').1
    have grows : ∀ c ∈ cs, ∃ more : Array Value, s'.heap.get? c.2 = some (PySem.W.tabObj more) := by
      intro c hc
      obtain ⟨more, z⟩ := un.tbls c.2 #[] (h0t_in (tin hc))
      exact ⟨_, ok' c.2 _ z⟩
    refine ⟨rfl, ⟨fun b ob e => ?_, fun b ob e => ?_⟩, hos, bare⟩
    · by_cases hb : b ∈ ts
      · obtain ⟨c, hc, rfl⟩ := tout hb
        obtain ⟨more, hm⟩ := grows c hc
        have hP := tabs.at_ c hc
        rw [hP] at e
        cases e
        refine .inr (.inl ⟨((tabs.hd c hc).tab hP).isCodeTable, rfl, #[], more, rfl, ?_⟩)
        rw [Array.empty_append]
        exact hm
      · exact .inl (stays b ob hb e)
    · by_cases hb : b ∈ ts
      · obtain ⟨c, hc, rfl⟩ := tout hb
        obtain ⟨more, hm⟩ := grows c hc
        exact ⟨_, hm⟩
      · exact ⟨ob, stays b ob hb e⟩
/-- what k_head leaves, for such a law -/
theorem walkGT {l : PySem.W.OpenLaw} {n k : Nat} {q : Program} {loose : List Str} {XP : (Str → Option Value) → Heap → Prop} {YP : World → Heap → Prop} {d : DefRec} {K : Params → PySem.W.Frag} {CX : World → CXT} {x : Str}
    (most : l.most = some n) (small : n ≤ sizeLine) (plain : d.params.defaults = []) (room : Room k callerA) (hY : ∀ (w : World) (h : Heap), YP w h → (K w.params).In h)
    (F : ∀ (w : World) (mg : Str → Option Value) (fa : Addr) (h : Heap), (K w.params).In h → h.Ns mainGlobals mg → mg d.name = some (.ref fa) →
      ∃ (fd : FuncData) (cs : List (Addr × Addr)) (sp : Sp), (∀ c ∈ cs, (∃ (y : Str) (e : DefRec), (recsOf q).find? (fun r => r.name == y) = some e ∧ PySem.W.tabIn (K w.params) y = some c) ∧ (K w.params).lookup c.2 = none) ∧
        (∀ (s : Shared) (u : Value), BindsTo s fd ⟨[u], []⟩ [(x, u)]) ∧
        (∀ (H : Hp) (a : Addr) (ns : List Int), ns.length ≤ n → (∀ c ∈ cs, H c.2 = some (.tbl #[])) → SqL (K w.params) H a (ns.map V.int) → sp [.ref a] H (fun v _ => v = .bl true) fun _ _ _ => False) ∧
        ∀ base : Heap, (K w.params).In base → base.Ns mainGlobals mg → (∀ c ∈ cs, LamX.TabB base mg c.1 c.2) → FnG l.prog w (K w.params) mg base (CX w) k fa fd [x] sp)
    (noErr : ∀ (w : World) (H : Hp) (s : Shared) (e : Value) (s' : Shared), CX w [] H s (fun _ _ _ => False) e s' → False) :
    PySem.W.WalkO q loose XP YP l.row.toRowW d [] (fun f vs => PySem.call f vs) := by
  refine Att.attach_call most plain fun w s₀ t mg mb fa o pm cd doc a vs ns G Y ho hd hcd hmg scr hints hlen gens => ?_
  obtain ⟨fd, cs, sp, tabs, bind, want, body⟩ := F w mg fa _ (hY w _ Y) G.T.g hmg
  have th : ∀ c ∈ cs, PySem.W.CodeHd t.heap c.1 c.2 ∧ t.heap.get? c.2 = some (PySem.W.tabObj #[]) := fun c hc => by
    obtain ⟨⟨y, e, h1, h2⟩, _⟩ := tabs c hc
    exact PySem.W.tab_of G.T (hY w _ Y) h1 h2
  exact lawGT (hY w _ Y) G.T.g G.T.b G.T.builtins G.T.nolimit gens ⟨fun c hc => (th c hc).1, fun c hc => (th c hc).2, fun c hc => (tabs c hc).2⟩ G.T.bmain scr hints (Nat.le_trans hlen small) room body bind
    (fun H hO hS => want H a ns hlen hO hS) fun H e s' => noErr w H t e s'
/-! ### a def that makes lambdas: its own code is known -/
section
variable {P : Program} {w : World} {K : PySem.W.Frag} {mg : Str → Option Value} {base : Heap}
/-- .. where no repr is under way; its code object is at c -/
theorem okGL {x qual : Str} {st : Stmt} {f c : Addr} {fd : FuncData} {N ps : List Str} {k : Nat} {sp : Sp} (F : Fun K x qual st f fd) (hc : fd.code = .ref c) (S : FnScope N ps (defScope st)) (hlen : ∀ vs H Q E, sp vs H Q E → vs.length = ps.length)
    (hb : ∀ (A : Around) (outer : List Env) (s : Shared) (H : Hp) (vs : List V) (Q : VK) (E : XK), Gd (A.deeper (envOfC qual (defScope st) s.heap.objs.size f (.ref c))) → Room k (A.deeper (envOfC qual (defScope st) s.heap.objs.size f (.ref c))) → sp vs H Q E →
      ∃ t, PSs (cxOf CX0 P w K mg base N qual (defScope st) f (.ref c) A outer s H E).nox (defBody st) t ∧ t { nx := fun _ H' => Q .non H', rt := Q } (start N vs) H) : FnG P w K mg base CX0 (k + 1) f fd ps sp := by
  obtain ⟨oc, od, kV, doc, pm, an, cdv, ct, osl, rfl, lk, hcd⟩ := F.ex
  have e : cdv = .ref c := hc
  subst e
  refine fnG_body lk hcd S hlen fun A outer s H vs Q E g hr want => ?_
  obtain ⟨t, h, q⟩ := hb A outer s H vs Q E g hr want
  exact ⟨t, h.nox, q⟩
end
end Gx

set_option maxRecDepth 100000
set_option maxHeartbeats 4000000
namespace Gx
open PySem PySem.Spec PyProof.Rows L2 LamX
/-- an own class of errors is not caught by the name of another -/
theorem exm_no {K : PySem.W.Frag} {S C : Addr} (b : PySem.W.subIn K (.ref C) (.type "BaseException") = some true) (i : PySem.W.isClsIn K C = true) (t : PySem.W.typeIn K (.ref C) = some (.type "type")) (s : PySem.W.subIn K (.ref S) (.ref C) = some false) : PySem.W.exmOne K (.ref S) (.ref C) = some false := by
  have i' : (PySem.W.clsIn K C).isSome = true := i
  unfold PySem.W.exmOne PySem.W.kitCls
  simp [b, i', t, s]
/-- one table, one name -/
theorem one_of : ∀ {Tb : List (Addr × Str)} {P : Addr} {q : Str}, (Tb.map (·.1)).Nodup → (P, q) ∈ Tb → ∀ p ∈ Tb, p.1 = P → p.2 = q
  | (P0, q0) :: r, P, q, nd, m, p, hp, e => by
    rw [List.map_cons, List.nodup_cons] at nd
    rcases List.mem_cons.mp m with h | h
    · cases h
      rcases List.mem_cons.mp hp with rfl | h2
      · rfl
      · exact absurd (List.mem_map.mpr ⟨p, h2, e⟩) nd.1
    · rcases List.mem_cons.mp hp with rfl | h2
      · exact absurd (List.mem_map.mpr ⟨_, h, e.symm⟩) nd.1
      · exact one_of nd.2 h p h2 e
/-- as Def.calG, the name's address handed on -/
theorem Def.calGL {P : Program} {w : World} {K : PySem.W.Frag} {mg : Str → Option Value} {base : Heap} {x qual : Str} {st : Stmt} {ps : List Str} (d : Def K mg x qual st ps) {k : Nat} {sp : Sp} (h : ∀ f fd, mg x = some (.ref f) → Fun K x qual st f fd → FnG P w K mg base CX0 k f fd ps sp) : CalG P w K mg base k x ps sp := by
  obtain ⟨f, fd, F, b, g⟩ := d
  exact ⟨f, fd, h f fd g F, F.kp, b, g⟩
abbrev ln (x : Str) : Str := (x ++ ".<locals>.") ++ "<lambda>"
/-- a def of the module that makes lambdas: its code and its table -/
structure Lam (K : PySem.W.Frag) (mg : Str → Option Value) (base : Heap) (Tb : List (Addr × Str)) (x : Str) (c Pt : Addr) : Prop where
  tb : TabB base mg c Pt
  mem : (Pt, ln x) ∈ Tb
  one : ∀ p ∈ Tb, p.1 = Pt → p.2 = ln x
  code : ∀ (f : Addr) (oc : Value) (od : Option Addr) (fd : FuncData) (sl : Array (Option Value)), mg x = some (.ref f) → K.lookup f = some ⟨oc, od, .func fd, sl⟩ → fd.code = .ref c
theorem Lam.of {K : PySem.W.Frag} {mg : Str → Option Value} {base : Heap} {Tb : List (Addr × Str)} {x : Str} {c Pt : Addr} (L : Lam K mg base Tb x c Pt) {qual : Str} {st : Stmt} {f : Addr} {fd : FuncData} (g : mg x = some (.ref f)) (F : Fun K x qual st f fd) : fd.code = .ref c := by
  obtain ⟨oc, od, kV, doc, pm, an, cdv, ct, osl, _, lk, _⟩ := F.ex
  exact L.code f oc od fd osl g lk
theorem tabIn_of {K : PySem.W.Frag} {x : Str} {f c Pt : Addr} {oc oc2 : Value} {od od2 : Option Addr} {fd : FuncData} {sl sl2 : Array (Option Value)} {vs : Array Value} (a : PySem.W.nsIn K mainGlobals x = some (some (.ref f))) (l : K.lookup f = some ⟨oc, od, .func fd, sl⟩) (hc : fd.code = .ref c) (lc : K.lookup c = some ⟨oc2, od2, .fields vs, sl2⟩) (hp : vs[11]? = some (.ref Pt)) : PySem.W.tabIn K x = some (c, Pt) := by
  unfold PySem.W.tabIn
  simp only [a, l, hc, lc, hp]
/-- .. as the top has made it -/
theorem Lam.mk_of {K : PySem.W.Frag} {mg : Str → Option Value} {base : Heap} {Tb : List (Addr × Str)} {x : Str} {c Pt : Addr} (X : K.In base) (G : base.Ns mainGlobals mg) (ht : PySem.W.tabIn K x = some (c, Pt)) (tb : TabB base mg c Pt) (nd : (Tb.map (·.1)).Nodup) (m : (Pt, ln x) ∈ Tb) : Lam K mg base Tb x c Pt :=
  ⟨tb, m, one_of nd m, fun f oc od fd sl g lk => PySem.W.law_code X G ht g (X _ _ lk) rfl⟩
end Gx

set_option maxRecDepth 100000
set_option maxHeartbeats 4000000
namespace Kl
open PySem PySem.Spec PyProof.Rows L2 Gx
def topS (i : Nat) : Stmt := PySem.Challenge.pw_linkbooks_k13_whole_rows_there_and_back.main.body.getD i (.Pass ⟨0, 0, 0, 0⟩)
abbrev s_is_integer : Stmt := topS 8
theorem sc_is_integer : FnScope ["value"] ["value"] (defScope s_is_integer) := ⟨rfl, rfl, rfl, by decide +kernel, rfl, by decide +kernel, by decide +kernel⟩
abbrev s_is_count : Stmt := topS 9
theorem sc_is_count : FnScope ["value"] ["value"] (defScope s_is_count) := ⟨rfl, rfl, rfl, by decide +kernel, rfl, by decide +kernel, by decide +kernel⟩
abbrev s_is_name : Stmt := topS 10
theorem sc_is_name : FnScope ["value"] ["value"] (defScope s_is_name) := ⟨rfl, rfl, rfl, by decide +kernel, rfl, by decide +kernel, by decide +kernel⟩
abbrev s_is_sorted : Stmt := topS 11
theorem sc_is_sorted : FnScope ["value", "most", "name"] ["value", "most"] (defScope s_is_sorted) := ⟨rfl, rfl, rfl, by decide +kernel, rfl, by decide +kernel, by decide +kernel⟩
abbrev s_words_of : Stmt := topS 13
theorem sc_words_of : FnScope ["line"] ["line"] (defScope s_words_of) := ⟨rfl, rfl, rfl, by decide +kernel, rfl, by decide +kernel, by decide +kernel⟩
abbrev s_names_in : Stmt := topS 14
theorem sc_names_in : FnScope ["text", "most", "names"] ["text", "most"] (defScope s_names_in) := ⟨rfl, rfl, rfl, by decide +kernel, rfl, by decide +kernel, by decide +kernel⟩
abbrev s_text_of : Stmt := topS 15
theorem sc_text_of : FnScope ["names"] ["names"] (defScope s_text_of) := ⟨rfl, rfl, rfl, by decide +kernel, rfl, by decide +kernel, by decide +kernel⟩
abbrev s_are_digits : Stmt := topS 20
theorem sc_are_digits : FnScope ["value", "digit"] ["value"] (defScope s_are_digits) := ⟨rfl, rfl, rfl, by decide +kernel, rfl, by decide +kernel, by decide +kernel⟩
abbrev s_are_loose_digits : Stmt := topS 21
theorem sc_are_loose_digits : FnScope ["value"] ["value"] (defScope s_are_loose_digits) := ⟨rfl, rfl, rfl, by decide +kernel, rfl, by decide +kernel, by decide +kernel⟩
abbrev s_check_loose : Stmt := topS 22
theorem sc_check_loose : FnScope ["row"] ["row"] (defScope s_check_loose) := ⟨rfl, rfl, rfl, by decide +kernel, rfl, by decide +kernel, by decide +kernel⟩
abbrev s_is_digit : Stmt := topS 23
theorem sc_is_digit : FnScope ["value"] ["value"] (defScope s_is_digit) := ⟨rfl, rfl, rfl, by decide +kernel, rfl, by decide +kernel, by decide +kernel⟩
abbrev s_is_loose : Stmt := topS 24
theorem sc_is_loose : FnScope ["value"] ["value"] (defScope s_is_loose) := ⟨rfl, rfl, rfl, by decide +kernel, rfl, by decide +kernel, by decide +kernel⟩
abbrev s_write_digit : Stmt := topS 25
theorem sc_write_digit : FnScope ["digit"] ["digit"] (defScope s_write_digit) := ⟨rfl, rfl, rfl, by decide +kernel, rfl, by decide +kernel, by decide +kernel⟩
abbrev s_read_digit : Stmt := topS 26
theorem sc_read_digit : FnScope ["text", "digit"] ["text"] (defScope s_read_digit) := ⟨rfl, rfl, rfl, by decide +kernel, rfl, by decide +kernel, by decide +kernel⟩
abbrev s_write_row : Stmt := topS 27
theorem sc_write_row : FnScope ["row", "digit"] ["row"] (defScope s_write_row) := ⟨rfl, rfl, rfl, by decide +kernel, rfl, by decide +kernel, by decide +kernel⟩
abbrev s_read_row : Stmt := topS 28
theorem sc_read_row : FnScope ["text", "row", "word"] ["text"] (defScope s_read_row) := ⟨rfl, rfl, rfl, by decide +kernel, rfl, by decide +kernel, by decide +kernel⟩
abbrev s_law_dice : Stmt := topS 30
theorem sc_law_dice : FnScope ["_law_script", "_law_spot", "_law_cell", "_law_left"] ["_law_script", "_law_spot"] (defScope s_law_dice) := ⟨rfl, rfl, rfl, by decide +kernel, rfl, by decide +kernel, by decide +kernel⟩
abbrev s_law_roll : Stmt := topS 31
theorem sc_law_roll : FnScope ["_law_dice_here", "_law_total", "_law_found", "_law_one", "_law_two"] ["_law_dice_here", "_law_total"] (defScope s_law_roll) := ⟨rfl, rfl, rfl, by decide +kernel, rfl, by decide +kernel, by decide +kernel⟩
abbrev s_law_pick : Stmt := topS 32
theorem sc_law_pick : FnScope ["_law_dice_here", "_law_items"] ["_law_dice_here", "_law_items"] (defScope s_law_pick) := ⟨rfl, rfl, rfl, by decide +kernel, rfl, by decide +kernel, by decide +kernel⟩
abbrev s_law_mixed : Stmt := topS 33
theorem sc_law_mixed : FnScope ["_law_dice_here", "_law_items", "_law_left", "_law_found", "_law_turn"] ["_law_dice_here", "_law_items"] (defScope s_law_mixed) := ⟨rfl, rfl, rfl, by decide +kernel, rfl, by decide +kernel, by decide +kernel⟩
abbrev s_law_digit_text : Stmt := topS 34
theorem sc_law_digit_text : FnScope ["_law_digit"] ["_law_digit"] (defScope s_law_digit_text) := ⟨rfl, rfl, rfl, by decide +kernel, rfl, by decide +kernel, by decide +kernel⟩
abbrev s_law_row_text : Stmt := topS 35
theorem sc_law_row_text : FnScope ["_law_row", "_law_digit"] ["_law_row"] (defScope s_law_row_text) := ⟨rfl, rfl, rfl, by decide +kernel, rfl, by decide +kernel, by decide +kernel⟩
abbrev s_law_any_name : Stmt := topS 36
theorem sc_law_any_name : FnScope ["_law_dice_here", "_law_many", "_law_turn"] ["_law_dice_here"] (defScope s_law_any_name) := ⟨rfl, rfl, rfl, by decide +kernel, rfl, by decide +kernel, by decide +kernel⟩
abbrev s_law_pool_names : Stmt := topS 37
theorem sc_law_pool_names : FnScope ["_law_dice_here", "_law_many"] ["_law_dice_here", "_law_many"] (defScope s_law_pool_names) := ⟨rfl, rfl, rfl, by decide +kernel, rfl, by decide +kernel, by decide +kernel⟩
abbrev s_law_drawn_digit : Stmt := topS 38
theorem sc_law_drawn_digit : FnScope ["_law_dice_here", "_law_names", "_law_most", "_law_turn"] ["_law_dice_here", "_law_names", "_law_most"] (defScope s_law_drawn_digit) := ⟨rfl, rfl, rfl, by decide +kernel, rfl, by decide +kernel, by decide +kernel⟩
abbrev s_law_drawn_loose : Stmt := topS 39
theorem sc_law_drawn_loose : FnScope ["_law_dice_here", "_law_names", "_law_ranks", "_law_most", "_law_found", "_law_rank"] ["_law_dice_here", "_law_names", "_law_ranks", "_law_most"] (defScope s_law_drawn_loose) := ⟨rfl, rfl, rfl, by decide +kernel, rfl, by decide +kernel, by decide +kernel⟩
abbrev s_law_is_name : Stmt := topS 40
theorem sc_law_is_name : FnScope ["_law_word", "_law_sign"] ["_law_word"] (defScope s_law_is_name) := ⟨rfl, rfl, rfl, by decide +kernel, rfl, by decide +kernel, by decide +kernel⟩
abbrev s_law_word_read : Stmt := topS 41
theorem sc_law_word_read : FnScope ["_law_word", "_law_names", "_law_name"] ["_law_word"] (defScope s_law_word_read) := ⟨rfl, rfl, rfl, by decide +kernel, rfl, by decide +kernel, by decide +kernel⟩
abbrev s_law_text_read : Stmt := topS 42
theorem sc_law_text_read : FnScope ["_law_text", "_law_found", "_law_word"] ["_law_text"] (defScope s_law_text_read) := ⟨rfl, rfl, rfl, by decide +kernel, rfl, by decide +kernel, by decide +kernel⟩
abbrev s_law_bent : Stmt := topS 43
theorem sc_law_bent : FnScope ["_law_dice_here", "_law_text", "_law_at", "_law_sign", "_law_way", "_law_end"] ["_law_dice_here", "_law_text"] (defScope s_law_bent) := ⟨rfl, rfl, rfl, by decide +kernel, rfl, by decide +kernel, by decide +kernel⟩
abbrev s_law_told : Stmt := topS 44
theorem sc_law_told : FnScope ["_law_call", "e"] ["_law_call"] (defScope s_law_told) := ⟨rfl, rfl, rfl, by decide +kernel, rfl, by decide +kernel, by decide +kernel⟩
abbrev s_law_texts_right : Stmt := topS 45
theorem sc_law_texts_right : FnScope ["_law_dice_here", "_law_text", "_law_turn", "_law_bent_here", "_law_due", "_law_word"] ["_law_dice_here", "_law_text"] (defScope s_law_texts_right) := ⟨rfl, rfl, rfl, by decide +kernel, rfl, by decide +kernel, by decide +kernel⟩
abbrev s_law_right : Stmt := topS 46
theorem sc_law_right : FnScope ["_law_dice_here", "_law_names", "_law_one", "_law_other", "_law_row", "_law_text", "_law_digit", "_law_word", "_law_turn"] ["_law_dice_here"] (defScope s_law_right) := ⟨rfl, rfl, rfl, by decide +kernel, rfl, by decide +kernel, by decide +kernel⟩
abbrev s_law : Stmt := topS 47
theorem sc_law : FnScope ["_law_script", "_law_spot", "_law_dice_here", "_law_turn", "_law_bad", "_law_some", "_law_told_here", "_law_text"] ["_law_script"] (defScope s_law) := ⟨rfl, rfl, rfl, by decide +kernel, rfl, by decide +kernel, by decide +kernel⟩
abbrev s_ParseError_init : Stmt := inClass (topS 3) 0
abbrev XT_ParseError (K : PySem.W.Frag) (mg : Str → Option Value) (C fI : Addr) : Prop := XTxt K mg "ParseError" "number" "ValueError.__new__" [.type "ValueError", .type "Exception", .type "BaseException", .type "object"] C fI
/-- the error ParseError as the top has made it -/
def XDef_ParseError (K : PySem.W.Frag) (mg : Str → Option Value) : Prop := ∃ (C fI : Addr) (fd : FuncData), XT_ParseError K mg C fI ∧ Fun K "__init__" "ParseError.__init__" s_ParseError_init fI fd
theorem init_ParseError {K : PySem.W.Frag} {mg : Str → Option Value} {C fI : Addr} {fd : FuncData} (T : XT_ParseError K mg C fI) (F : Fun K "__init__" "ParseError.__init__" s_ParseError_init fI fd) : InitDoes K C fI "number" := by
  intro prog w A R s x t0 v inK lim hx fresh room hq
  obtain ⟨oc, od, kV, doc, pm, an, cdv, ct, osl, rfl, lk, hcd⟩ := F.ex
  refine Att.call_fn (binds := [("self", .ref x), ("number", v)]) inK lim lk hcd room (BindsTo.of_eq (by first | rfl | with_unfolding_all rfl)) (by first | rfl | decide) (fun s₁ IC => ?_) rfl rfl rfl
  obtain ⟨h₁, tk₁, rfl⟩ := IC.toInCall.same
  have k := IC.toInCall.keep
  have hn := IC.toInCall.ns
  have inK₁ : K.In h₁ := inK.keeps k
  have hx₁ := k _ _ hx
  show wpAny _ _ (execs _ _) _ _ _
  refine wpAny_execs_cons (plainObj_wpAny_Assign_Attribute ?_)
  refine wpAny_Name (wpAny_loadName_local (v := v) (by rfl) (by rfl) hn (by first | rfl | with_unfolding_all rfl | kernel_rfl) ?_) (by decide)
  refine wpAny_Name (wpAny_loadName_local (v := .ref x) (by rfl) (by rfl) hn (by first | rfl | with_unfolding_all rfl | kernel_rfl) ?_) (by decide)
  refine PySem.W.set_plain inK₁ (ox := PySem.W.excObj C t0 none .none) (od := none) ⟨hx₁, rfl, rfl, trivial⟩ T.sa ?_
  refine exc_storeX PySem.F.store_ValueError inK₁ hx₁ T.over T.tak T.hdC (fun h₃ tk₃ dx k₃ dn dne hx₃ hn₃ => ?_)
  show wpAny _ _ (execs _ _) _ _ _
  exact wpAny_execs_nil (hq h₃ tk₃ dx ⟨fun b o hb e => k₃ b o hb (k b o e), hx₃, Nat.le_of_lt (Nat.lt_of_lt_of_le hn.lt dn), dne, hn₃⟩)
abbrev s_InvalidNumber_init : Stmt := inClass (topS 4) 0
abbrev XT_InvalidNumber (K : PySem.W.Frag) (mg : Str → Option Value) (C fI : Addr) : Prop := XTxt K mg "InvalidNumber" "value" "IndexError.__new__" [.type "IndexError", .type "LookupError", .type "Exception", .type "BaseException", .type "object"] C fI
/-- the error InvalidNumber as the top has made it -/
def XDef_InvalidNumber (K : PySem.W.Frag) (mg : Str → Option Value) : Prop := ∃ (C fI : Addr) (fd : FuncData), XT_InvalidNumber K mg C fI ∧ Fun K "__init__" "InvalidNumber.__init__" s_InvalidNumber_init fI fd
theorem init_InvalidNumber {K : PySem.W.Frag} {mg : Str → Option Value} {C fI : Addr} {fd : FuncData} (T : XT_InvalidNumber K mg C fI) (F : Fun K "__init__" "InvalidNumber.__init__" s_InvalidNumber_init fI fd) : InitDoes K C fI "value" := by
  intro prog w A R s x t0 v inK lim hx fresh room hq
  obtain ⟨oc, od, kV, doc, pm, an, cdv, ct, osl, rfl, lk, hcd⟩ := F.ex
  refine Att.call_fn (binds := [("self", .ref x), ("value", v)]) inK lim lk hcd room (BindsTo.of_eq (by first | rfl | with_unfolding_all rfl)) (by first | rfl | decide) (fun s₁ IC => ?_) rfl rfl rfl
  obtain ⟨h₁, tk₁, rfl⟩ := IC.toInCall.same
  have k := IC.toInCall.keep
  have hn := IC.toInCall.ns
  have inK₁ : K.In h₁ := inK.keeps k
  have hx₁ := k _ _ hx
  show wpAny _ _ (execs _ _) _ _ _
  refine wpAny_execs_cons (plainObj_wpAny_Assign_Attribute ?_)
  refine wpAny_Name (wpAny_loadName_local (v := v) (by rfl) (by rfl) hn (by first | rfl | with_unfolding_all rfl | kernel_rfl) ?_) (by decide)
  refine wpAny_Name (wpAny_loadName_local (v := .ref x) (by rfl) (by rfl) hn (by first | rfl | with_unfolding_all rfl | kernel_rfl) ?_) (by decide)
  refine PySem.W.set_plain inK₁ (ox := PySem.W.excObj C t0 none .none) (od := none) ⟨hx₁, rfl, rfl, trivial⟩ T.sa ?_
  refine exc_storeX PySem.F.store_IndexError inK₁ hx₁ T.over T.tak T.hdC (fun h₃ tk₃ dx k₃ dn dne hx₃ hn₃ => ?_)
  show wpAny _ _ (execs _ _) _ _ _
  exact wpAny_execs_nil (hq h₃ tk₃ dx ⟨fun b o hb e => k₃ b o hb (k b o e), hx₃, Nat.le_of_lt (Nat.lt_of_lt_of_le hn.lt dn), dne, hn₃⟩)
/-- what the walk asks of the top -/
structure Top (K : PySem.W.Frag) (mg : Str → Option Value) : Prop where
  b_IndexError : mg "IndexError" = none
  b_ValueError : mg "ValueError" = none
  b_abs : mg "abs" = none
  b_all : mg "all" = none
  b_bool : mg "bool" = none
  b_int : mg "int" = none
  b_isinstance : mg "isinstance" = none
  b_len : mg "len" = none
  b_list : mg "list" = none
  b_max : mg "max" = none
  b_min : mg "min" = none
  b_range : mg "range" = none
  b_repr : mg "repr" = none
  b_sorted : mg "sorted" = none
  b_str : mg "str" = none
  b_tuple : mg "tuple" = none
  g_MAX_LETTERS : ∃ t, mg "MAX_LETTERS" = some (.int 8 t)
  g__TOO_LONG : ∃ t, mg "_TOO_LONG" = some (.int 1000000000000000000000000000000000000000000000000000000000000 t)
  g_MAX_DIGIT : ∃ t, mg "MAX_DIGIT" = some (.int 3 t)
  g_LOOSE_DIGIT : ∃ t, mg "LOOSE_DIGIT" = some (.int 20 t)
  g__LOOSE_RANKS : ∃ t, mg "_LOOSE_RANKS" = some (.int 402 t)
  d_is_integer : Def K mg "is_integer" "is_integer" s_is_integer ["value"]
  d_is_count : Def K mg "is_count" "is_count" s_is_count ["value"]
  d_is_name : Def K mg "is_name" "is_name" s_is_name ["value"]
  d_is_sorted : DefK K mg "is_sorted" "is_sorted" s_is_sorted ["value", "most"] 1 ["most"]
  d_words_of : Def K mg "words_of" "words_of" s_words_of ["line"]
  d_names_in : DefK K mg "names_in" "names_in" s_names_in ["text", "most"] 1 ["most"]
  d_text_of : Def K mg "text_of" "text_of" s_text_of ["names"]
  d_are_digits : Def K mg "are_digits" "are_digits" s_are_digits ["value"]
  d_are_loose_digits : Def K mg "are_loose_digits" "are_loose_digits" s_are_loose_digits ["value"]
  d_check_loose : Def K mg "_check_loose" "_check_loose" s_check_loose ["row"]
  d_is_digit : Def K mg "is_digit" "is_digit" s_is_digit ["value"]
  d_is_loose : Def K mg "is_loose" "is_loose" s_is_loose ["value"]
  d_write_digit : Def K mg "write_digit" "write_digit" s_write_digit ["digit"]
  d_read_digit : Def K mg "read_digit" "read_digit" s_read_digit ["text"]
  d_write_row : Def K mg "write_row" "write_row" s_write_row ["row"]
  d_read_row : Def K mg "read_row" "read_row" s_read_row ["text"]
  d_law_dice : Def K mg "_law_dice" "_law_dice" s_law_dice ["_law_script", "_law_spot"]
  d_law_roll : Def K mg "_law_roll" "_law_roll" s_law_roll ["_law_dice_here", "_law_total"]
  d_law_pick : Def K mg "_law_pick" "_law_pick" s_law_pick ["_law_dice_here", "_law_items"]
  d_law_mixed : Def K mg "_law_mixed" "_law_mixed" s_law_mixed ["_law_dice_here", "_law_items"]
  d_law_digit_text : Def K mg "_law_digit_text" "_law_digit_text" s_law_digit_text ["_law_digit"]
  d_law_row_text : Def K mg "_law_row_text" "_law_row_text" s_law_row_text ["_law_row"]
  d_law_any_name : Def K mg "_law_any_name" "_law_any_name" s_law_any_name ["_law_dice_here"]
  d_law_pool_names : Def K mg "_law_pool_names" "_law_pool_names" s_law_pool_names ["_law_dice_here", "_law_many"]
  d_law_drawn_digit : Def K mg "_law_drawn_digit" "_law_drawn_digit" s_law_drawn_digit ["_law_dice_here", "_law_names", "_law_most"]
  d_law_drawn_loose : Def K mg "_law_drawn_loose" "_law_drawn_loose" s_law_drawn_loose ["_law_dice_here", "_law_names", "_law_ranks", "_law_most"]
  d_law_is_name : Def K mg "_law_is_name" "_law_is_name" s_law_is_name ["_law_word"]
  d_law_word_read : Def K mg "_law_word_read" "_law_word_read" s_law_word_read ["_law_word"]
  d_law_text_read : Def K mg "_law_text_read" "_law_text_read" s_law_text_read ["_law_text"]
  d_law_bent : Def K mg "_law_bent" "_law_bent" s_law_bent ["_law_dice_here", "_law_text"]
  d_law_told : Def K mg "_law_told" "_law_told" s_law_told ["_law_call"]
  d_law_texts_right : Def K mg "_law_texts_right" "_law_texts_right" s_law_texts_right ["_law_dice_here", "_law_text"]
  d_law_right : Def K mg "_law_right" "_law_right" s_law_right ["_law_dice_here"]
  p_InvalidRow : ∃ C, XPln K mg "InvalidRow" "ValueError.__new__" "ValueError.__init__" [.type "ValueError", .type "Exception", .type "BaseException", .type "object"] C ∧ XCls K C ∧ PySem.W.exmOne K (.ref C) (.ref C) = some true
  x_ParseError : XDef_ParseError K mg
  x_InvalidNumber : XDef_InvalidNumber K mg
end Kl

set_option maxRecDepth 100000
set_option maxHeartbeats 4000000
namespace Kl
open PySem PySem.Spec PyProof.Rows L2 Gx Mx
section
variable {P : Program} {w : World} {K : PySem.W.Frag} {mg : Str → Option Value} {base : Heap}
/-! ### kinds of values -/
theorem tyx_same {H H' : Hp} (sm : Same H H') {v : V} {t : Value} (h : TyX K H v t) : TyX K H' v t := by
  cases h with
  | base b =>
    cases b with
    | non => exact .base .non
    | bl x => exact .base (.bl x)
    | int i => exact .base (.int i)
    | str x => exact .base (.str x)
    | flt x => exact .base (.flt x)
    | lst e => exact .base (.lst (sm _ _ e))
    | frz e => exact .base (.frz (sm _ _ e))
    | tup e => exact .base (.tup (sm _ _ e))
    | dK e => exact .base (.dK (sm _ _ e))
    | dT e => exact .base (.dT (sm _ _ e))
    | ins e cl ha hn htk hm => exact .base (.ins (sm _ _ e) cl ha hn htk hm)
  | byt b => exact .byt b
  | set e => exact .set (sm _ _ e)
  | kList e c => exact .kList e c
  | kTuple e c => exact .kTuple e c
  | kDict e c => exact .kDict e c
  | fTuple e => exact .fTuple (sm _ _ e)
  | fDict e => exact .fDict (sm _ _ e)
/-- the value is no instance of this built-in class -/
def Not (K : PySem.W.Frag) (H : Hp) (v : V) (T : String) : Prop := ∃ t, TyX K H v t ∧ PySem.W.kitOne K t (.type T) = some false
theorem Not.same {H H' : Hp} (sm : Same H H') {v : V} {T : String} (h : Not K H v T) : Not K H' v T := by
  obtain ⟨t, a, b⟩ := h
  exact ⟨t, tyx_same sm a, b⟩
/-- text, or not -/
def NameArg (K : PySem.W.Frag) (H : Hp) (v : V) : Prop := (∃ z : Str, v = .str z ∧ z.length ≤ sizeLine) ∨ ((∀ z, v ≠ .str z) ∧ Not K H v "str")
theorem NameArg.same {H H' : Hp} (sm : Same H H') {v : V} (h : NameArg K H v) : NameArg K H' v := by
  rcases h with h | ⟨a, b⟩
  · exact .inl h
  · exact .inr ⟨a, b.same sm⟩
/-- int, truth, or neither -/
def IntArg (K : PySem.W.Frag) (H : Hp) (v : V) : Prop := (∃ i, v = .int i) ∨ (∃ b, v = .bl b) ∨ ((∀ i, v ≠ .int i) ∧ Not K H v "int")
theorem IntArg.same {H H' : Hp} (sm : Same H H') {v : V} (h : IntArg K H v) : IntArg K H' v := by
  rcases h with h | h | ⟨a, b⟩
  · exact .inl h
  · exact .inr (.inl h)
  · exact .inr (.inr ⟨a, b.same sm⟩)
/-! ### is_integer, is_count -/
def TEN60 : Int := 1000000000000000000000000000000000000000000000000000000000000
def intV : V → Bool
  | .int i => decide (-TEN60 < i) && decide (i < TEN60)
  | _ => false
def cntV : V → Bool
  | .int i => (decide (-TEN60 < i) && decide (i < TEN60)) && decide (0 ≤ i)
  | _ => false
def spInt (K : PySem.W.Frag) : Sp := fun vs H Q _ => ∃ v : V, vs = [v] ∧ IntArg K H v ∧ Q (.bl (intV v)) H
theorem ok_int {f : Addr} {fd : FuncData} (F : Fun K "is_integer" "is_integer" s_is_integer f fd) (T : Top K mg) : FnOk P w K mg base CX0 1 f fd ["value"] (spInt K) := by
  obtain ⟨tm, gm⟩ := T.g__TOO_LONG
  refine F.ok sc_is_integer (fun vs H Q E h => ?_) (fun cdv A outer s H vs Q E hr h => ?_)
  · obtain ⟨v, rfl, _⟩ := h
    rfl
  · obtain ⟨v, rfl, hv, q⟩ := h
    refine ⟨_, pss_cons (ps_if (PW.pt (pw_or (pt_not (pt_val (pe_callB call_isi (by rfl) T.b_isinstance (by decide +kernel) (pa_cons (pv 0) (pa_cons (pe_bltn (v := .ty "int") (by rfl) T.b_int (by decide +kernel) rfl) pa_nil)))))
          (pw_or1 (pt_val (pe_callB call_isi (by rfl) T.b_isinstance (by decide +kernel) (pa_cons (pv 0) (pa_cons (pe_bltn (v := .ty "bool") (by rfl) T.b_bool (by decide +kernel) rfl) pa_nil)))))))
        (pss_one (ps_ret pe_bl)) pss_nil)
      (pss_one (ps_ret (pe_chain op_lt op_lt (pe_un un_neg (pe_glob (v := .int TEN60) (by rfl) gm ⟨_, rfl⟩)) (pv 0) (pe_glob (v := .int TEN60) (by rfl) gm ⟨_, rfl⟩)))), ?_⟩
    rcases hv with ⟨i, rfl⟩ | ⟨b, rfl⟩ | ⟨hn, t, ht, hk⟩
    · refine ⟨_, rfl, _, .ty "int", .type "int", .type "int", true, rfl, .ty _, .base (.int i), kit_ty (by decide +kernel), true, rfl, ?_⟩
      refine ⟨_, rfl, _, .ty "bool", .type "int", .type "bool", false, rfl, .ty _, .base (.int i), kit_ty (by decide +kernel), false, rfl, ?_⟩
      refine ⟨_, rfl, _, rfl, _, _, rfl, rfl, _, rfl, ?_⟩
      have q' : Q (.bl (decide (-TEN60 < i) && decide (i < TEN60))) H := q
      cases e : decide (-TEN60 < i) with
      | false =>
        rw [e] at q'
        exact q'
      | true =>
        rw [e] at q'
        exact ⟨_, _, rfl, rfl, q'⟩
    · refine ⟨_, rfl, _, .ty "int", .type "bool", .type "int", true, rfl, .ty _, .base (.bl b), kit_ty (by decide +kernel), true, rfl, ?_⟩
      exact ⟨_, rfl, _, .ty "bool", .type "bool", .type "bool", true, rfl, .ty _, .base (.bl b), kit_ty (by decide +kernel), true, rfl, q⟩
    · refine ⟨_, rfl, _, .ty "int", t, .type "int", false, rfl, .ty _, ht, hk, false, rfl, ?_⟩
      have e : intV v = false := by
        cases v with
        | int i => exact absurd rfl (hn i)
        | _ => rfl
      rw [e] at q
      exact q
def spCnt (K : PySem.W.Frag) : Sp := fun vs H Q _ => ∃ v : V, vs = [v] ∧ IntArg K H v ∧ Q (.bl (cntV v)) H
theorem ok_cnt {f : Addr} {fd : FuncData} (F : Fun K "is_count" "is_count" s_is_count f fd) (T : Top K mg) : FnOk P w K mg base CX0 2 f fd ["value"] (spCnt K) := by
  have ci : Cal P w K mg base 1 "is_integer" ["value"] (spInt K) := T.d_is_integer.cal fun f fd F => ok_int F T
  refine F.ok sc_is_count (fun vs H Q E h => ?_) (fun cdv A outer s H vs Q E hr h => ?_)
  · obtain ⟨v, rfl, _⟩ := h
    rfl
  · obtain ⟨v, rfl, hv, q⟩ := h
    refine ⟨_, pss_one (ps_ret (pe_and (pe_cal ci hr (by rfl) (pa_cons (pv 0) pa_nil)) (pe_one (pe_cmpR op_ge (pv 0) pe_int (nomark _))))), ?_⟩
    refine ⟨_, rfl, v, rfl, hv, _, rfl, ?_⟩
    cases v with
    | int i =>
      have q' : Q (.bl (intV (.int i) && decide (0 ≤ i))) H := q
      cases e : intV (.int i) with
      | false =>
        rw [e] at q'
        exact q'
      | true =>
        rw [e] at q'
        exact ⟨_, rfl, _, _, rfl, rfl, q'⟩
    | _ => exact q
/-! ### is_name -/
def nameV : V → Bool
  | .str z => nameB z
  | _ => false
def spName (K : PySem.W.Frag) : Sp := fun vs H Q _ => ∃ v : V, vs = [v] ∧ NameArg K H v ∧ Q (.bl (nameV v)) H
theorem nameV_no {v : V} (h : ∀ z, v ≠ .str z) : nameV v = false := by
  cases v with
  | str z => exact absurd rfl (h z)
  | _ => rfl
theorem ok_name {f : Addr} {fd : FuncData} (F : Fun K "is_name" "is_name" s_is_name f fd) (T : Top K mg) : FnOk P w K mg base CX0 1 f fd ["value"] (spName K) := by
  obtain ⟨tm, gm⟩ := T.g_MAX_LETTERS
  refine F.ok sc_is_name (fun vs H Q E h => ?_) (fun cdv A outer s H vs Q E hr h => ?_)
  · obtain ⟨v, rfl, _⟩ := h
    rfl
  · obtain ⟨v, rfl, hv, q⟩ := h
    refine ⟨_, pss_cons (ps_if (PW.pt (pw_or (pt_not (pt_val (pe_callB call_isi (by rfl) T.b_isinstance (by decide +kernel) (pa_cons (pv 0) (pa_cons (pe_bltn (v := .ty "str") (by rfl) T.b_str (by decide +kernel) rfl) pa_nil)))))
          (pw_or1 (pt_not (pt_chain op_le op_le pe_int (pe_callB call_len_str (by rfl) T.b_len PySem.boot_len (pa_cons (pv 0) pa_nil)) (pe_glob (v := .int 8) (by rfl) gm ⟨_, rfl⟩))))))
        (pss_one (ps_ret pe_bl)) pss_nil)
      (pss_one (ps_ret (pe_and (pe_m0 PySem.F.slot_str_isascii PySem.F.type_str_isascii mt_isascii (pv 0))
        (pe_and (pe_m0 PySem.F.slot_str_isalpha PySem.F.type_str_isalpha mt_isalpha (pv 0)) (pe_one (pe_m0 PySem.F.slot_str_islower PySem.F.type_str_islower mt_islower (pv 0))))))), ?_⟩
    rcases hv with ⟨z, rfl, hz⟩ | ⟨hn, t, ht, hk⟩
    · have q' : Q (.bl (nameB z)) H := q
      refine ⟨_, rfl, _, .ty "str", .type "str", .type "str", true, rfl, .ty _, .base (.str z), kit_ty (by decide +kernel), true, rfl, ?_⟩
      refine ⟨_, rfl, _, rfl, hz, _, _, rfl, rfl, _, rfl, ite2 (fun e1 => ?_) (fun e1 => ?_)⟩
      · have h1 : 1 ≤ z.cps.size := by
          have e2 : (1 : Int) ≤ (z.length : Int) := of_decide_eq_true e1
          have e3 : z.length = z.cps.size := rfl
          omega
        refine ⟨_, _, rfl, rfl, _, rfl, ?_⟩
        have e3 : decide ((z.length : Int) ≤ 8) = decide (z.cps.size ≤ 8) := decide_eq_decide.mpr (by
          have e3 : z.length = z.cps.size := rfl
          omega)
        by_cases h8 : z.cps.size ≤ 8
        · have e4 : decide ((z.length : Int) ≤ 8) = true := e3.trans (decide_eq_true h8)
          rw [e4]
          have e5 : nameB z = (Txt.isascii z && (Txt.isalpha z && Txt.islower z)) := by
            rw [name_by z h1]
            unfold nameB
            rw [decide_eq_true h1, decide_eq_true h8, Bool.true_and, Bool.true_and]
          rw [e5] at q'
          refine ⟨_, rfl, ⟨_, rfl⟩, z, rfl, rfl, trivial, _, rfl, ?_⟩
          cases a1 : Txt.isascii z with
          | false =>
            rw [a1] at q'
            exact q'
          | true =>
            rw [a1] at q'
            refine ⟨_, rfl, ⟨_, rfl⟩, z, rfl, rfl, trivial, _, rfl, ?_⟩
            cases a2 : Txt.isalpha z with
            | false =>
              rw [a2] at q'
              exact q'
            | true =>
              rw [a2] at q'
              exact ⟨_, rfl, ⟨_, rfl⟩, z, rfl, rfl, trivial, q'⟩
        · have e4 : decide ((z.length : Int) ≤ 8) = false := e3.trans (decide_eq_false h8)
          rw [e4]
          show Q (.bl false) H
          have e5 : nameB z = false := by
            unfold nameB
            rw [decide_eq_false h8, Bool.and_false, Bool.false_and]
          rw [← e5]
          exact q'
      · have h1 : ¬ 1 ≤ z.cps.size := fun h => e1 (decide_eq_true (by
          have e3 : z.length = z.cps.size := rfl
          omega))
        refine ⟨_, rfl, ?_⟩
        show Q (.bl false) H
        have e5 : nameB z = false := by
          unfold nameB
          rw [decide_eq_false h1, Bool.false_and, Bool.false_and]
        rw [← e5]
        exact q'
    · refine ⟨_, rfl, _, .ty "str", t, .type "str", false, rfl, .ty _, ht, hk, false, rfl, ?_⟩
      rw [nameV_no hn] at q
      exact q
end
end Kl

set_option maxRecDepth 100000
set_option maxHeartbeats 4000000
namespace Kl
open PySem PySem.Spec PyProof.Rows L2 Gx Mx
/-! ### kinds and their makings: the mathematics -/
abbrev Mak := List (Str × List Str)
/-- the names that are drawn -/
def POOL : List Str := ["a", "b", "ab", "c", "leaf", "zzzzzzzz", "d", "e", "f", "aa", "page", "to"]
theorem pool_names : POOL.all nameB = true := by decide +kernel
theorem pool_short : POOL.all (fun z => decide (z.length ≤ 8)) = true := by decide +kernel
theorem pool_nd : POOL.Nodup := by decide +kernel
theorem pool_name {z : Str} (h : z ∈ POOL) : nameB z = true := List.all_eq_true.mp pool_names z h
theorem pool_len {z : Str} (h : z ∈ POOL) : z.length ≤ 8 := of_decide_eq_true (List.all_eq_true.mp pool_short z h)
def keysOf (M : Mak) : List Str := M.map (·.1)
/-- these are kinds of drawn names -/
structure Vld (leaf : Str) (M : Mak) : Prop where
  lf : leaf ∈ POOL
  keys : ∀ z ∈ keysOf M, z ∈ POOL
  nd : (keysOf M).Nodup
  parts : ∀ m ∈ M, sortedS m.2 = true ∧ 2 ≤ m.2.length ∧ m.2.length ≤ 3 ∧ ∀ p ∈ m.2, p = leaf ∨ p ∈ keysOf M
  few : ∀ ns : List Str, ns.Nodup → (∀ z ∈ ns, z = leaf ∨ z ∈ keysOf M) → ns.length ≤ 6
theorem Vld.part {leaf : Str} {M : Mak} (v : Vld leaf M) {m : Str × List Str} (hm : m ∈ M) {p : Str} (hp : p ∈ m.2) : p ∈ POOL := by
  rcases (v.parts m hm).2.2.2 p hp with rfl | h
  · exact v.lf
  · exact v.keys p h
theorem Vld.len {leaf : Str} {M : Mak} (v : Vld leaf M) : M.length ≤ 6 := by
  have h := v.few (keysOf M) v.nd fun z hz => .inr hz
  unfold keysOf at h
  rw [List.length_map] at h
  exact h
/-- the ascending names of kinds -/
structure IsNames (leaf : Str) (ks ns : List Str) : Prop where
  srt : sortedS ns = true
  nd : ns.Nodup
  mem : ∀ z, z ∈ ns ↔ z = leaf ∨ z ∈ ks
theorem sorted_same {l m : List Str} (hl : sortedS l = true) (hm : sortedS m = true) (dl : l.Nodup) (dm : m.Nodup) (e : ∀ z, z ∈ l ↔ z ∈ m) : l = m :=
  sortedS_unique ((List.perm_ext_iff_of_nodup dl dm).mpr e) hl hm
theorem IsNames.unique {leaf : Str} {ks ks' ns ms : List Str} (h : IsNames leaf ks ns) (h' : IsNames leaf ks' ms) (e : ∀ z, z ∈ ks ↔ z ∈ ks') : ns = ms :=
  sorted_same h.srt h'.srt h.nd h'.nd fun z => by rw [h.mem, h'.mem, e]
theorem sortedS_sub {l m : List Str} (h : sortedS m = true) (s : l.Sublist m) : sortedS l = true := (sortedS_iff l).mpr (((sortedS_iff m).mp h).sublist s)
/-! ### makings looked up -/
def lookM (M : Mak) (z : Str) : Option (List Str) := (M.find? fun m => decide (m.1 = z)).map (·.2)
theorem lookM_cons (m : Str × List Str) (M : Mak) (z : Str) : lookM (m :: M) z = if m.1 = z then some m.2 else lookM M z := by
  unfold lookM
  rw [List.find?_cons]
  by_cases h : m.1 = z
  · rw [if_pos h, decide_eq_true h]
    rfl
  · rw [if_neg h, decide_eq_false h]
theorem lookM_mem {M : Mak} (nd : (keysOf M).Nodup) {m : Str × List Str} (h : m ∈ M) : lookM M m.1 = some m.2 := by
  induction M with
  | nil => cases h
  | cons x M ih =>
    have nd' : (x.1 :: keysOf M).Nodup := nd
    rw [List.nodup_cons] at nd'
    rw [lookM_cons]
    rcases List.mem_cons.mp h with rfl | h
    · rw [if_pos rfl]
    · rw [if_neg fun e => nd'.1 (by rw [e]; exact List.mem_map.mpr ⟨m, h, rfl⟩)]
      exact ih nd'.2 h
theorem lookM_some {M : Mak} {z : Str} {ps : List Str} (h : lookM M z = some ps) : (z, ps) ∈ M := by
  induction M with
  | nil => cases h
  | cons x M ih =>
    rw [lookM_cons] at h
    by_cases e : x.1 = z
    · rw [if_pos e] at h
      cases h
      rw [← e]
      exact List.mem_cons_self
    · rw [if_neg e] at h
      exact List.mem_cons_of_mem _ (ih h)
theorem lookM_none {M : Mak} {z : Str} : lookM M z = none ↔ z ∉ keysOf M := by
  induction M with
  | nil => exact ⟨(fun _ h => nomatch h), fun _ => rfl⟩
  | cons x M ih =>
    rw [lookM_cons]
    show _ ↔ z ∉ x.1 :: keysOf M
    rw [List.mem_cons, not_or]
    by_cases e : x.1 = z
    · rw [if_pos e]
      exact ⟨(fun h => nomatch h), fun h => absurd e.symm h.1⟩
    · rw [if_neg e, ih]
      exact ⟨fun h => ⟨fun q => e q.symm, h⟩, fun h => h.2⟩
theorem lookM_in {M : Mak} {z : Str} (h : z ∈ keysOf M) : ∃ ps, lookM M z = some ps := by
  cases e : lookM M z with
  | none => exact absurd h (lookM_none.mp e)
  | some ps => exact ⟨ps, rfl⟩
/-- M' is M, ascending by its keys -/
structure OrdOf (M M' : Mak) : Prop where
  srt : sortedS (keysOf M') = true
  nd : (keysOf M').Nodup
  look : ∀ z, lookM M' z = lookM M z
theorem OrdOf.keys {M M' : Mak} (h : OrdOf M M') (z : Str) : z ∈ keysOf M' ↔ z ∈ keysOf M := by
  have e := h.look z
  constructor
  · intro q
    obtain ⟨ps, hp⟩ := lookM_in q
    rw [hp] at e
    cases c : decide (z ∈ keysOf M) with
    | true => exact of_decide_eq_true c
    | false =>
      rw [lookM_none.mpr (of_decide_eq_false c)] at e
      cases e
  · intro q
    obtain ⟨ps, hp⟩ := lookM_in q
    rw [hp] at e
    cases c : decide (z ∈ keysOf M') with
    | true => exact of_decide_eq_true c
    | false =>
      rw [lookM_none.mpr (of_decide_eq_false c)] at e
      cases e
theorem mak_of_keys {M : Mak} (nd : (keysOf M).Nodup) : M = (keysOf M).map fun z => (z, (lookM M z).getD []) := by
  unfold keysOf
  rw [List.map_map]
  refine (List.map_id M).symm.trans (List.map_congr_left fun m hm => ?_)
  show m = (m.1, (lookM M m.1).getD [])
  rw [lookM_mem nd hm]
  rfl
theorem OrdOf.eq {M M' : Mak} (h : OrdOf M M') {ys : List Str} (hs : sortedS ys = true) (hp : ys.Perm (keysOf M)) (nd : (keysOf M).Nodup) : M' = ys.map fun z => (z, (lookM M z).getD []) := by
  have e : keysOf M' = ys := sorted_same h.srt hs h.nd (hp.nodup_iff.mpr nd) fun z => by rw [h.keys, hp.mem_iff]
  rw [mak_of_keys h.nd, e]
  exact List.map_congr_left fun z _ => by rw [h.look]
theorem OrdOf.mk' {M : Mak} {ys : List Str} (hs : sortedS ys = true) (hp : ys.Perm (keysOf M)) (nd : (keysOf M).Nodup) : OrdOf M (ys.map fun z => (z, (lookM M z).getD [])) := by
  have ek : keysOf (ys.map fun z => (z, (lookM M z).getD [])) = ys := by
    unfold keysOf
    rw [List.map_map]
    exact List.map_id ys
  have dy : ys.Nodup := hp.nodup_iff.mpr nd
  refine ⟨by rw [ek]; exact hs, by rw [ek]; exact dy, fun z => ?_⟩
  by_cases h : z ∈ ys
  · have h1 := lookM_mem (M := ys.map fun z => (z, (lookM M z).getD [])) (by rw [ek]; exact dy) (List.mem_map.mpr ⟨z, h, rfl⟩)
    obtain ⟨ps, q⟩ := lookM_in (hp.mem_iff.mp h)
    rw [h1, q]
    rfl
  · rw [lookM_none.mpr (by rw [ek]; exact h), lookM_none.mpr fun q => h (hp.mem_iff.mpr q)]
theorem OrdOf.vld {leaf : Str} {M M' : Mak} (h : OrdOf M M') (v : Vld leaf M) : Vld leaf M' := by
  refine ⟨v.lf, fun z hz => v.keys z ((h.keys z).mp hz), h.nd, fun m hm => ?_, fun ns hn hs => v.few ns hn fun z hz => (hs z hz).imp id (h.keys z).mp⟩
  have e := h.look m.1
  rw [lookM_mem h.nd hm] at e
  obtain ⟨h1, h2, h3, h4⟩ := v.parts (m.1, m.2) (lookM_some e.symm)
  exact ⟨h1, h2, h3, fun p hp => (h4 p hp).imp id (h.keys p).mpr⟩
/-! ### what is told of kinds -/
def lineK (n : Str) (ps : List Str) : Str := (("kind " : Str) ++ n ++ " ") ++ Txt.join "+" ps
def linesK (leaf : Str) (M : Mak) : List Str := (("leaf " : Str) ++ leaf) :: M.map fun m => lineK m.1 m.2
def usersK (M : Mak) (z : Str) : List Str := (M.filter fun m => decide (z ∈ m.2)).map (·.1)
def partedK (ps : List Str) (z : Str) : List Str := ps.take (ps.idxOf z) ++ ps.drop (ps.idxOf z + 1)
/-- the users by the names and the makings in any order -/
theorem users_by {leaf : Str} {M M' : Mak} {ns : List Str} (h : OrdOf M M') (hn : IsNames leaf (keysOf M) ns) (z : Str) : ns.filter (fun u => decide (z ∈ (lookM M u).getD [])) = usersK M' z := by
  have e : usersK M' z = (keysOf M').filter fun u => decide (z ∈ (lookM M u).getD []) := by
    unfold usersK keysOf
    rw [List.filter_map]
    refine congrArg _ (List.filter_congr fun m hm => ?_)
    show decide (z ∈ m.2) = decide (z ∈ (lookM M m.1).getD [])
    rw [← h.look, lookM_mem h.nd hm]
    rfl
  rw [e]
  refine sorted_same (sortedS_sub hn.srt List.filter_sublist) (sortedS_sub h.srt List.filter_sublist) (hn.nd.sublist List.filter_sublist) (h.nd.sublist List.filter_sublist) fun u => ?_
  rw [List.mem_filter, List.mem_filter, hn.mem, h.keys]
  constructor
  · rintro ⟨h1, h2⟩
    refine ⟨?_, h2⟩
    cases c : decide (u ∈ keysOf M) with
    | true => exact of_decide_eq_true c
    | false =>
      rw [lookM_none.mpr (of_decide_eq_false c)] at h2
      exact absurd (of_decide_eq_true h2) (by simp)
  · rintro ⟨h1, h2⟩
    exact ⟨.inr h1, h2⟩
/-! ### makings in the heap -/
/-- a tuple in the heap whose object has no dict of its own -/
def TupZ (H : Hp) (a : Addr) (xs : List V) : Prop := ∃ ob : Obj, ob.dict = none ∧ H a = some (.frz ob (.tup xs))
theorem TupZ.sq {K : PySem.W.Frag} {H : Hp} {a : Addr} {xs : List V} (h : TupZ H a xs) : SqT K H a xs := by
  obtain ⟨ob, _, e⟩ := h
  exact .inl (.inr ⟨ob, e⟩)
theorem TupZ.ty {K : PySem.W.Frag} {H : Hp} {a : Addr} {xs : List V} (h : TupZ H a xs) : TyX K H (.ref a) (.type "tuple") := by
  obtain ⟨ob, _, e⟩ := h
  exact .fTuple e
theorem TupZ.at {H H' : Hp} {a : Addr} {xs : List V} (h : TupZ H a xs) (s : ∀ o, H a = some o → H' a = some o) : TupZ H' a xs := by
  obtain ⟨ob, d, e⟩ := h
  exact ⟨ob, d, s _ e⟩
theorem TupZ.mono {H H' : Hp} {a : Addr} {xs : List V} (h : TupZ H a xs) (s : Same H H') : TupZ H' a xs := h.at fun o e => s _ _ e
theorem TupZ.ne {H : Hp} {a b : Addr} {xs : List V} (h : TupZ H a xs) {o : HO} (e : H b = some o) (n : ∀ ob, o ≠ .frz ob (.tup xs)) : a ≠ b := fun z => by
  obtain ⟨ob, _, q⟩ := h
  rw [z, e] at q
  exact n ob (Option.some.inj q)
def MakAt (H : Hp) (kvs : List (Key × V)) (M : Mak) : Prop := Paired (fun (kv : Key × V) (m : Str × List Str) => kv.1 = Sum.inr m.1 ∧ ∃ a, kv.2 = .ref a ∧ TupZ H a (m.2.map V.str)) kvs M
theorem MakAt.same {H H' : Hp} {kvs : List (Key × V)} {M : Mak} (h : MakAt H kvs M) (s : ∀ a xs, TupZ H a xs → TupZ H' a xs) : MakAt H' kvs M := by
  unfold MakAt at h ⊢
  induction h with
  | nil => exact .nil
  | cons h _ ih =>
    obtain ⟨h1, a, h2, h3⟩ := h
    exact .cons ⟨h1, a, h2, s a _ h3⟩ ih
theorem MakAt.len {H : Hp} {kvs : List (Key × V)} {M : Mak} (h : MakAt H kvs M) : kvs.length = M.length := Paired.length h
theorem MakAt.keys {H : Hp} {kvs : List (Key × V)} {M : Mak} (h : MakAt H kvs M) : kvs.map (·.1) = (keysOf M).map Sum.inr := by
  unfold MakAt at h
  induction h with
  | nil => rfl
  | cons h _ ih =>
    exact congr (congrArg List.cons h.1) ih
theorem MakAt.get {H : Hp} {kvs : List (Key × V)} {M : Mak} (h : MakAt H kvs M) (z : Str) : (lookM M z = none ∧ valV kvs (Sum.inr z) = none) ∨ ∃ ps a, lookM M z = some ps ∧ valV kvs (Sum.inr z) = some (.ref a) ∧ TupZ H a (ps.map V.str) := by
  unfold MakAt at h
  induction h with
  | nil => exact .inl ⟨rfl, rfl⟩
  | @cons kv m kvs M h _ ih =>
    obtain ⟨h1, a, h2, h3⟩ := h
    rw [lookM_cons]
    by_cases e : m.1 = z
    · rw [if_pos e, valV_pos (by rw [h1, e])]
      exact .inr ⟨m.2, a, rfl, by rw [h2], h3⟩
    · rw [if_neg e, valV_neg (by rw [h1]; exact fun q => e (Sum.inr.inj q))]
      exact ih
theorem MakAt.at {H : Hp} {kvs : List (Key × V)} {M : Mak} (h : MakAt H kvs M) {i : Nat} {k : Key} {v : V} (e : kvs[i]? = some (k, v)) : ∃ m a, M[i]? = some m ∧ k = Sum.inr m.1 ∧ v = .ref a ∧ TupZ H a (m.2.map V.str) := by
  unfold MakAt at h
  induction h generalizing i with
  | nil => cases e
  | @cons kv m kvs M h _ ih =>
    cases i with
    | zero =>
      cases e
      obtain ⟨h1, a, h2, h3⟩ := h
      exact ⟨m, a, rfl, h1, h2, h3⟩
    | succ i => exact ih e
theorem MakAt.key {H : Hp} {kvs : List (Key × V)} {M : Mak} (h : MakAt H kvs M) {z : Str} (hz : z ∈ keysOf M) : ∃ ps a, lookM M z = some ps ∧ valV kvs (Sum.inr z) = some (.ref a) ∧ TupZ H a (ps.map V.str) := by
  rcases h.get z with ⟨e, _⟩ | h
  · exact absurd hz (lookM_none.mp e)
  · exact h
/-- kinds with this leaf and these makings stand at x, their dict at md, their names ns -/
def KindsAt (C : Addr) (H : Hp) (x md : Addr) (leaf : Str) (M : Mak) (ns : List Str) : Prop :=
  ∃ dx nt kvs, H x = some (.ins C dx [("_leaf", .str leaf), ("_makings", .ref md), ("_names", .ref nt)]) ∧ H md = some (.dK kvs) ∧ MakAt H kvs M ∧ H nt = some (.tup (ns.map V.str))
theorem KindsAt.keep {C : Addr} {H H' : Hp} {x md e : Addr} {leaf : Str} {M : Mak} {ns : List Str} (h : KindsAt C H x md leaf M ns) (s : ∀ b o, b ≠ e → H b = some o → H' b = some o) (n1 : x ≠ e) (n2 : md ≠ e) (n3 : ∀ xs, H e ≠ some (.tup xs)) (n4 : ∀ xs, ¬ TupZ H e xs) : KindsAt C H' x md leaf M ns := by
  obtain ⟨dx, nt, kvs, h1, h2, h3, h4⟩ := h
  have t : ∀ a xs, H a = some (.tup xs) → H' a = some (.tup xs) := fun a xs q => s a _ (fun z => n3 xs (z ▸ q)) q
  exact ⟨dx, nt, kvs, s _ _ n1 h1, s _ _ n2 h2, h3.same fun a xs q => q.at fun o e' => s _ _ (fun z => n4 xs (z ▸ q)) e', t _ _ h4⟩
theorem KindsAt.same {C : Addr} {H H' : Hp} {x md : Addr} {leaf : Str} {M : Mak} {ns : List Str} (h : KindsAt C H x md leaf M ns) (s : Same H H') : KindsAt C H' x md leaf M ns := by
  obtain ⟨dx, nt, kvs, h1, h2, h3, h4⟩ := h
  exact ⟨dx, nt, kvs, s _ _ h1, s _ _ h2, h3.same fun a xs q => q.mono s, s _ _ h4⟩
end Kl

set_option maxRecDepth 100000
set_option maxHeartbeats 4000000
namespace Gx
open PySem PySem.Spec PyProof.Rows L2
/-- the name x is a def called with n values by position and keywords ks, that keeps sp and raises nothing -/
def CalO (P : Program) (w : World) (K : PySem.W.Frag) (mg : Str → Option Value) (base : Heap) (k : Nat) (x : Str) (ps : List Str) (n : Nat) (ks : List Str) (gV : List V → List V → List V) (sp : Sp) : Prop :=
  ∃ (f : Addr) (fd : FuncData) (g : List Value → List Value → List Value), FnOk P w K mg base CX0 k f fd ps sp ∧ PySem.W.keepIn K (.ref f) = true ∧ KBn K fd ps n ks g gV ∧ mg x = some (.ref f)
section
variable {P : Program} {w : World} {K : PySem.W.Frag} {mg : Str → Option Value} {base : Heap}
theorem DefK.calO {x qual : Str} {st : Stmt} {ps ks : List Str} {n : Nat} (d : DefK K mg x qual st ps n ks) {k : Nat} {sp : Sp} (h : ∀ f fd, Fun K x qual st f fd → FnOk P w K mg base CX0 k f fd ps sp) : CalO P w K mg base k x ps n ks (fun vs zs => vs ++ zs) sp := by
  obtain ⟨f, fd, F, b, g⟩ := d
  exact ⟨f, fd, _, h f fd F, F.kp, b, g⟩
theorem CalO.mono {x : Str} {ps ks : List Str} {n j k : Nat} {gV : List V → List V → List V} {sp : Sp} (c : CalO P w K mg base j x ps n ks gV sp) (h : j ≤ k) : CalO P w K mg base k x ps n ks gV sp := by
  obtain ⟨f, fd, g, F, more⟩ := c
  exact ⟨f, fd, g, F.mono h, more⟩
end
section
variable {X : Cx}
def tClO (n m : Nat) (sp : Sp) (gV : List V → List V → List V) (t tk : TA) : TE := fun σ H Q => t σ H fun vs H1 => tk σ H1 fun zs H2 => vs.length = n ∧ zs.length = m ∧ sp (gV vs zs) H2 Q E0
theorem pe_calO {x : Str} {ps ks : List Str} {n : Nat} {gV : List V → List V → List V} {sp : Sp} {k : Nat} {e : Expr} {es : List Expr} {kws : List Keyword} {t tk : TA} {p pos : Pos} (c : CalO X.prog X.w X.K X.mg X.base k x ps n ks gV sp) (room : Room k X.A) (hg : Gl X x)
    (h : PA X (e :: es) t) (hk : PK X kws tk) (hall : (backToKw pos (keywordEach kws X.env)).all (·.1.isSome) = true := by rfl) (hks : (backToKw pos (keywordEach kws X.env)).filterMap (·.1) = ks := by rfl)
    (hdb : (x == ("__debug__" : Str)) = false := by decide) (hst : starEach (e :: es) X.env = (false, eval e X.env) :: starEach es X.env := by rfl)
    (hpl : ((backTo pos (starEach (e :: es) X.env)).any (·.1) || (backToKw pos (keywordEach kws X.env)).any (·.1.isNone)) = false := by rfl) :
    PE X (.Call (.Name x p) (e :: es) kws pos) (tClO n ks.length sp gV t tk) := by
  obtain ⟨f, fd, gg, F, kp, b, hm⟩ := c
  refine ⟨fun pins s σ H Q I want => wpAny_Call_Name_kw (ld_glob I hg hm ?_ hdb)⟩
  refine PySem.W.callWith_KW (h₀ := X.base) I.ok.mod.kin kp hall (thn (h.run pos pins s σ H _ I want) ?_) hpl hst
  rintro us s1 ⟨vs, H1, I1, r, q⟩
  refine thn (hk.run pos pins s1 σ H1 _ I1 q) ?_
  rintro ws s2 ⟨zs, H2, I2, rz, l1, l2, q2⟩
  refine ⟨I2.kIn, ?_⟩
  rw [hks]
  have rel := b.rel r rz
  have bt := b.to s2 us ws I2.kIn (r.length.symm.trans l1) (rz.length.symm.trans l2)
  refine wpAny_call (codeAny_mono (F.run X.A X.stack s2 H2 ⟨us, ks.zip ws⟩ _ _ Q E0 room I2.env0 bt rel q2) fun res s' hres => ?_)
  match res, hres with
  | .error e, hres => exact hres.elim
  | .ok (.ret u), hres => exact I2.after hres
end
/-! ### rules within comprehensions, the written part named -/
section
variable {X : Cx} {K : PySem.W.Frag}
theorem pi_tupK {tg l : Expr} {tl : TE} (hk : X.K = K) (hl : PE X l tl) : PI X tg l (iTup K tl) := by
  subst hk
  exact pi_tup hl
theorem pi_listK {tg l : Expr} {tl : TE} (hk : X.K = K) (hl : PE X l tl) : PI X tg l (iList K tl) := by
  subst hk
  exact pi_list hl
theorem op_inSeqK (hk : X.K = K) : OpR X (compareOp .In) (rIn K false) := by
  subst hk
  exact op_in_seq
end
/-- a walk's bookkeeping, whatever its turn does -/
theorem walk_in {J : It} {n : Nat} {G : Hp → Prop} {Y : Nat → Hp → V → Hp → Prop} (w : Walk J n G Y) {H0 : Hp} {Qd : Hp → Prop} {body : V → Hp → (Hp → Prop) → Prop} (Pv : Nat → Hp → Prop) (h0 : Pv 0 H0) (hG : ∀ i H, i ≤ n → Pv i H → G H)
    (hs : ∀ i x H H', i < n → Pv i H → Y i H x H' → body x H' (Pv (i + 1))) (hd : ∀ H, Pv n H → Qd H) :
    ∃ W : Nat → Nat → Hp → Prop, (∃ m, W 0 m H0) ∧ ∀ i m H, W i m H → (J.stop i H ∧ Qd H) ∨ (J.go i H ∧ ∃ Nx : Hp → Prop, (∀ H', Nx H' → ∃ m', m' < m ∧ W (i + 1) m' H') ∧ ∀ x H', J.yld i H x H' → body x H' Nx) := by
  refine ⟨fun i m H => m = n - i ∧ i ≤ n ∧ Pv i H, ⟨n, (Nat.sub_zero n).symm, Nat.zero_le _, h0⟩, ?_⟩
  rintro i m H ⟨rfl, hi, p⟩
  have q := hG i H hi p
  rcases Nat.lt_or_ge i n with lt | ge
  · exact .inr ⟨w.goes i H lt q, Pv (i + 1), fun H' p' => ⟨n - (i + 1), by omega, rfl, lt, p'⟩, fun x H' y => hs i x H H' lt p (w.yields i H x H' lt q y)⟩
  · obtain rfl : i = n := Nat.le_antisymm hi ge
    exact .inl ⟨w.stops H q, hd H p⟩
end Gx
namespace Kl
open PySem PySem.Spec PyProof.Rows L2 Gx Mx
section
variable {P : Program} {w : World} {K : PySem.W.Frag} {mg : Str → Option Value} {base : Heap}
/-! ### is_sorted of texts -/
def spSorted (K : PySem.W.Frag) : Sp := fun vs H Q _ => ∃ (p : Addr) (zs : List Str) (M : Int), vs = [.ref p, .int M] ∧ SqT K H p (zs.map V.str) ∧ TyX K H (.ref p) (.type "tuple") ∧ 0 ≤ M ∧ M ≤ 100 ∧ zs.length ≤ 1000 ∧ (∀ z ∈ zs, z.length ≤ 1000) ∧
  ∀ H', Same H H' → Q (.bl (decide ((zs.length : Int) ≤ M) && (zs.all nameB && sortedS zs))) H'
theorem names_low {z : Str} (h : nameB z = true) : PyData.strOk z = true := by
  unfold nameB at h
  rw [Bool.and_eq_true] at h
  show z.cps.all _ = true
  rw [Array.all_eq_true']
  intro c hc
  have := List.all_eq_true.mp h.2 c (Array.mem_toList_iff.mpr hc)
  exact decide_eq_true (Nat.lt_trans (isLow_lt this) (by decide))
theorem ok_sorted {f : Addr} {fd : FuncData} (F : Fun K "is_sorted" "is_sorted" s_is_sorted f fd) (T : Top K mg) : FnOk P w K mg base CX0 3 f fd ["value", "most"] (spSorted K) := by
  have cc : Cal P w K mg base 2 "is_count" ["value"] (spCnt K) := T.d_is_count.cal fun f fd F => ok_cnt F T
  have cn : Cal P w K mg base 2 "is_name" ["value"] (spName K) := (T.d_is_name.cal fun f fd F => ok_name F T).mono (by decide)
  refine F.ok sc_is_sorted (fun vs H Q E h => ?_) (fun cdv A outer s H vs Q E hr h => ?_)
  · obtain ⟨p, zs, M, rfl, _⟩ := h
    rfl
  · obtain ⟨p, zs, M, rfl, hp, hT, hM, hM2, hlen, hz, hq⟩ := h
    refine ⟨_, pss_cons (ps_if (pt_not (pt_val (pe_cal cc hr (by rfl) (pa_cons (pv 1) pa_nil)))) (pss_one ps_never) pss_nil)
      (pss_cons (ps_if (PW.pt (pw_or (pt_not (pt_val (pe_callB call_isi (by rfl) T.b_isinstance (by decide +kernel) (pa_cons (pv 0) (pa_cons (pe_bltn (v := .ty "tuple") (by rfl) T.b_tuple (by decide +kernel) rfl) pa_nil)))))
          (pw_or1 (pt_cmpR op_gt (pe_callB call_len_seq (by rfl) T.b_len PySem.boot_len (pa_cons (pv 0) pa_nil)) (pv 1) (nomark _))))) (pss_one (ps_ret pe_bl)) pss_nil)
      (pss_cons (ps_if (pt_not (pt_val (pe_callB (cr_all rfl) (by rfl) T.b_all (by decide +kernel) (pa_cons (pe_lc (own := [("name", 2)]) (g := gName 2) (tt := tYes) rfl sc_is_sorted.nd (pi_tup (pv 0))
            (blkOk_by (N := ["value", "most", "name"]) (sc := defScope s_is_sorted) (by decide +kernel))
            (fun _ _ _ _ _ => pg_name (i := 2) sc_is_sorted.nd rfl (.inl rfl)) (fun _ _ _ _ _ => pts_nil) (fun _ _ _ _ _ => pe_cal cn hr (by rfl) (pa_cons (pv 2) pa_nil))) pa_nil)))) (pss_one (ps_ret pe_bl)) pss_nil)
      (pss_one (ps_ret (pe_cmpR (op_eqD hr.units) (pe_callTy call_list_of (by rfl) T.b_list (by decide +kernel) (pa_cons (pv 0) pa_nil)) (pe_callB cr_sortedTS (by rfl) T.b_sorted (by decide +kernel) (pa_cons (pv 0) pa_nil)) (nomark _)))))), ?_⟩
    have hc : cntV (.int M) = true := by
      show ((decide (-TEN60 < M) && decide (M < TEN60)) && decide (0 ≤ M)) = true
      rw [decide_eq_true (show -TEN60 < M by unfold TEN60; omega), decide_eq_true (show M < TEN60 by unfold TEN60; omega), decide_eq_true hM]
      rfl
    refine ⟨_, rfl, .int M, rfl, .inl ⟨M, rfl⟩, _, rfl, ?_⟩
    rw [hc]
    refine ⟨_, rfl, _, .ty "tuple", .type "tuple", .type "tuple", true, rfl, .ty _, hT, kit_ty (by decide +kernel), true, rfl, ?_⟩
    refine ⟨_, rfl, p, _, rfl, .inr hp, _, rfl, _, _, rfl, rfl, _, rfl, ite2 (fun e => ?_) (fun e => ?_)⟩
    · have e1 : decide ((zs.length : Int) ≤ M) = false := decide_eq_false (by
        have := of_decide_eq_true e
        rw [List.length_map] at this
        omega)
      rw [e1, Bool.false_and] at hq
      exact hq H (Same.refl H)
    · have e1 : decide ((zs.length : Int) ≤ M) = true := decide_eq_true (by
        have : ¬ (M < ((zs.map V.str).length : Int)) := fun z => e (decide_eq_true z)
        rw [List.length_map] at this
        omega)
      rw [e1, Bool.true_and] at hq
      refine ⟨_, rfl, p, rfl, ⟨_, hp⟩, fun D hD => ?_⟩
      refine lc_tup (xs := zs.map V.str) (fun j H2 => H2 D = some (.lst ((zs.take j).map fun z => V.bl (nameB z))) ∧ Same H H2) ⟨upd_same, fun b u e => by rw [upd_ne (ne_of_none e hD)]; exact e⟩ (fun j H2 _ hP => ?_) (fun j x H2 hj hP => ?_) (fun H2 hP => ?_)
      · rcases hp with (h | ⟨u, h⟩) | h
        · exact .inl (.inl (hP.2 _ _ h))
        · exact .inl (.inr ⟨u, hP.2 _ _ h⟩)
        · exact .inr h
      · obtain ⟨eD, sm⟩ := hP
        obtain ⟨z, hzj, rfl⟩ : ∃ z, zs[j]? = some z ∧ V.str z = x := by
          rw [List.getElem?_map] at hj
          cases e : zs[j]? with
          | none => rw [e] at hj; cases hj
          | some z => rw [e] at hj; exact ⟨z, rfl, by cases hj; rfl⟩
        refine ⟨rfl, _, rfl, _, rfl, .inl ⟨z, rfl, Nat.le_trans (hz z (List.mem_of_getElem? hzj)) (by decide)⟩, _, eD, ?_, ?_, fun b u e => by rw [upd_ne (ne_of_none e hD)]; exact sm b u e⟩
        · rw [List.length_map, List.length_take]
          exact Nat.lt_of_le_of_lt (Nat.le_trans (Nat.min_le_right _ _) hlen) (by decide)
        · rw [upd_same, List.take_add_one, hzj, List.map_append]
          rfl
      · obtain ⟨eD, sm⟩ := hP
        rw [List.length_map, List.take_length] at eD
        refine ⟨D, zs.map nameB, rfl, .inl (.inl (by rw [eD, List.map_map]; rfl)), _, rfl, ?_⟩
        have ea : (zs.map nameB).all id = zs.all nameB := by rw [List.all_map]; rfl
        rw [ea]
        cases hall : zs.all nameB with
        | false =>
          rw [hall, Bool.false_and] at hq
          exact hq _ sm
        | true =>
          rw [hall, Bool.true_and] at hq
          have hok : ∀ z ∈ zs, PyData.strOk z = true := fun z hz => names_low (List.all_eq_true.mp hall z hz)
          have hp2 : SqT K H2 p (zs.map V.str) := by
            rcases hp with (h | ⟨u, h⟩) | h
            · exact .inl (.inl (sm _ _ h))
            · exact .inl (.inr ⟨u, sm _ _ h⟩)
            · exact .inr h
          refine ⟨_, rfl, p, _, rfl, .inr hp2, fun l nl => ?_⟩
          have sm2 : Same H (upd H2 l (.lst (zs.map V.str))) := fun b u e => by rw [upd_ne (ne_of_none (sm b u e) nl)]; exact sm b u e
          have hp3 : SqT K (upd H2 l (.lst (zs.map V.str))) p (zs.map V.str) := by
            rcases hp with (h | ⟨u, h⟩) | h
            · exact .inl (.inl (sm2 _ _ h))
            · exact .inl (.inr ⟨u, sm2 _ _ h⟩)
            · exact .inr h
          refine ⟨_, rfl, p, zs, rfl, hp3, by omega, fun ys l2 hperm hsrt nl2 => ?_⟩
          refine ⟨.list (tD zs), .list (tD ys), ?_, ?_, shaped_texts hok, shaped_texts (fun z hz => hok z (hperm.mem_iff.mp hz)), ?_⟩
          · exact .lst (.inl (.inl (by rw [upd_ne (ne_of_none upd_same nl2), upd_same]))) (dp_texts zs)
          · exact .lst (.inl (.inl upd_same)) (dp_texts ys)
          · rw [PyData.eqv, eqv_texts, eq_sorted_iff hperm hsrt]
            exact hq _ (fun b u e => by rw [upd_ne (ne_of_none (sm2 b u e) nl2)]; exact sm2 b u e)
end
end Kl

set_option maxRecDepth 100000
set_option maxHeartbeats 4000000
namespace Gx
open PySem PySem.Spec PyProof.Rows L2 SeqAt Mx
open AutoSeq1 (wpAny_loadPart')
/-! ### a dict is no text; data and dicts in a tuple -/
theorem str_eq_dict (b : Str) (u : Tok) (l : Addr) (dd : Option Addr) (sl : Array (Option Value)) (es : Array DictEntry) (ep : Nat) :
    Meets (Builtin.«str.__eq__» ⟨[.str b u, .ref l], []⟩) (fun _ R s => s.heap.get? l = some { cls := .type "dict", dict := dd, data := .dict es ep, slots := sl } ∧ R (.ok (.ret .notImplemented)) s) :=
  .of_wp fun prog w A R s h => by obtain ⟨hp, g, d, tk, os⟩ := s; obtain ⟨hl, h⟩ := h; wp_walk using wpAny_loadPart' hl, wpAny_load hl; exact ⟨_, rfl, h⟩
theorem dict_eq_str {prog : Program} {w : World} {A : Around} {E : Value → Shared → Prop} {s : Shared} {Q : Value → Shared → Prop} {a : Addr} {b : Str} {u : Tok} (da : s.TypeIs (.ref a) "dict") (h : Q .notImplemented s) :
    wpAny (model prog w) A (call (.builtin "dict.__eq__") [.ref a, .str b u]) Q E s := by
  refine wpAny_call_entry PySem.F.slot_dict_eq da PySem.F.entry_dict_eq ?_ (PySem.F.args_dict_eq_2 _ _)
  show wpAny _ _ (Builtin.Dict.dictSlotArgs "__eq__" ⟨[.ref a, .str b u], []⟩ >>= _) _ _ s
  refine wpAny_bind ?_
  unfold Builtin.Dict.dictSlotArgs
  refine wpAny_bind (wpAny_notOrdered_dict da ?_)
  show wpAny _ _ (pure (Value.ref a, Value.str b u)) _ _ s
  refine wpAny_pure ?_
  refine wpAny_bind (wpAny_isInstance (T := "str") (typeIs_str s b u) PySem.F.sub_str_dict ?_)
  simp only [Bool.not_false, if_true]
  exact wpAny_bind (wpAny_rule (wpAny_bind (wpAny_pure (wpAny_pure ⟨_, rfl, h⟩))))
section
variable {A : Around} {s : Shared}
theorem eqAt_str_dict {l : Addr} {ob : Obj} (b : Str) (u : Tok) (hl : s.heap.get? l = some ob) (hc : ob.cls = .type "dict") {es : Array DictEntry} {ep : Nat} (hde : ob.data = .dict es ep) (hu : A.units < cLine) : EqAt A s (.str b u) (.ref l) false := fun prog w E Q h => by
  unfold eqBool
  refine wpAny_holding ?_
  refine wpAny_ite_split (fun hab => absurd (eq_of_beq hab) nofun) (fun _ => ?_)
  obtain ⟨cls2, dd2, data2, sl2⟩ := ob
  simp only at hc hde
  subst hc hde
  refine wpAny_bind ?_
  exact rc_eq_decline_or (k := false) (typeIs_str s b u) ⟨_, hl, rfl⟩ (by decide) F.sub_dict_str F.slot_str_eq F.slot_dict_eq_refl
    (fun _ hq => call_meets F.slot_str_eq (typeIs_str s b u) F.entry_str_eq (F.args_str_eq_2 _ _) (str_eq_dict b u l dd2 sl2 es ep) ⟨hl, hq⟩)
    (fun _ hq => dict_eq_str ⟨_, hl, rfl⟩ hq)
    (fun _ hq => wpAny_of_eq (rfl : isSame (.str b u) (.ref l) = pure false) hq) (.inr hu) (wpAny_truthy_bool h)
end
section
variable {X : Cx}
theorem vals_mem : ∀ {zs : List Str} {its : List Value} {y : Value}, Vals (zs.map V.str) its → y ∈ its → ∃ z t, y = .str z t
  | [], _, _, .nil, h => nomatch h
  | z :: zs, _, y, .cons r t, h => by
    rcases List.mem_cons.mp h with rfl | h
    · obtain ⟨tk, e⟩ := r
      exact ⟨z, tk, e⟩
    · exact vals_mem t h
/-- x in a tuple of texts: data that are not deep, or a dict -/
def rInTx (K : PySem.W.Frag) : R2 := fun x y H Q => ∃ (p : Addr) (zs : List Str), y = .ref p ∧ SqT K H p (zs.map V.str) ∧ (∀ z ∈ zs, PyData.strOk z = true) ∧
  ((∃ d, Dp K H x d ∧ d.canLay0 = true ∧ d.depth ≤ 10 ∧ Q (.bl ((tD zs).any fun z => PyData.eqv z d)) H) ∨ ∃ a kvs, x = .ref a ∧ H a = some (.dK kvs) ∧ Q (.bl false) H)
theorem op_inTx (hu : X.A.units + 64 < cLine) : OpR X (compareOp .In) (rInTx X.K) := by
  intro pins s σ H x y v u Q I rx ry h
  obtain ⟨p, zs, rfl, hp, ok, h⟩ := h
  rcases h with ⟨d, hd, sd, dp, q⟩ | ⟨a, kvs, rfl, ea, q⟩
  · obtain ⟨as, r1⟩ := Dp.reads I d x v hd rx
    obtain ⟨bs, r2⟩ := Dp.reads I (.tuple (tD zs)) (.ref p) u (.tup hp (dp_texts zs)) ry
    exact SeqAt.in_tuple_reads r2 r1 (canLay_texts zs ok) sd (by omega) ⟨.bl _, H, I, rfl, q⟩
  · cases rx
    cases ry
    obtain ⟨its, rv, pl, hz⟩ := I.tuple hp
    obtain ⟨_, _, vs, _, hd⟩ := dk_of I.hok ea
    obtain ⟨ob, hb, hD⟩ := Heap.dictOf_iff.mp hd
    obtain ⟨es, ep, ex, ed, _⟩ := hD
    have hcb : ob.cls = .type "dict" := ex.1
    refine SeqAt.in_tupleAt (fun _ => false) pl (fun y hy => ?_) ⟨.bl false, H, I, ?_, q⟩
    · rw [List.mem_toArray] at hy
      obtain ⟨z, t, rfl⟩ := vals_mem rv hy
      exact eqAt_str_dict z t hb hcb ed (by show X.A.units + 1 < cLine; omega)
    · show Value.bool _ = Value.bool false
      rw [Array.any_eq_false' |>.mpr (fun _ _ => by simp)]
end
end Gx

set_option maxRecDepth 100000
set_option maxHeartbeats 4000000
namespace Kl
open PySem PySem.Spec PyProof.Rows L2 Gx Mx
section
variable {P : Program} {w : World} {K : PySem.W.Frag} {mg : Str → Option Value} {base : Heap}
/-! ### the law's dice -/
def spDice (K : PySem.W.Frag) : Sp := fun vs H Q _ => ∃ (a : Addr) (ns : List Int) (i : Nat), vs = [.ref a, .int i] ∧ SqL K H a (ns.map V.int) ∧ ns.length ≤ 63 ∧ i ≤ 1000 ∧
  ∀ (p : Addr) (x b : Int), H p = none → Q (.ref p) (upd H p (.lst [.int x, .int b, .int 0]))
theorem ok_dice {f : Addr} {fd : FuncData} (F : Fun K "_law_dice" "_law_dice" s_law_dice f fd) (T : Top K mg) : FnOk P w K mg base CX0 1 f fd ["_law_script", "_law_spot"] (spDice K) := by
  refine F.ok sc_law_dice (fun vs H Q E h => ?_) (fun cdv A outer s H vs Q E hr h => ?_)
  · obtain ⟨a, ns, i, rfl, _⟩ := h
    rfl
  · obtain ⟨a, ns, i, rfl, hS, hlen, hi, q⟩ := h
    refine ⟨_, pss_cut (ps_set (i := 2) sc_law_dice.nd rfl (.inl rfl) (pe_ifExp
        (pt_cmpR op_lt (pv 1) (pe_callB call_len_seq (by rfl) T.b_len PySem.boot_len (pa_cons (pv 0) pa_nil)) (nomark _))
        (pe_callTy call_int1 (by rfl) T.b_int (by decide +kernel) (pa_cons (pe_ix ix_list (pv 0) (pv 1) (fun _ _ => rfl)) pa_nil))
        (pe_op op_add (pe_op op_mul pe_int (pv 1)) pe_int)))
      (pss_cons (ps_set (i := 3) sc_law_dice.nd rfl (.inl rfl) (pe_op op_mod
        (pe_callB (call_max2 rfl) (by rfl) T.b_max (by decide +kernel) (pa_cons pe_int (pa_cons (pe_op op_sub
          (pe_callB call_abs (by rfl) T.b_abs (by decide +kernel) (pa_cons (pv 2) pa_nil)) (pe_op op_pow pe_int pe_int)) pa_nil)))
        (pe_op op_mulW (pe_op op_pow pe_int pe_int) (pe_op op_pow pe_int pe_int))))
      (pss_one (ps_ret (pe_lst (pa_cons (pv 3) (pa_cons
        (pe_op op_add (pe_op op_add (pe_op op_add (pe_op op_mul (pe_op op_mod (pe_callB call_abs (by rfl) T.b_abs (by decide +kernel) (pa_cons (pv 2) pa_nil)) pe_int) pe_int)
          (pe_op op_mul pe_int (pv 1)))
          (pe_op op_mul pe_int (pe_callTy call_int1 (by rfl) T.b_int (by decide +kernel) (pa_cons (pe_cmpR op_lt (pv 2) pe_int (nomark _)) pa_nil)))) pe_int)
        (pa_cons pe_int pa_nil))))))), ?_⟩
    refine ⟨fun σ' H' => ∃ c : Int, σ' = [some (.ref a), some (.int i), some (.int c), none] ∧ H' = H, ?_, ?_⟩
    · refine ⟨_, rfl, .ref a, rfl, a, _, rfl, .inl hS, _, _, rfl, rfl, _, rfl, ite2 (fun e => ?_) (fun e => ?_)⟩
      · have e' : i < ns.length := by
          have := of_decide_eq_true e
          rw [List.length_map] at this
          omega
        refine ⟨.ref a, rfl, .int i, rfl, a, _, _, .int ns[i], rfl, rfl, hS, atI_nat (by rw [List.getElem?_map, List.getElem?_eq_getElem e']; rfl), .inl ⟨_, rfl, ns[i], rfl, rfl⟩⟩
      · refine ⟨_, rfl, _, _, rfl, rfl, .inl ⟨by decide, by decide⟩, _, _, rfl, rfl, _, rfl, rfl⟩
    · rintro σ' H' ⟨c, rfl, rfl⟩
      refine ⟨_, rfl, _, rfl, ?_⟩
      refine ⟨_, _, rfl, rfl, ⟨by decide, by decide, by decide⟩, ?_⟩
      refine ⟨_, _, rfl, rfl, ?_⟩
      refine ⟨_, _, rfl, ?_⟩
      refine ⟨_, _, rfl, rfl, ⟨by decide, by decide, by decide⟩, ?_⟩
      refine ⟨_, _, rfl, rfl, ⟨by decide, by decide, by decide⟩, ?_⟩
      refine ⟨_, _, rfl, rfl, wide_mul (a := 200) (b := 200) (by decide) (by decide) (by decide) (by decide) (by decide), ?_⟩
      refine ⟨_, _, rfl, rfl, by show (0 : Int) < _; decide, ?_⟩
      generalize (if (if c < 0 then -c else c) - 10 ^ Int.toNat 17 > 0 then (if c < 0 then -c else c) - 10 ^ Int.toNat 17 else 0) % (10 ^ Int.toNat 60 * 10 ^ Int.toNat 60) = left
      refine ⟨_, rfl, _, rfl, _, rfl, _, _, rfl, rfl, by show (0 : Int) < _; decide, _, _, rfl, rfl, .inr ⟨by decide, by decide⟩, ?_⟩
      refine ⟨_, rfl, _, _, rfl, rfl, .inl ⟨by decide, by decide⟩, _, _, rfl, rfl, _, rfl, _, _, rfl, rfl, .inr ⟨_, rfl, ?_⟩⟩
      refine ⟨_, _, rfl, rfl, .inl ⟨by decide, by decide⟩, _, _, rfl, rfl, _, _, rfl, rfl, by show 3 ≤ sizeLine; decide, fun p hp => ?_⟩
      exact q p _ _ hp
def spRoll : Sp := fun vs H Q _ => ∃ (d : Addr) (t : Int), vs = [.ref d, .int t] ∧ DiceAt H d ∧ 0 < t ∧ t.natAbs.log2 < 9000 ∧
  ∀ (r x b c : Int), 0 ≤ r → r < t → Q (.int r) (upd H d (.lst [.int x, .int b, .int c]))
theorem ok_roll {f : Addr} {fd : FuncData} (F : Fun K "_law_roll" "_law_roll" s_law_roll f fd) (T : Top K mg) : FnOk P w K mg base CX0 1 f fd ["_law_dice_here", "_law_total"] spRoll := by
  refine F.ok sc_law_roll (fun vs H Q E h => ?_) (fun cdv A outer s H vs Q E hr h => ?_)
  · obtain ⟨d, t, rfl, _⟩ := h
    rfl
  · obtain ⟨d, t, rfl, ⟨x, b, c, hd⟩, ht, ht2, q⟩ := h
    refine ⟨_, pss_cons (ps_if (pt_cmpR op_gt (pe_ix ix_list (pv 0) pe_int (fun _ _ => rfl)) pe_int (nomark _))
        (pss_cons (ps_set (i := 2) sc_law_roll.nd rfl (.inl rfl) (pe_op op_mod (pe_callTy call_int1 (by rfl) T.b_int (by decide +kernel) (pa_cons (pe_ix ix_list (pv 0) pe_int (fun _ _ => rfl)) pa_nil)) (pv 1)))
        (pss_cons (ps_asg (pe_op op_fdivW (pe_ix ix_list (pv 0) pe_int (fun _ _ => rfl)) (pv 1)) (pg_sub (pv 0) pe_int set_list))
        (pss_one (ps_ret (pv 2))))) pss_nil)
      (pss_cons (ps_asg (pe_op op_add (pe_ix ix_list (pv 0) pe_int (fun _ _ => rfl)) pe_int) (pg_sub (pv 0) pe_int set_list))
      (pss_cons (ps_set (i := 3) sc_law_roll.nd rfl (.inl rfl) (pe_op op_mod (pe_callTy call_int1 (by rfl) T.b_int (by decide +kernel) (pa_cons
        (pe_op op_add (pe_ix ix_list (pv 0) pe_int (fun _ _ => rfl)) (pe_op op_mul pe_int (pe_ix ix_list (pv 0) pe_int (fun _ _ => rfl)))) pa_nil)) pe_int))
      (pss_cons (ps_set (i := 4) sc_law_roll.nd rfl (.inl rfl) (pe_op op_add (pe_op op_mul (pe_op op_mod (pe_callTy call_int1 (by rfl) T.b_int (by decide +kernel) (pa_cons
        (pe_op op_add (pe_op op_mul (pv 3) (pv 3)) (pe_op op_mul pe_int (pe_ix ix_list (pv 0) pe_int (fun _ _ => rfl)))) pa_nil)) pe_int) pe_int) (pv 3)))
      (pss_one (ps_ret (pe_op op_mod (pe_callTy call_int1 (by rfl) T.b_int (by decide +kernel) (pa_cons (pe_op op_fdiv (pv 4) pe_int) pa_nil)) (pv 1))))))), ?_⟩
    have at0 : ∀ (x y z : V), atI [x, y, z] 0 = some x := fun x y z => atI_nat (j := 0) rfl
    have at1 : ∀ (x y z : V), atI [x, y, z] 1 = some y := fun x y z => atI_nat (j := 1) rfl
    have at2 : ∀ (x y z : V), atI [x, y, z] 2 = some z := fun x y z => atI_nat (j := 2) rfl
    have hS : SqL K H d [.int x, .int b, .int c] := .inl (.inl hd)
    refine ⟨_, rfl, d, _, _, _, rfl, rfl, hS, at0 _ _ _, _, _, rfl, rfl, _, rfl, ite2 (fun e => ?_) (fun e => ?_)⟩
    · refine ⟨_, rfl, d, _, _, _, rfl, rfl, hS, at0 _ _ _, .inl ⟨_, rfl, _, rfl, _, _, rfl, rfl, ht, ?_⟩⟩
      refine ⟨_, rfl, d, _, _, _, rfl, rfl, hS, at0 _ _ _, _, rfl, _, _, rfl, rfl, ⟨ht, ht2⟩, ?_⟩
      refine ⟨_, rfl, d, _, _, 0, rfl, rfl, hd, rfl, ?_⟩
      refine ⟨_, rfl, ?_⟩
      exact q _ _ _ _ (Int.emod_nonneg _ (by omega)) (Int.emod_lt_of_pos _ ht)
    · refine ⟨_, rfl, d, _, _, _, rfl, rfl, hS, at2 _ _ _, _, _, rfl, rfl, ?_⟩
      refine ⟨_, rfl, d, _, _, 2, rfl, rfl, hd, rfl, ?_⟩
      have hd1 : (upd H d (.lst ([V.int x, V.int b, V.int c].set 2 (.int (c + 1))))) d = some (.lst [V.int x, V.int b, V.int (c + 1)]) := upd_same
      have hS1 : SqL K (upd H d (.lst ([V.int x, V.int b, V.int c].set 2 (.int (c + 1))))) d [V.int x, V.int b, V.int (c + 1)] := .inl (.inl hd1)
      refine ⟨_, rfl, d, _, _, _, rfl, rfl, hS1, at1 _ _ _, _, rfl, d, _, _, _, rfl, rfl, hS1, at2 _ _ _, _, _, rfl, rfl, .inl ⟨by decide, by decide⟩, _, _, rfl, rfl, .inl ⟨_, rfl, ?_⟩⟩
      refine ⟨_, _, rfl, rfl, by show (0 : Int) < _; decide, ?_⟩
      have h1 := Int.emod_nonneg (b + 7919 * (c + 1)) (show (2305843009213693907 : Int) ≠ 0 by decide)
      have h2 := Int.emod_lt_of_pos (b + 7919 * (c + 1)) (show (0 : Int) < 2305843009213693907 by decide)
      generalize (b + 7919 * (c + 1)) % 2305843009213693907 = one at h1 h2
      refine ⟨_, rfl, _, rfl, _, _, rfl, rfl, .inl ⟨by omega, by omega⟩, _, rfl, d, _, _, _, rfl, rfl, hS1, at2 _ _ _, _, _, rfl, rfl, .inl ⟨by decide, by decide⟩, _, _, rfl, rfl, .inl ⟨_, rfl, ?_⟩⟩
      refine ⟨_, _, rfl, rfl, by show (0 : Int) < _; decide, _, _, rfl, rfl, .inr ⟨by decide, by decide⟩, _, rfl, _, _, rfl, rfl, ?_⟩
      refine ⟨_, rfl, _, _, rfl, rfl, ⟨by decide, by decide⟩, .inl ⟨_, rfl, _, rfl, _, _, rfl, rfl, ht, ?_⟩⟩
      exact q _ _ _ _ (Int.emod_nonneg _ (by omega)) (Int.emod_lt_of_pos _ ht)
/-- what may be picked from: the items of a list, a tuple, a text -/
def Items (K : PySem.W.Frag) (H : Hp) (d : Addr) (x : V) (xs : List V) : Prop :=
  (∃ p, x = .ref p ∧ p ≠ d ∧ (SqL K H p xs ∨ SqT K H p xs)) ∨ ∃ z : Str, x = .str z ∧ xs = signV z ∧ z.length ≤ sizeLine
def spPick (K : PySem.W.Frag) : Sp := fun vs H Q _ => ∃ (d : Addr) (x : V) (xs : List V), vs = [.ref d, x] ∧ DiceAt H d ∧ Items K H d x xs ∧ xs ≠ [] ∧ xs.length ≤ 100000 ∧
  ∀ (v : V) (x b c : Int), v ∈ xs → Q v (upd H d (.lst [.int x, .int b, .int c]))
theorem log2_small {n : Nat} (h : n ≤ 100000) : ((n : Int).natAbs).log2 < 9000 := by
  have h1 : ((n : Int).natAbs) < 2 ^ 20 := by
    rw [Int.natAbs_natCast]
    exact Nat.lt_of_le_of_lt h (by decide)
  exact Nat.lt_of_lt_of_le (PySem.Flt.log2_lt_of (by decide) h1) (by decide)
theorem ok_pick {f : Addr} {fd : FuncData} (F : Fun K "_law_pick" "_law_pick" s_law_pick f fd) (T : Top K mg) : FnOk P w K mg base CX0 2 f fd ["_law_dice_here", "_law_items"] (spPick K) := by
  have cr : Cal P w K mg base 1 "_law_roll" ["_law_dice_here", "_law_total"] spRoll := T.d_law_roll.cal fun f fd F => ok_roll F T
  refine F.ok sc_law_pick (fun vs H Q E h => ?_) (fun cdv A outer s H vs Q E hr h => ?_)
  · obtain ⟨d, x, xs, rfl, _⟩ := h
    rfl
  · obtain ⟨d, x, xs, rfl, hd, hI, hne, hlen, q⟩ := h
    refine ⟨_, pss_one (ps_ret (pe_ix ix_seq (pv 1) (pe_cal cr hr (by rfl) (pa_cons (pv 0) (pa_cons (pe_callB call_len (by rfl) T.b_len PySem.boot_len (pa_cons (pv 1) pa_nil)) pa_nil))) (fun _ _ => rfl))), ?_⟩
    have hpos : 0 < xs.length := List.length_pos_iff.mpr hne
    rcases hI with ⟨p, rfl, hp, hs⟩ | ⟨z, rfl, rfl, hz⟩
    · refine ⟨_, rfl, _, rfl, _, rfl, _, (xs.length : Nat), rfl, ?_, ?_⟩
      · rcases hs with hs | hs
        · exact .inl ⟨_, hs, rfl⟩
        · exact .inr ⟨_, hs, rfl⟩
      · refine ⟨d, _, rfl, hd, by omega, log2_small hlen, fun r x b c h0 h1 => ?_⟩
        obtain ⟨v, hv, ha⟩ := atI_int (xs := xs) h0 h1
        rcases hs with hs | hs
        · exact .inl ⟨p, _, _, v, rfl, rfl, sqL_ne hp hs, ha, q v x b c hv⟩
        · exact .inr (.inl ⟨p, _, _, v, rfl, rfl, sqT_ne hp hs, ha, q v x b c hv⟩)
    · have hlz := signV_len z
      refine ⟨_, rfl, _, rfl, _, rfl, _, (z.length : Nat), rfl, ⟨hz, rfl⟩, ?_⟩
      refine ⟨d, _, rfl, hd, by omega, log2_small (by omega), fun r x b c h0 h1 => ?_⟩
      obtain ⟨v, hv, ha⟩ := atI_int (xs := z.cps.toList) h0 (by rw [Array.length_toList]; exact h1)
      exact .inr (.inr ⟨z, r, v, rfl, rfl, hz, ha, q _ x b c (List.mem_map.mpr ⟨_, hv, rfl⟩)⟩)
end
end Kl

set_option maxRecDepth 100000
set_option maxHeartbeats 4000000
namespace Kl
open PySem PySem.Spec PyProof.Rows L2 Gx Mx
/-! ### all but the dice stays -/
/-- all but what stands at d is as it was -/
def SameX (d : Addr) (H H' : Hp) : Prop := ∀ b o, b ≠ d → H b = some o → H' b = some o
theorem SameX.refl (d : Addr) (H : Hp) : SameX d H H := fun _ _ _ e => e
theorem SameX.trans {d : Addr} {H H' H'' : Hp} (h : SameX d H H') (h' : SameX d H' H'') : SameX d H H'' := fun b o n e => h' b o n (h b o n e)
theorem SameX.atd {d : Addr} {H H' : Hp} {o : HO} (h : SameX d H H') : SameX d H (upd H' d o) := fun b u n e => by rw [upd_ne n]; exact h b u n e
theorem SameX.new {d p : Addr} {H H' : Hp} {o : HO} (h : SameX d H H') (n : H' p = none) : SameX d H (upd H' p o) := fun b u nb e => by
  have e' := h b u nb e
  rw [upd_ne (ne_of_none e' n)]
  exact e'
theorem SameX.at {d p : Addr} {H H' : Hp} {o : HO} (h : SameX d H H') (n : H p = none) : SameX d H (upd H' p o) := fun b u nb e => by
  rw [upd_ne (ne_of_none e n)]
  exact h b u nb e
theorem SameX.of {d : Addr} {H H' : Hp} (h : Same H H') : SameX d H H' := fun b o _ e => h b o e
theorem SameX.free {d p : Addr} {H H' : Hp} (h : SameX d H H') (n : p ≠ d) (e : H' p = none) : H p = none := by
  cases q : H p with
  | none => rfl
  | some o => rw [h p o n q] at e; cases e
theorem dice_ne {H : Hp} {d p : Addr} (h : DiceAt H d) (e : H p = none) : p ≠ d := fun q => by
  obtain ⟨_, _, _, h⟩ := h
  rw [q, h] at e
  cases e
theorem dice_upd {H : Hp} {d p : Addr} {o : HO} (h : DiceAt H d) (n : p ≠ d) : DiceAt (upd H p o) d := by
  obtain ⟨a, b, c, h⟩ := h
  exact ⟨a, b, c, by rw [upd_ne n.symm]; exact h⟩
theorem dice_new {H : Hp} {d : Addr} (x b c : Int) : DiceAt (upd H d (.lst [.int x, .int b, .int c])) d := ⟨_, _, _, upd_same⟩
end Kl

set_option maxRecDepth 100000
set_option maxHeartbeats 4000000
namespace Kl
open PySem PySem.Spec PyProof.Rows L2 Gx Mx
theorem same_new {H H1 : Hp} {p : Addr} {o : HO} (s : Same H H1) (n : H1 p = none) : Same H (upd H1 p o) := fun b u e => by
  rw [upd_ne (ne_of_none (s b u e) n)]
  exact s b u e
end Kl

set_option maxRecDepth 100000
set_option maxHeartbeats 4000000
namespace Kl
open PySem PySem.Spec PyProof.Rows L2 Gx Mx
theorem Paired.snoc {α β : Type} {F : α → β → Prop} {a : α} {b : β} (h : F a b) : ∀ {l₁ : List α} {l₂ : List β}, Paired F l₁ l₂ → Paired F (l₁ ++ [a]) (l₂ ++ [b])
  | _, _, .nil => .cons h .nil
  | _, _, .cons x r => .cons x (Paired.snoc h r)
theorem take_snoc {α : Type} {l : List α} {i : Nat} {x : α} (h : l[i]? = some x) : l.take (i + 1) = l.take i ++ [x] := by
  rw [List.take_add_one, h]
  rfl
theorem mak_nd {H : Hp} {kvs : List (Key × V)} {M : Mak} (h : MakAt H kvs M) (nd : (keysOf M).Nodup) : (kvs.map (·.1)).Nodup := by
  rw [h.keys]
  exact List.Pairwise.map Sum.inr (fun a b h q => h (Sum.inr.inj q)) nd
/-- an instance that was made -/
theorem made {C x dx md : Addr} {G H1 : Hp} (nx : G x = none) (ndx : G dx = none) (nmd : (upd (upd G dx (.own x)) x (.ins C dx [])) md = none) (keep : ∀ b o, b ≠ x → (upd (upd G dx (.own x)) x (.ins C dx [])) b = some o → H1 b = some o) : Same G H1 ∧ G md = none := by
  refine ⟨fun b u e => keep b u (ne_of_none e nx) (by rw [upd_ne (ne_of_none e nx), upd_ne (ne_of_none e ndx)]; exact e), ?_⟩
  have n1 : md ≠ x := fun z => by
    rw [z, upd_same] at nmd
    cases nmd
  rw [upd_ne n1] at nmd
  have n2 : md ≠ dx := fun z => by
    rw [z, upd_same] at nmd
    cases nmd
  rwa [upd_ne n2] at nmd
/-! ### sizes, rank by rank: the mathematics -/
abbrev Row := List (Str × Nat)
def keysR (R : Row) : List Str := R.map (·.1)
def lookR (R : Row) (z : Str) : Option Nat := (R.find? fun q => decide (q.1 = z)).map (·.2)
def getR (R : Row) (z : Str) : Nat := (lookR R z).getD 0
def fitsR (E : List Str) (ps : List Str) : Bool := ps.all fun p => decide (p ∈ E)
def aboveE (M : Mak) (E : List Str) : List Str := (M.filter fun m => fitsR E m.2).map (·.1)
def aboveR (M : Mak) (R : Row) : Row := (M.filter fun m => fitsR (keysR R) m.2).map fun m => (m.1, (m.2.map (getR R)).sum)
def rowsR (leaf : Str) (M : Mak) : Nat → Row
  | 0 => [(leaf, 1)]
  | r + 1 => aboveR M (rowsR leaf M r)
def setR (leaf : Str) (M : Mak) (r : Nat) : List Str := keysR (rowsR leaf M r)
theorem keys_above (M : Mak) (R : Row) : keysR (aboveR M R) = aboveE M (keysR R) := by
  unfold keysR aboveR aboveE
  rw [List.map_map]
  rfl
theorem set_succ (leaf : Str) (M : Mak) (r : Nat) : setR leaf M (r + 1) = aboveE M (setR leaf M r) := keys_above M _
theorem lookR_cons (q : Str × Nat) (R : Row) (z : Str) : lookR (q :: R) z = if q.1 = z then some q.2 else lookR R z := by
  unfold lookR
  rw [List.find?_cons]
  by_cases h : q.1 = z
  · rw [if_pos h, decide_eq_true h]
    rfl
  · rw [if_neg h, decide_eq_false h]
theorem lookR_in {R : Row} {z : Str} (h : z ∈ keysR R) : ∃ n, lookR R z = some n := by
  induction R with
  | nil => cases h
  | cons q R ih =>
    rw [lookR_cons]
    by_cases e : q.1 = z
    · exact ⟨q.2, if_pos e⟩
    · rw [if_neg e]
      rcases List.mem_cons.mp (show z ∈ q.1 :: keysR R from h) with h | h
      · exact absurd h.symm e
      · exact ih h
theorem lookR_no {R : Row} {z : Str} (h : z ∉ keysR R) : lookR R z = none := by
  induction R with
  | nil => rfl
  | cons q R ih =>
    have h' : ¬ (z = q.1 ∨ z ∈ keysR R) := fun c => h (List.mem_cons.mpr c)
    rw [lookR_cons, if_neg fun e => h' (.inl e.symm)]
    exact ih fun c => h' (.inr c)
/-- the dict of a row -/
def rowK (R : Row) : List (Key × V) := R.map fun q => (Sum.inr q.1, V.int (q.2 : Nat))
theorem rowK_keys (R : Row) : (rowK R).map (·.1) = (keysR R).map Sum.inr := by
  unfold rowK keysR
  rw [List.map_map, List.map_map]
  rfl
theorem rowK_len (R : Row) : (rowK R).length = R.length := List.length_map _
theorem rowK_look (R : Row) (z : Str) : valV (rowK R) (Sum.inr z) = (lookR R z).map fun n => V.int (n : Nat) := by
  induction R with
  | nil => rfl
  | cons q R ih =>
    rw [lookR_cons]
    show valV ((Sum.inr q.1, V.int (q.2 : Nat)) :: rowK R) _ = _
    by_cases e : q.1 = z
    · rw [if_pos e, valV_pos (by rw [e])]
      rfl
    · rw [if_neg e, valV_neg fun c => e (Sum.inr.inj c)]
      exact ih
theorem rowK_get {R : Row} {z : Str} (h : z ∈ keysR R) : valV (rowK R) (Sum.inr z) = some (.int (getR R z : Nat)) := by
  obtain ⟨n, e⟩ := lookR_in h
  rw [rowK_look, e]
  unfold getR
  rw [e]
  rfl
/-! ### names -/
structure Fin6 (leaf : Str) (M : Mak) (ns : List Str) : Prop where
  v : Vld leaf M
  srt : sortedS (keysOf M) = true
  n : IsNames leaf (keysOf M) ns
theorem set_sub {leaf : Str} {M : Mak} : ∀ (r : Nat), ∀ z ∈ setR leaf M r, z = leaf ∨ z ∈ keysOf M
  | 0, z, h => .inl (List.mem_singleton.mp h)
  | r + 1, z, h => by
    rw [set_succ] at h
    obtain ⟨m, hm, rfl⟩ := List.mem_map.mp h
    exact .inr (List.mem_map.mpr ⟨m, (List.mem_filter.mp hm).1, rfl⟩)
theorem above_sub (M : Mak) (E : List Str) : (aboveE M E).Sublist (keysOf M) := List.Sublist.map _ List.filter_sublist
theorem set_srt {leaf : Str} {M : Mak} (s : sortedS (keysOf M) = true) : ∀ r, sortedS (setR leaf M r) = true
  | 0 => (sortedS_iff [leaf]).mpr (List.pairwise_singleton _ _)
  | r + 1 => by
    rw [set_succ]
    exact sortedS_sub s (above_sub M _)
theorem set_nd {leaf : Str} {M : Mak} (d : (keysOf M).Nodup) : ∀ r, (setR leaf M r).Nodup
  | 0 => List.nodup_cons.mpr ⟨List.not_mem_nil, List.nodup_nil⟩
  | r + 1 => by
    rw [set_succ]
    exact d.sublist (above_sub M _)
theorem set_len {leaf : Str} {M : Mak} (v : Vld leaf M) (r : Nat) : (setR leaf M r).length ≤ 6 := v.few _ (set_nd v.nd r) (set_sub r)
theorem rows_len {leaf : Str} {M : Mak} (v : Vld leaf M) (r : Nat) : (rowsR leaf M r).length ≤ 6 := by
  have h := set_len v r
  unfold setR keysR at h
  rw [List.length_map] at h
  exact h
theorem rows_nd {leaf : Str} {M : Mak} (d : (keysOf M).Nodup) (r : Nat) : ((rowK (rowsR leaf M r)).map (·.1)).Nodup := by
  rw [rowK_keys]
  exact List.Pairwise.map Sum.inr (fun a b h q => h (Sum.inr.inj q)) (set_nd d r)
/-! ### sizes are small -/
theorem sum_le {l : List Nat} {b k : Nat} (h : ∀ x ∈ l, x ≤ b) (hl : l.length ≤ k) : l.sum ≤ k * b := by
  induction l generalizing k with
  | nil => exact Nat.zero_le _
  | cons x l ih =>
    rw [List.length_cons] at hl
    obtain ⟨j, rfl⟩ : ∃ j, k = j + 1 := ⟨k - 1, by omega⟩
    have h1 := h x List.mem_cons_self
    have h2 := ih (k := j) (fun y hy => h y (List.mem_cons_of_mem _ hy)) (by omega)
    rw [List.sum_cons, Nat.add_mul, Nat.one_mul]
    omega
theorem getR_le {R : Row} {b : Nat} (h : ∀ q ∈ R, q.2 ≤ b) (z : Str) : getR R z ≤ b := by
  unfold getR
  cases e : lookR R z with
  | none => exact Nat.zero_le _
  | some n =>
    unfold lookR at e
    obtain ⟨q, hq, e2⟩ := Option.map_eq_some_iff.mp e
    have := h q (List.mem_of_find?_eq_some hq)
    show n ≤ b
    omega
theorem rows_le {leaf : Str} {M : Mak} (v : Vld leaf M) : ∀ r, ∀ q ∈ rowsR leaf M r, q.2 ≤ 3 ^ r
  | 0, q, h => by
    rw [List.mem_singleton.mp h]
    exact Nat.le_refl 1
  | r + 1, q, h => by
    obtain ⟨m, hm, rfl⟩ := List.mem_map.mp (show q ∈ aboveR M (rowsR leaf M r) from h)
    have ih := rows_le v r
    obtain ⟨_, _, l3, _⟩ := v.parts m (List.mem_filter.mp hm).1
    have h1 := sum_le (l := m.2.map (getR (rowsR leaf M r))) (b := 3 ^ r) (k := 3) (fun x hx => by
      obtain ⟨z, _, rfl⟩ := List.mem_map.mp hx
      exact getR_le ih z) (by rw [List.length_map]; exact l3)
    show (m.2.map (getR (rowsR leaf M r))).sum ≤ 3 ^ (r + 1)
    rw [Nat.pow_succ]
    omega
/-! ### the sets come again -/
def subs : List Str → List (List Str)
  | [] => [[]]
  | a :: l => subs l ++ (subs l).map (a :: ·)
theorem subs_len : ∀ l : List Str, (subs l).length = 2 ^ l.length
  | [] => rfl
  | a :: l => by
    show (subs l ++ (subs l).map (a :: ·)).length = _
    rw [List.length_append, List.length_map, subs_len l, List.length_cons, Nat.pow_succ]
    omega
theorem subs_mem : ∀ {s l : List Str}, s.Sublist l → s ∈ subs l
  | _, _, .slnil => List.mem_singleton.mpr rfl
  | _, _, .cons a h => List.mem_append.mpr (.inl (subs_mem h))
  | _, _, .cons_cons a h => List.mem_append.mpr (.inr (List.mem_map.mpr ⟨_, subs_mem h, rfl⟩))
theorem nodup_len {α : Type} [DecidableEq α] : ∀ {xs ys : List α}, xs.Nodup → (∀ z ∈ xs, z ∈ ys) → xs.length ≤ ys.length
  | [], ys, _, _ => Nat.zero_le _
  | x :: xs, ys, hn, hs => by
    rw [List.nodup_cons] at hn
    have hx : x ∈ ys := hs x List.mem_cons_self
    have h1 := nodup_len (ys := ys.erase x) hn.2 fun z hz => (List.mem_erase_of_ne (fun e => hn.1 (by rw [e] at hz; exact hz))).mpr (hs z (List.mem_cons_of_mem _ hz))
    rw [List.length_erase_of_mem hx] at h1
    have : 0 < ys.length := List.length_pos_of_mem hx
    rw [List.length_cons]
    omega
theorem sorted_sublist {l m : List Str} (hl : sortedS l = true) (hm : sortedS m = true) (dl : l.Nodup) (dm : m.Nodup) (h : ∀ z ∈ l, z ∈ m) : l.Sublist m := by
  have e : l = m.filter (fun z => decide (z ∈ l)) := sorted_same hl (sortedS_sub hm List.filter_sublist) dl (dm.sublist List.filter_sublist) fun z => by
    rw [List.mem_filter, decide_eq_true_iff]
    exact ⟨fun q => ⟨h z q, q⟩, fun q => q.2⟩
  rw [e]
  exact List.filter_sublist
theorem set_again {leaf : Str} {M : Mak} {ns : List Str} (f : Fin6 leaf M ns) (n : Nat) (hn : ∀ i j, i < j → j ≤ n → setR leaf M i ≠ setR leaf M j) : n < 64 := by
  have nd : ((List.range (n + 1)).map (setR leaf M)).Nodup := by
    rw [List.nodup_iff_pairwise_ne, List.pairwise_map]
    refine List.Pairwise.imp_of_mem ?_ (List.pairwise_lt_range (n := n + 1))
    intro a b _ hb h
    exact hn a b h (by have := List.mem_range.mp hb; omega)
  have l6 : ns.length ≤ 6 := f.v.few ns f.n.nd fun z hz => (f.n.mem z).mp hz
  have h1 := nodup_len nd (ys := subs ns) fun s hs => by
    obtain ⟨i, _, rfl⟩ := List.mem_map.mp hs
    exact subs_mem (sorted_sublist (set_srt f.srt i) f.n.srt (set_nd f.v.nd i) f.n.nd fun z hz => (f.n.mem z).mpr (set_sub i z hz))
  rw [List.length_map, List.length_range, subs_len] at h1
  have : 2 ^ ns.length ≤ 2 ^ 6 := Nat.pow_le_pow_right (by omega) l6
  omega
/-- L ranks are not alike, and the one behind them is like the one at t -/
structure Turn (leaf : Str) (M : Mak) (L t : Nat) : Prop where
  lt : t < L
  few : L ≤ 64
  ne : ∀ i j, i < j → j < L → setR leaf M i ≠ setR leaf M j
  eq : setR leaf M t = setR leaf M L
end Kl

set_option maxRecDepth 100000
set_option maxHeartbeats 4000000
namespace L2
open PySem PySem.Spec PyProof.Rows
/-! ### own rules: list.remove of a text, sums of tuples -/
def eqS (z : Str) (u : Value) : Bool := match u with
  | .str y _ => y == z
  | _ => false
theorem eqS_gives {z : Str} {t : Tok} : ∀ {zs : List Str} {us : List Value}, Vals (zs.map V.str) us → ∀ y ∈ us, MeetsSeq.EqGives y (.str z t) (eqS z y)
  | [], _, .nil => fun y hy => nomatch hy
  | x :: zs, _, .cons r rest => fun y hy => by
    obtain ⟨k, rfl⟩ := r
    rcases List.mem_cons.mp hy with rfl | hy
    · show MeetsSeq.EqGives _ _ (x == z)
      rw [← SeqAt.str_beq]
      exact SeqRoads2.EqGives.str x z k t
    · exact eqS_gives rest y hy
theorem eqS_at {z : Str} : ∀ {zs : List Str} {us : List Value}, Vals (zs.map V.str) us → ∀ (m : Nat) (h : m < us.length), eqS z us[m] = true ↔ zs[m]? = some z
  | [], _, .nil, m, h => absurd h (Nat.not_lt_zero _)
  | x :: zs, _, .cons r rest, 0, _ => by
    obtain ⟨k, rfl⟩ := r
    show (x == z) = true ↔ some x = some z
    rw [beq_iff_eq, Option.some_inj]
  | x :: zs, _, .cons r rest, m + 1, h => eqS_at rest m (Nat.lt_of_succ_lt_succ h)
theorem erase_mapS : ∀ (l : List Str) (j : Nat), (l.map V.str).eraseIdx j = (l.eraseIdx j).map V.str
  | [], j => by simp
  | a :: r, 0 => by simp
  | a :: r, j + 1 => by
    have ih := erase_mapS r j
    simp [ih]
section
variable {X : Cx}
def rRemS : V → List V → Hp → VK → Prop := fun x xs H Q => ∃ (l : Addr) (zs : List Str) (z : Str) (j : Nat), x = .ref l ∧ xs = [.str z] ∧ H l = some (.lst (zs.map V.str)) ∧ zs[j]? = some z ∧ (∀ m : Nat, m < j → zs[m]? ≠ some z) ∧ Q .non (upd H l (.lst ((zs.eraseIdx j).map V.str)))
theorem mt_removeS : MtM X "list.remove" rRemS := by
  intro pins s σ H x xs v us Q I rx rxs h
  obtain ⟨l, zs, z, j, rfl, rfl, hH, hj, hno, q⟩ := h
  cases rx
  obtain ⟨u, rfl, ru⟩ := rxs.one
  obtain ⟨t, rfl⟩ := ru
  obtain ⟨hz, its, n, r, hl, e⟩ := I.lstM hH
  rw [List.length_map] at hl hz
  have hjn : j < zs.length := (List.getElem?_eq_some_iff.mp hj).1
  have hjl : j < its.toArray.size := by rw [List.size_toArray]; omega
  refine call_meets PySem.F.slot_list_remove ⟨_, e, rfl⟩ PySem.F.entry_list_remove (PySem.F.args_list_remove_2 _ _)
    (MeetsSeq.list_remove l its.toArray n (.str z t) (eqS z) (fun y hy => eqS_gives r y (by simpa using hy)) j hjl ?_ ?_ (by rw [List.size_toArray]; omega)) ⟨e, ?_⟩
  · exact (eqS_at r j (by simpa using hjl)).mpr hj
  · intro m hm hmj
    cases c : eqS z its.toArray[m] with
    | false => rfl
    | true => exact absurd ((eqS_at r m (by simpa using hm)).mp c) (hno m hmj)
  · have rr := r.eraseIdx j
    rw [erase_mapS] at rr
    refine ⟨.non, _, I.lset (its' := its.eraseIdx j) (t' := s.toks) hH e ?_ rr ?_, rfl, q⟩
    · show its.toArray.eraseIdxIfInBounds j = (its.eraseIdx j).toArray
      rw [List.eraseIdxIfInBounds_toArray]
    · rw [List.length_map]
      have : (zs.eraseIdx j).length ≤ zs.length := by rw [List.length_eraseIdx]; split <;> omega
      omega
/-- t + u, whichever object it is -/
def rCatC : R2 := fun x y H Q => ∃ a b xs ys, x = .ref a ∧ y = .ref b ∧ H a = some (.tup xs) ∧ H b = some (.tup ys) ∧ xs.length + ys.length ≤ sizeLine ∧ ∀ p G, (∀ c o, H c = some o → G c = some o) → G p = some (.tup (xs ++ ys)) → Q (.ref p) G
theorem op_catC : OpR X (binaryOp .Add) rCatC := by
  intro pins s σ H x y v u Q I rx ry h
  obtain ⟨a, b, xs, ys, rfl, rfl, ha, hb, hz, q⟩ := h
  refine op_catA pins s σ H _ _ v u Q I rx ry ⟨a, b, xs, ys, rfl, rfl, .inl (.inl ha), .inl (.inl hb), hz, fun e => q b H (fun _ _ e => e) (by rw [e]; exact hb), fun _ e => q a H (fun _ _ e => e) (by rw [e, List.append_nil]; exact ha), fun _ _ p np => q p _ (fun c o e => ?_) upd_same⟩
  rw [upd_ne (fun z => by rw [z, np] at e; cases e)]
  exact e
end
end L2

set_option maxRecDepth 100000
set_option maxHeartbeats 4000000
namespace Kl
open PySem PySem.Spec PyProof.Rows L2 Gx Mx
/-! ### rows: tuples of tuples of texts -/
def TxtsAt (K : PySem.W.Frag) (H : Hp) (L : List (Addr × List Str)) : Prop := ∀ q ∈ L, SqT K H q.1 (q.2.map V.str)
theorem sqT_sm {K : PySem.W.Frag} {H H' : Hp} (s : Same H H') {a : Addr} {xs : List V} (h : SqT K H a xs) : SqT K H' a xs := by
  rcases h with (h | ⟨o, h⟩) | h
  · exact .inl (.inl (s _ _ h))
  · exact .inl (.inr ⟨o, s _ _ h⟩)
  · exact .inr h
theorem tyx_sqT {K : PySem.W.Frag} {H : Hp} {p : Addr} {xs : List V} (h : SqT K H p xs) : TyX K H (.ref p) (.type "tuple") := by
  rcases h with (h | ⟨o, h⟩) | ⟨o, its, n, h, c, _⟩
  · exact .base (.tup h)
  · exact .fTuple h
  · exact .kTuple h c
structure RowAt (K : PySem.W.Frag) (H : Hp) (p : Addr) (LL : List (Addr × List Str)) : Prop where
  e : SqT K H p (LL.map fun q => V.ref q.1)
  t : TxtsAt K H LL
theorem RowAt.same {K : PySem.W.Frag} {H H' : Hp} {p : Addr} {LL : List (Addr × List Str)} (h : RowAt K H p LL) (s : Same H H') : RowAt K H' p LL := ⟨sqT_sm s h.e, fun q hq => sqT_sm s (h.t q hq)⟩
/-- a digit: at most 20 sorted names -/
def goodB (q : List Str) : Bool := decide (q.length ≤ 20) && (q.all nameB && sortedS q)
/-- not too great for the judges -/
def Few (qs : List (List Str)) : Prop := qs.length ≤ 1000 ∧ ∀ q ∈ qs, q.length ≤ 1000 ∧ ∀ z ∈ q, z.length ≤ 1000
section
variable {P : Program} {w : World} {K : PySem.W.Frag} {mg : Str → Option Value} {base : Heap}
/-! ### are_digits, are_loose_digits -/
def spDig (K : PySem.W.Frag) : Sp := fun vs H Q _ => ∃ (p : Addr) (LL : List (Addr × List Str)), vs = [V.ref p] ∧ RowAt K H p LL ∧ Few (LL.map (·.2)) ∧ ∀ H', Same H H' → Q (.bl (LL.all fun q => goodB q.2)) H'
abbrev NDG : List Str := ["value", "digit"]
theorem ok_dig {f : Addr} {fd : FuncData} (F : Fun K "are_digits" "are_digits" s_are_digits f fd) (T : Top K mg) : FnOk P w K mg base CX0 4 f fd ["value"] (spDig K) := by
  obtain ⟨tm, gm⟩ := T.g_LOOSE_DIGIT
  have cs : CalO P w K mg base 3 "is_sorted" ["value", "most"] 1 ["most"] (fun vs zs => vs ++ zs) (spSorted K) := T.d_is_sorted.calO fun f fd F => ok_sorted F T
  refine F.ok sc_are_digits (fun vs H Q E h => ?_) (fun cdv A outer s H vs Q E hr h => ?_)
  · obtain ⟨p, LL, rfl, _⟩ := h
    rfl
  · obtain ⟨p, LL, rfl, hR, hF, q⟩ := h
    refine ⟨_, pss_one (ps_ret (pe_and (pe_callB call_isi (by rfl) T.b_isinstance (by decide +kernel) (pa_cons (pv 0) (pa_cons (pe_bltn (v := .ty "tuple") (by rfl) T.b_tuple (by decide +kernel) rfl) pa_nil)))
      (pe_one (pe_callB (cr_all rfl) (by rfl) T.b_all (by decide +kernel) (pa_cons (pe_lc (own := [("digit", 1)]) (g := gName 1) (tt := tYes) rfl sc_are_digits.nd (pi_tup (pv 0))
        (blkOk_by (N := NDG) (sc := defScope s_are_digits) (by decide +kernel)) (fun _ _ _ _ _ => pg_name (i := 1) sc_are_digits.nd rfl (.inl rfl)) (fun _ _ _ _ _ => pts_nil)
        (fun _ _ _ _ _ => pe_calO cs hr (by rfl) (pa_cons (pv 1) pa_nil) (pk_cons (pe_glob (v := .int 20) (by rfl) gm ⟨_, rfl⟩) pk_nil))) pa_nil))))), ?_⟩
    have big : 100000 ≤ sizeLine := by decide
    refine ⟨_, rfl, _, .ty "tuple", .type "tuple", .type "tuple", true, rfl, .ty _, tyx_sqT hR.e, kit_ty (by decide +kernel), true, rfl, ?_⟩
    rw [if_pos rfl]
    have l1 : LL.length ≤ 1000 := by
      have := hF.1
      rw [List.length_map] at this
      exact this
    refine ⟨_, rfl, p, rfl, ⟨_, hR.e⟩, fun D hD => ?_⟩
    refine lc_it (g := gName 1) (tt := tYes) (vs := [1]) (walk_tup (K := K) (a := p) (xs := LL.map fun q => V.ref q.1)) (fun j G' => G' D = some (.lst (((LL.take j).map fun q => goodB q.2).map V.bl)) ∧ Same H G')
      ⟨upd_same, same_new (Same.refl H) hD⟩ (fun j G' _ h => sqT_sm h.2 hR.e) (fun j u Gx G' hj h hy => ?_) (fun G' h => ?_)
    · obtain ⟨eD, sm⟩ := h
      obtain ⟨rfl, hu⟩ := hy
      have hu : (LL.map fun q => V.ref q.1)[j]? = some u := hu
      rw [List.getElem?_map] at hu
      obtain ⟨q0, hq0, rfl⟩ := Option.map_eq_some_iff.mp hu
      have hm := List.mem_of_getElem? hq0
      obtain ⟨f1, f2⟩ := hF.2 q0.2 (List.mem_map.mpr ⟨_, hm, rfl⟩)
      have hs := sqT_sm sm (hR.t q0 hm)
      refine ⟨rfl, _, rfl, rfl, rfl, q0.1, q0.2, 20, rfl, hs, tyx_sqT hs, by decide, by decide, f1, f2, fun G3 s3 => ?_⟩
      refine ⟨_, s3 _ _ eD, ?_, ?_, fun b o e => by rw [upd_ne (ne_of_none e hD)]; exact s3 _ _ (sm b o e)⟩
      · rw [List.length_map, List.length_map, List.length_take]
        omega
      · rw [upd_same, take_snoc hq0, List.map_append, List.map_append]
        show some (HO.lst (_ ++ [V.bl _])) = some (HO.lst (_ ++ [V.bl (goodB q0.2)]))
        unfold goodB
        rw [show decide (((q0.2.length : Nat) : Int) ≤ 20) = decide (q0.2.length ≤ 20) by rw [decide_eq_decide]; omega]
    · obtain ⟨eD, sm⟩ := h
      rw [List.length_map, List.take_length] at eD
      refine ⟨D, _, rfl, .inl (.inl eD), ?_⟩
      rw [List.all_map]
      exact q G' sm
def spLDig (K : PySem.W.Frag) : Sp := fun vs H Q _ => ∃ (p : Addr) (LL : List (Addr × List Str)), vs = [V.ref p] ∧ RowAt K H p LL ∧ Few (LL.map (·.2)) ∧ ∀ H', Same H H' → Q (.bl (decide (LL.length ≤ 402) && LL.all fun q => goodB q.2)) H'
theorem ok_ldig {f : Addr} {fd : FuncData} (F : Fun K "are_loose_digits" "are_loose_digits" s_are_loose_digits f fd) (T : Top K mg) : FnOk P w K mg base CX0 5 f fd ["value"] (spLDig K) := by
  obtain ⟨tm, gm⟩ := T.g__LOOSE_RANKS
  have cd : Cal P w K mg base 4 "are_digits" ["value"] (spDig K) := T.d_are_digits.cal fun f fd F => ok_dig F T
  refine F.ok sc_are_loose_digits (fun vs H Q E h => ?_) (fun cdv A outer s H vs Q E hr h => ?_)
  · obtain ⟨p, LL, rfl, _⟩ := h
    rfl
  · obtain ⟨p, LL, rfl, hR, hF, q⟩ := h
    refine ⟨_, pss_one (ps_ret (pe_and (pe_callB call_isi (by rfl) T.b_isinstance (by decide +kernel) (pa_cons (pv 0) (pa_cons (pe_bltn (v := .ty "tuple") (by rfl) T.b_tuple (by decide +kernel) rfl) pa_nil)))
      (pe_and (pe_cmpR op_le (pe_callB call_len_seq (by rfl) T.b_len PySem.boot_len (pa_cons (pv 0) pa_nil)) (pe_glob (v := .int 402) (by rfl) gm ⟨_, rfl⟩) (nomark _))
        (pe_one (pe_cal cd hr (by rfl) (pa_cons (pv 0) pa_nil)))))), ?_⟩
    refine ⟨_, rfl, _, .ty "tuple", .type "tuple", .type "tuple", true, rfl, .ty _, tyx_sqT hR.e, kit_ty (by decide +kernel), true, rfl, ?_⟩
    rw [if_pos rfl]
    refine ⟨_, rfl, p, _, rfl, .inr hR.e, _, _, rfl, rfl, _, rfl, ?_⟩
    rw [List.length_map, show decide (((LL.length : Nat) : Int) ≤ 402) = decide (LL.length ≤ 402) by rw [decide_eq_decide]; omega]
    cases c : decide (LL.length ≤ 402) with
    | false =>
      rw [if_neg (by decide)]
      have h1 := q H (Same.refl H)
      rw [c, Bool.false_and] at h1
      exact h1
    | true =>
      rw [if_pos rfl]
      refine ⟨_, rfl, p, LL, rfl, hR, hF, fun H' s => ?_⟩
      have h1 := q H' s
      rw [c, Bool.true_and] at h1
      exact h1
end
end Kl

set_option maxRecDepth 100000
set_option maxHeartbeats 4000000
namespace Kl
open PySem PySem.Spec PyProof.Rows L2 Gx Mx
/-! ### t[a:b], t + u, whichever objects they are -/
def rSlS (K : PySem.W.Frag) : V → Option Int → Option Int → Hp → VK → Prop := fun x lo hi H Q => ∃ a xs, x = .ref a ∧ SqT K H a xs ∧ ∀ p G, Same H G → SqT K G p (cutV xs lo hi) → Q (.ref p) G
theorem cut_whole {xs : List V} {lo hi : Option Int} (h : HT.sIx xs.length 0 lo = 0 ∧ HT.sIx xs.length xs.length hi = xs.length) : cutV xs lo hi = xs := by
  unfold cutV
  rw [h.1, h.2, List.drop_zero, Nat.sub_zero, List.take_length]
theorem sl_tupS {X : Cx} : SlR X (rSlS X.K) := by
  intro pins s σ H x v vl vu lo hi sl Q I rx hs pl pu h
  obtain ⟨a, xs, rfl, ea, q⟩ := h
  exact sl_tupA pins s σ H _ v vl vu lo hi sl Q I rx hs pl pu ⟨a, xs, rfl, ea, fun hw => q a H (Same.refl H) (by rw [cut_whole hw]; exact ea), fun _ p np => q p _ (same_new (Same.refl H) np) (.inl (.inl upd_same))⟩
def rCatS (K : PySem.W.Frag) : R2 := fun x y H Q => ∃ a b xs ys, x = .ref a ∧ y = .ref b ∧ SqT K H a xs ∧ SqT K H b ys ∧ xs.length + ys.length ≤ sizeLine ∧ ∀ p G, Same H G → SqT K G p (xs ++ ys) → Q (.ref p) G
theorem op_catS {X : Cx} : OpR X (binaryOp .Add) (rCatS X.K) := by
  intro pins s σ H x y v u Q I rx ry h
  obtain ⟨a, b, xs, ys, rfl, rfl, ha, hb, hz, q⟩ := h
  refine op_catA pins s σ H _ _ v u Q I rx ry ⟨a, b, xs, ys, rfl, rfl, ha, hb, hz, fun e => q b H (Same.refl H) (by rw [e]; exact hb), fun _ e => q a H (Same.refl H) (by rw [e, List.append_nil]; exact ha), fun _ _ p np => q p _ (same_new (Same.refl H) np) (.inl (.inl upd_same))⟩
theorem cut_last {xs : List V} : cutV xs (some (-1)) none = xs.drop (xs.length - 1) := by
  unfold cutV
  have e : HT.sIx xs.length 0 (some (-1)) = xs.length - 1 := by
    show (if (-1 : Int) < 0 then ((-1 : Int) + (xs.length : Int)).toNat else min (-1 : Int).toNat xs.length) = _
    rw [if_pos (by decide)]
    omega
  rw [e, HT.sIx_none, List.take_of_length_le (by rw [List.length_drop]; omega)]
/-! ### data of rows -/
abbrev rD (qs : List (List Str)) : PyData := .tuple (qs.map fun z => .tuple (tD z))
theorem dp_refs {K : PySem.W.Frag} {H : Hp} : ∀ {LL : List (Addr × List Str)}, TxtsAt K H LL → DpAll K H (LL.map fun q => V.ref q.1) ((LL.map (·.2)).map fun z => PyData.tuple (tD z))
  | [], _ => .nil
  | q :: LL, h => .cons (.tup (h q List.mem_cons_self) (dp_texts _)) (dp_refs fun x hx => h x (List.mem_cons_of_mem _ hx))
theorem RowAt.dp {K : PySem.W.Frag} {H : Hp} {p : Addr} {LL : List (Addr × List Str)} (h : RowAt K H p LL) : Dp K H (.ref p) (rD (LL.map (·.2))) := .tup h.e (dp_refs h.t)
theorem row_all : ∀ {qs : List (List Str)}, (∀ q ∈ qs, ∀ z ∈ q, PyData.strOk z = true) → PyData.canLayAll0 (qs.map fun z => PyData.tuple (tD z)) = true ∧ PyData.depthAll (qs.map fun z => PyData.tuple (tD z)) ≤ 2
  | [], _ => ⟨rfl, Nat.zero_le _⟩
  | q :: qs, h => by
    obtain ⟨i1, i2⟩ := row_all (qs := qs) fun x hx => h x (List.mem_cons_of_mem _ hx)
    have c := canLay_texts q (h q List.mem_cons_self)
    have d := depth_texts q
    refine ⟨?_, ?_⟩
    · rw [List.map_cons, PyData.canLayAll0, i1]
      show (PyData.canLayAll0 (tD q) && true) = true
      rw [c]
      rfl
    · rw [List.map_cons, PyData.depthAll, PyData.depth]
      omega
theorem row_shaped {qs : List (List Str)} (h : ∀ q ∈ qs, ∀ z ∈ q, PyData.strOk z = true) : SeqAt.shaped (rD qs) = true := by
  obtain ⟨h1, h2⟩ := row_all h
  unfold SeqAt.shaped
  rw [Bool.and_eq_true]
  exact ⟨h1, decide_eq_true (by rw [PyData.depth]; omega)⟩
theorem eqv_rows : ∀ (xs ys : List (List Str)), PyData.eqvAll (xs.map fun z => PyData.tuple (tD z)) (ys.map fun z => PyData.tuple (tD z)) = decide (xs = ys)
  | [], [] => rfl
  | [], _ :: _ => rfl
  | _ :: _, [] => rfl
  | x :: xs, y :: ys => by
    rw [List.map_cons, List.map_cons, PyData.eqvAll, eqv_rows xs ys, PyData.eqv, eqv_texts]
    by_cases e : x = y
    · by_cases e2 : xs = ys
      · rw [decide_eq_true e, decide_eq_true e2, e, e2, decide_eq_true rfl]
        rfl
      · rw [decide_eq_true e, decide_eq_false e2, decide_eq_false (fun h => e2 (List.cons.inj h).2)]
        rfl
    · rw [decide_eq_false e, decide_eq_false (fun h => e (List.cons.inj h).1)]
      rfl
theorem eqv_row (xs ys : List (List Str)) : PyData.eqv (rD xs) (rD ys) = decide (xs = ys) := by
  rw [PyData.eqv]
  exact eqv_rows xs ys
theorem good_ok {q : List Str} (h : goodB q = true) : ∀ z ∈ q, PyData.strOk z = true := fun z hz => by
  unfold goodB at h
  rw [Bool.and_eq_true, Bool.and_eq_true] at h
  exact names_low (List.all_eq_true.mp h.2.1 z hz)
/-- a loose row -/
def looseB (qs : List (List Str)) : Bool := (decide (qs.length ≤ 402) && qs.all goodB) && !decide (qs.drop (qs.length - 1) = [[]])
section
variable {P : Program} {w : World} {K : PySem.W.Frag} {mg : Str → Option Value} {base : Heap}
/-! ### is_loose, digit_at, merged -/
def spLoose (K : PySem.W.Frag) : Sp := fun vs H Q _ => ∃ (p : Addr) (LL : List (Addr × List Str)), vs = [V.ref p] ∧ RowAt K H p LL ∧ Few (LL.map (·.2)) ∧ ∀ H', Same H H' → Q (.bl (looseB (LL.map (·.2)))) H'
theorem ok_loose {f : Addr} {fd : FuncData} (F : Fun K "is_loose" "is_loose" s_is_loose f fd) (T : Top K mg) : FnOk P w K mg base CX0 6 f fd ["value"] (spLoose K) := by
  have cd : Cal P w K mg base 5 "are_loose_digits" ["value"] (spLDig K) := T.d_are_loose_digits.cal fun f fd F => ok_ldig F T
  refine F.ok sc_is_loose (fun vs H Q E h => ?_) (fun cdv A outer s H vs Q E hr h => ?_)
  · obtain ⟨p, LL, rfl, _⟩ := h
    rfl
  · obtain ⟨p, LL, rfl, hR, hF, q⟩ := h
    refine ⟨_, pss_one (ps_ret (pe_and (pe_cal cd hr (by rfl) (pa_cons (pv 0) pa_nil)) (pe_one (pe_cmpR (op_neD hr.units) (pe_slice sl_tupS (pv 0) (po_some (pe_un un_neg pe_int)) po_none) (pe_tup (pa_cons (pe_tup pa_nil) pa_nil)) (by rfl))))), ?_⟩
    have ea : (LL.all fun q => goodB q.2) = (LL.map (·.2)).all goodB := by rw [List.all_map]; rfl
    refine ⟨_, rfl, p, LL, rfl, hR, hF, fun H1 s1 => ⟨_, rfl, ?_⟩⟩
    have h1 : ∀ H', Same H1 H' → Q (.bl (looseB (LL.map (·.2)))) H' := fun H' s => q H' fun b o e => s _ _ (s1 _ _ e)
    unfold looseB at h1
    rw [← ea, List.length_map] at h1
    cases c : (decide (LL.length ≤ 402) && LL.all fun q => goodB q.2) with
    | false =>
      rw [if_neg (by decide)]
      have h2 := h1 H1 (Same.refl H1)
      rw [c, Bool.false_and] at h2
      exact h2
    | true =>
      rw [if_pos rfl]
      have hg : ∀ q ∈ LL, goodB q.2 = true := by
        rw [Bool.and_eq_true] at c
        exact List.all_eq_true.mp c.2
      have hR1 := hR.same s1
      refine ⟨_, rfl, _, rfl, _, rfl, p, _, rfl, hR1.e, fun p2 G s2 hp2 => ?_⟩
      rw [cut_last, List.length_map, ← List.map_drop] at hp2
      have hR2 : RowAt K G p2 (LL.drop (LL.length - 1)) := ⟨hp2, fun q hq => sqT_sm s2 (hR1.t q (List.mem_of_mem_drop hq))⟩
      refine ⟨Nat.zero_le _, fun p3 n3 => ⟨by show 1 ≤ sizeLine; decide, fun p4 n4 => ?_⟩⟩
      have s3 := same_new (o := .tup []) (Same.refl G) n3
      have e3 : (upd G p3 (.tup [])) p3 = some (.tup []) := upd_same
      generalize upd G p3 (.tup []) = G3 at s3 e3 n4
      have s4 := same_new (o := .tup [V.ref p3]) (Same.refl G3) n4
      have hR4 : RowAt K (upd G3 p4 (.tup [V.ref p3])) p4 [(p3, [])] := ⟨.inl (.inl upd_same), fun q hq => by
        rw [List.mem_singleton.mp hq]
        exact .inl (.inl (s4 _ _ e3))⟩
      have s24 : Same G (upd G3 p4 (.tup [V.ref p3])) := fun b o e => s4 _ _ (s3 _ _ e)
      refine ⟨_, _, (hR2.same s24).dp, hR4.dp, row_shaped fun q hq => ?_, row_shaped fun q hq => ?_, ?_⟩
      · obtain ⟨x, hx, rfl⟩ := List.mem_map.mp hq
        exact good_ok (hg x (List.mem_of_mem_drop hx))
      · rw [List.mem_singleton.mp hq]
        exact nofun
      rw [eqv_row]
      have h2 := h1 _ fun b o e => s24 _ _ (s2 _ _ e)
      rw [c, Bool.true_and, ← List.map_drop] at h2
      exact h2
end
end Kl

set_option maxRecDepth 100000
set_option maxHeartbeats 4000000
namespace Kl
open PySem PySem.Spec PyProof.Rows L2 Gx Mx
theorem len_sum : ∀ l : List (List Str), (l.map fun q => ((q.length : Nat) : Int)).sum = (((l.map List.length).sum : Nat) : Int)
  | [] => rfl
  | p :: l => by
    rw [List.map_cons, List.sum_cons, len_sum l, List.map_cons, List.sum_cons, Int.natCast_add]
theorem call_lenK {X : Cx} {K : PySem.W.Frag} (hk : X.K = K) : CallR X (.builtin "len") (fun xs H Q => ∃ p ys, xs = [V.ref p] ∧ (SqL K H p ys ∨ SqT K H p ys) ∧ Q (V.int (ys.length : Nat)) H) := by
  subst hk
  exact call_len_seq
section
variable {P : Program} {w : World} {K : PySem.W.Frag} {mg : Str → Option Value} {base : Heap}
/-! ### _check_loose, trees_of -/
def spChkL (K : PySem.W.Frag) : Sp := fun vs H Q _ => ∃ (p : Addr) (LL : List (Addr × List Str)), vs = [V.ref p] ∧ RowAt K H p LL ∧ Few (LL.map (·.2)) ∧ looseB (LL.map (·.2)) = true ∧ ∀ H', Same H H' → Q .non H'
theorem ok_chkL {f : Addr} {fd : FuncData} (F : Fun K "_check_loose" "_check_loose" s_check_loose f fd) (T : Top K mg) : FnOk P w K mg base CX0 7 f fd ["row"] (spChkL K) := by
  have cl : Cal P w K mg base 6 "is_loose" ["value"] (spLoose K) := T.d_is_loose.cal fun f fd F => ok_loose F T
  refine F.ok sc_check_loose (fun vs H Q E h => ?_) (fun cdv A outer s H vs Q E hr h => ?_)
  · obtain ⟨p, LL, rfl, _⟩ := h
    rfl
  · obtain ⟨p, LL, rfl, hR, hF, hL, q⟩ := h
    refine ⟨_, pss_one (ps_if (pt_not (pt_val (pe_cal cl hr (by rfl) (pa_cons (pv 0) pa_nil)))) (pss_one ps_never) pss_nil), ?_⟩
    refine ⟨_, rfl, p, LL, rfl, hR, hF, fun H1 s1 => ⟨_, rfl, ?_⟩⟩
    rw [hL]
    show (if (!true) = true then _ else _)
    rw [if_neg (by decide)]
    exact q H1 s1
end
end Kl

set_option maxRecDepth 100000
set_option maxHeartbeats 4000000
namespace Kl
open PySem PySem.Spec PyProof.Rows L2 Gx Mx
theorem name_len {z : Str} (h : nameB z = true) : z.length ≤ 8 := by
  unfold nameB at h
  simp only [Bool.and_eq_true, decide_eq_true_eq] at h
  exact h.1.2
/-- the digit at a place, none is () -/
def dg (qs : List (List Str)) (i : Nat) : List Str := (qs[i]?).getD []
theorem dg_map (LL : List (Addr × List Str)) (i : Nat) : (LL[i]?.map (·.2)).getD [] = dg (LL.map (·.2)) i := by
  unfold dg
  rw [List.getElem?_map]
theorem loose_facts {qs : List (List Str)} (h : looseB qs = true) : qs.length ≤ 402 ∧ (∀ q ∈ qs, goodB q = true) ∧ ∀ j, j + 1 = qs.length → dg qs j ≠ [] := by
  unfold looseB at h
  rw [Bool.and_eq_true, Bool.and_eq_true] at h
  obtain ⟨⟨h1, h2⟩, h3⟩ := h
  refine ⟨of_decide_eq_true h1, List.all_eq_true.mp h2, fun j hj e => ?_⟩
  have hl : j < qs.length := by omega
  have e1 : qs.drop (qs.length - 1) = [qs[j]] := by
    rw [show qs.length - 1 = j by omega, List.drop_eq_getElem_cons hl, List.drop_eq_nil_of_le (by omega)]
  unfold dg at e
  rw [List.getElem?_eq_getElem hl] at e
  have e2 : qs[j] = [] := e
  rw [e1, e2, decide_eq_true rfl] at h3
  cases h3
theorem loose_of {qs : List (List Str)} (h1 : qs.length ≤ 402) (h2 : ∀ q ∈ qs, goodB q = true) (h3 : ∀ j, j + 1 = qs.length → dg qs j ≠ []) : looseB qs = true := by
  unfold looseB
  rw [decide_eq_true h1, List.all_eq_true.mpr h2, Bool.true_and, Bool.true_and]
  have e : ¬ qs.drop (qs.length - 1) = [[]] := fun e => by
    cases hq : qs.length with
    | zero =>
      have : qs = [] := List.eq_nil_of_length_eq_zero hq
      rw [this] at e
      cases e
    | succ j =>
      have hl : j < qs.length := by omega
      rw [show qs.length - 1 = j by omega, List.drop_eq_getElem_cons hl] at e
      refine h3 j hq.symm ?_
      unfold dg
      rw [List.getElem?_eq_getElem hl]
      exact (List.cons.inj e).1
  rw [decide_eq_false e]
  rfl
theorem dg_good {qs : List (List Str)} (h : ∀ q ∈ qs, goodB q = true) (i : Nat) : ∀ z ∈ dg qs i, nameB z = true := fun z hz => by
  unfold dg at hz
  cases e : qs[i]? with
  | none =>
    rw [e] at hz
    cases hz
  | some q =>
    rw [e] at hz
    have hg := h q (List.mem_of_getElem? e)
    unfold goodB at hg
    rw [Bool.and_eq_true, Bool.and_eq_true] at hg
    exact List.all_eq_true.mp hg.2.1 z hz
theorem sqT_lst {K : PySem.W.Frag} {G : Hp} {D a : Addr} {xs ys : List V} {o : HO} (e : G D = some (.lst xs)) (h : SqT K G a ys) : SqT K (upd G D o) a ys := by
  rcases h with (h | ⟨u, h⟩) | h
  · exact .inl (.inl (by rw [upd_ne (fun z => by rw [z, e] at h; cases h)]; exact h))
  · exact .inl (.inr ⟨u, by rw [upd_ne (fun z => by rw [z, e] at h; cases h)]; exact h⟩)
  · exact .inr h
section
variable {P : Program} {w : World} {K : PySem.W.Frag} {mg : Str → Option Value} {base : Heap}
/-! ### added -/
end
end Kl

set_option maxRecDepth 100000
set_option maxHeartbeats 4000000
namespace Kl
open PySem PySem.Spec PyProof.Rows L2 Gx Mx
section
variable {P : Program} {w : World} {K : PySem.W.Frag} {mg : Str → Option Value} {base : Heap}
/-! ### trimmed -/
theorem cut_to0 {xs : List V} (n : Nat) : cutV xs none (some ((n : Nat) : Int)) = xs.take n := by
  unfold cutV
  rw [HT.sIx_nat, HT.sIx_none, List.drop_zero, Nat.sub_zero]
  by_cases h : n ≤ xs.length
  · rw [Nat.min_eq_left h]
  · rw [Nat.min_eq_right (by omega), List.take_length, List.take_of_length_le (by omega)]
end
end Kl

set_option maxRecDepth 100000
set_option maxHeartbeats 4000000
namespace Kl
open PySem PySem.Spec PyProof.Rows L2 Gx Mx
theorem cps_app' (a b : Str) : (a ++ b).cps.toList = a.cps.toList ++ b.cps.toList := by
  show (a.cps ++ b.cps).toList = _
  rw [Array.toList_append]
theorem sum_by {n : Nat} : ∀ {q : List Str}, (∀ z ∈ q, z.length ≤ n) → (q.map (·.length)).sum ≤ q.length * n
  | [], _ => Nat.zero_le _
  | a :: r, h => by
    have h1 := h a List.mem_cons_self
    have h2 := sum_by fun z hz => h z (List.mem_cons_of_mem _ hz)
    rw [List.map_cons, List.sum_cons, List.length_cons, Nat.add_mul]
    omega
/-! ### digits and rows as texts -/
def parseD (z : Str) : Option (List Str) := if z = "0" then some [] else if goodB (Txt.split z "+") = true then some (Txt.split z "+") else none
def textD (q : List Str) : Str := if q = [] then "0" else Txt.join "+" q
def textR (qs : List (List Str)) : Str := if qs = [] then "-" else Txt.join " " (qs.map textD)
/-- all of them, if all are there -/
def allSome {α : Type} : List (Option α) → Option (List α)
  | [] => some []
  | none :: _ => none
  | some x :: r => (allSome r).map (x :: ·)
def parseR (z : Str) : Option (List (List Str)) := if z = "-" then some [] else
  match allSome ((Txt.split z " ").map parseD) with
  | none => none
  | some qs => if qs.drop (qs.length - 1) = [[]] then none else some qs
theorem le_sum : ∀ {l : List Str} {w : Str}, w ∈ l → w.length ≤ (l.map (·.length)).sum
  | a :: r, w, h => by
    rw [List.map_cons, List.sum_cons]
    rcases List.mem_cons.mp h with rfl | h
    · omega
    · have := le_sum h
      omega
theorem join_cut (z y : Str) : Txt.join y (Txt.split z y) = z := by
  rw [TL.join_eq]
  exact StrLaws.join_split z y
theorem split_ne (z y : Str) : Txt.split z y ≠ [] := fun h => by
  have := split_pos z y
  rw [h] at this
  exact absurd this (by decide)
theorem split_short {z y w : Str} (hy : 1 ≤ y.length) (h : w ∈ Txt.split z y) : w.length ≤ z.length := by
  have h1 := split_weight z y hy
  have h2 : w.length ≤ ((Txt.split z y).map (·.length)).sum := by
    exact le_sum h
  have h3 := split_pos z y
  omega
theorem parse_text {w : Str} {q : List Str} (h : parseD w = some q) : textD q = w ∧ goodB q = true := by
  unfold parseD at h
  split at h
  · rename_i e
    cases h
    exact ⟨e.symm, by decide +kernel⟩
  · split at h
    · rename_i e c
      cases h
      unfold textD
      rw [if_neg (split_ne w _), join_cut]
      exact ⟨rfl, c⟩
    · cases h
theorem low_no {z : Str} (h : nameB z = true) {c : Nat} (hc : c ∈ z.cps.toList) : 97 ≤ c ∧ c ≤ 122 := by
  unfold nameB at h
  rw [Bool.and_eq_true] at h
  have := List.all_eq_true.mp h.2 c hc
  exact of_decide_eq_true this
theorem good_names {q : List Str} (h : goodB q = true) : ∀ z ∈ q, nameB z = true := fun z hz => by
  unfold goodB at h
  rw [Bool.and_eq_true, Bool.and_eq_true] at h
  exact List.all_eq_true.mp h.2.1 z hz
theorem split_names {q : List Str} (h : ∀ z ∈ q, nameB z = true) (hne : q ≠ []) : Txt.split (Txt.join "+" q) "+" = q :=
  TL.split_join (s := 43) (S := []) (by decide +kernel) (by decide +kernel) hne fun p hp hc => by
    have := low_no (h p hp) hc
    omega
theorem text_parse {q : List Str} (h : goodB q = true) : parseD (textD q) = some q := by
  unfold textD
  split
  · rename_i e
    subst e
    decide +kernel
  · rename_i e
    have hs := split_names (good_names h) e
    have h0 : Txt.join "+" q ≠ "0" := fun c => by
      rw [c] at hs
      have h2 : Txt.split ("0" : Str) "+" = [("0" : Str)] := by decide +kernel
      rw [h2] at hs
      rw [← hs] at h
      exact absurd h (by decide +kernel)
    unfold parseD
    rw [if_neg h0, hs, if_pos h]
theorem allSome_map {α β : Type} {f : α → Option β} {g : α → β} : ∀ {xs : List α}, (∀ x ∈ xs, f x = some (g x)) → allSome (xs.map f) = some (xs.map g)
  | [], _ => rfl
  | x :: xs, h => by
    rw [List.map_cons, h x List.mem_cons_self]
    show (allSome (xs.map f)).map (g x :: ·) = _
    rw [allSome_map fun y hy => h y (List.mem_cons_of_mem _ hy)]
    rfl
theorem allSome_some {α : Type} : ∀ {xs : List (Option α)} {ys : List α}, allSome xs = some ys → xs = ys.map some
  | [], ys, h => by cases h; rfl
  | none :: _, _, h => by cases h
  | some x :: r, ys, h => by
    have h : (allSome r).map (x :: ·) = some ys := h
    cases e : allSome r with
    | none => rw [e] at h; cases h
    | some zs =>
      rw [e] at h
      cases h
      rw [allSome_some e]
      rfl
theorem allSome_none {α : Type} : ∀ {xs : List (Option α)}, allSome xs = none → none ∈ xs
  | none :: _, _ => List.mem_cons_self
  | some x :: r, h => by
    have h : (allSome r).map (x :: ·) = none := h
    cases e : allSome r with
    | none => exact List.mem_cons_of_mem _ (allSome_none e)
    | some zs => rw [e] at h; cases h
theorem textD_no {q : List Str} (h : goodB q = true) (c : Nat) (hc : c ∈ (textD q).cps.toList) : c = 48 ∨ c = 43 ∨ (97 ≤ c ∧ c ≤ 122) := by
  unfold textD at hc
  split at hc
  · left
    have : ("0" : Str).cps.toList = [48] := by decide +kernel
    rw [this] at hc
    exact List.mem_singleton.mp hc
  · rename_i e
    rw [TL.join_eq] at hc
    have hn := good_names h
    clear e h
    induction q with
    | nil => cases hc
    | cons a r ih =>
      cases r with
      | nil => exact .inr (.inr (low_no (hn a List.mem_cons_self) hc))
      | cons b r =>
        have hc : c ∈ (a ++ "+" ++ Str.join "+" (b :: r)).cps.toList := hc
        rw [cps_app', cps_app'] at hc
        rcases List.mem_append.mp hc with hc | hc
        · rcases List.mem_append.mp hc with hc | hc
          · exact .inr (.inr (low_no (hn a List.mem_cons_self) hc))
          · have : ("+" : Str).cps.toList = [43] := by decide +kernel
            rw [this] at hc
            exact .inr (.inl (List.mem_singleton.mp hc))
        · exact ih hc fun z hz => hn z (List.mem_cons_of_mem _ hz)
theorem split_digits {qs : List (List Str)} (h : ∀ q ∈ qs, goodB q = true) (hne : qs ≠ []) : Txt.split (Txt.join " " (qs.map textD)) " " = qs.map textD :=
  TL.split_join (s := 32) (S := []) (by decide +kernel) (by decide +kernel) (fun e => hne (List.map_eq_nil_iff.mp e)) fun p hp hc => by
    obtain ⟨q, hq, rfl⟩ := List.mem_map.mp hp
    have := textD_no (h q hq) 32 hc
    omega
theorem textR_parse {qs : List (List Str)} (h : looseB qs = true) : parseR (textR qs) = some qs := by
  unfold looseB at h
  rw [Bool.and_eq_true, Bool.and_eq_true] at h
  obtain ⟨⟨_, h1⟩, h2⟩ := h
  have h1 := List.all_eq_true.mp h1
  unfold textR
  split
  · rename_i e
    subst e
    decide +kernel
  · rename_i e
    have hs := split_digits h1 e
    have h0 : Txt.join " " (qs.map textD) ≠ "-" := fun c => by
      rw [c] at hs
      have h3 : Txt.split ("-" : Str) " " = [("-" : Str)] := by decide +kernel
      rw [h3] at hs
      cases qs with
      | nil => exact e rfl
      | cons q r =>
        have h4 : ("-" : Str) = textD q := (List.cons.inj hs).1
        have h5 := text_parse (h1 q List.mem_cons_self)
        rw [← h4] at h5
        have : parseD ("-" : Str) = none := by decide +kernel
        rw [this] at h5
        cases h5
    unfold parseR
    have h6 : allSome (qs.map (parseD ∘ textD)) = some qs := by
      rw [allSome_map (f := parseD ∘ textD) (g := id) fun q hq => text_parse (h1 q hq), List.map_id]
    rw [if_neg h0, hs, List.map_map, h6]
    have : ¬ qs.drop (qs.length - 1) = [[]] := fun c => by
      rw [decide_eq_true c] at h2
      cases h2
    show (if _ then _ else _) = _
    rw [if_neg this]
/-- what reading gives is written back -/
theorem parseR_text {z : Str} {qs : List (List Str)} (h : parseR z = some qs) (hl : (Txt.split z " ").length ≤ 402) : textR qs = z ∧ looseB qs = true := by
  unfold parseR at h
  split at h
  · rename_i e
    cases h
    exact ⟨e.symm, by decide +kernel⟩
  · cases e : allSome ((Txt.split z " ").map parseD) with
    | none => rw [e] at h; cases h
    | some rs =>
      rw [e] at h
      have h : (if rs.drop (rs.length - 1) = [[]] then none else some rs) = some qs := h
      split at h
      · cases h
      · rename_i c
        cases h
        have e2 := allSome_some e
        have e3 : (Txt.split z " ") = qs.map textD ∧ ∀ q ∈ qs, goodB q = true := by
          clear c e h
          generalize Txt.split z " " = ws at e2
          clear hl
          induction ws generalizing qs with
          | nil =>
            cases qs with
            | nil => exact ⟨rfl, nofun⟩
            | cons q r => cases e2
          | cons w ws ih =>
            cases qs with
            | nil => cases e2
            | cons q r =>
              rw [List.map_cons, List.map_cons] at e2
              obtain ⟨a, b⟩ := List.cons.inj e2
              obtain ⟨i1, i2⟩ := ih b
              obtain ⟨p1, p2⟩ := parse_text a
              refine ⟨by rw [List.map_cons, p1, i1], fun x hx => ?_⟩
              rcases List.mem_cons.mp hx with rfl | hx
              · exact p2
              · exact i2 x hx
        have hne : qs ≠ [] := fun q => by
          have := split_ne z " "
          rw [e3.1, q] at this
          exact this rfl
        refine ⟨?_, ?_⟩
        · unfold textR
          rw [if_neg hne, ← e3.1, join_cut]
        · unfold looseB
          rw [decide_eq_false c, List.all_eq_true.mpr e3.2, decide_eq_true]
          · rfl
          · rw [e3.1, List.length_map] at hl
            exact hl
/-! ### how long they are -/
theorem textD_len {q : List Str} (h : goodB q = true) : (textD q).length ≤ 200 := by
  unfold textD
  split
  · decide +kernel
  · rw [TL.join_eq]
    have h1 := StrLaws.join_length_le "+" q
    have h2 : q.length ≤ 20 := by
      unfold goodB at h
      rw [Bool.and_eq_true] at h
      exact of_decide_eq_true h.1
    have h3 : (q.map (·.length)).sum ≤ q.length * 8 := sum_by fun z hz => name_len (good_names h z hz)
    have h4 : ("+" : Str).length = 1 := by decide +kernel
    rw [h4] at h1
    omega
/-- a text that may be bent -/
structure Tx (n : Nat) (z : Str) : Prop where
  len : z.length ≤ 2100 + n
  few : z.cps.toList.count 32 ≤ 20 + n
  low : ∀ c ∈ z.cps.toList, c < 128
theorem cnt_count (c : Nat) : ∀ l : List Nat, cnt c l = (l.count c : Nat)
  | [] => rfl
  | x :: r => by
    rw [cnt_cons, cnt_count c r, List.count_cons]
    by_cases h : x = c
    · rw [if_pos h, h]
      simp
      omega
    · rw [if_neg h]
      simp [h]
theorem tx_split {n : Nat} {z : Str} (h : Tx n z) (hn : n ≤ 100) : (Txt.split z " ").length ≤ 402 := by
  have h1 := split_len z 32
  rw [cnt_count] at h1
  have h2 := h.few
  have h3 : (⟨#[32]⟩ : Str) = " " := by decide +kernel
  rw [h3] at h1
  omega
theorem tx_row {qs : List (List Str)} (h : ∀ q ∈ qs, goodB q = true) (hl : qs.length ≤ 10) : Tx 0 (textR qs) := by
  unfold textR
  split
  · exact ⟨by decide +kernel, by decide +kernel, by decide +kernel⟩
  · rename_i e
    refine ⟨?_, ?_, ?_⟩
    · rw [TL.join_eq]
      have h1 := StrLaws.join_length_le " " (qs.map textD)
      have h3 : ((qs.map textD).map (·.length)).sum ≤ (qs.map textD).length * 200 := sum_by fun z hz => by
        obtain ⟨q, hq, rfl⟩ := List.mem_map.mp hz
        exact textD_len (h q hq)
      have h4 : (" " : Str).length = 1 := by decide +kernel
      rw [h4] at h1
      rw [List.length_map] at h1 h3
      omega
    · have h1 := split_len (Txt.join " " (qs.map textD)) 32
      have h3 : (⟨#[32]⟩ : Str) = " " := by decide +kernel
      rw [cnt_count, h3, split_digits h e, List.length_map] at h1
      omega
    · intro c hc
      rw [TL.join_eq] at hc
      clear e hl
      induction qs with
      | nil => cases hc
      | cons a r ih =>
        have hD : ∀ {c : Nat}, c ∈ (textD a).cps.toList → c < 128 := fun {c} hc => by
          have := textD_no (h a List.mem_cons_self) c hc
          omega
        cases r with
        | nil => exact hD hc
        | cons b r =>
          have hc : c ∈ (textD a ++ " " ++ Str.join " " ((b :: r).map textD)).cps.toList := hc
          rw [cps_app', cps_app'] at hc
          rcases List.mem_append.mp hc with hc | hc
          · rcases List.mem_append.mp hc with hc | hc
            · exact hD hc
            · have : (" " : Str).cps.toList = [32] := by decide +kernel
              rw [this] at hc
              rw [List.mem_singleton.mp hc]
              decide
          · exact ih (fun q hq => h q (List.mem_cons_of_mem _ hq)) hc
end Kl

set_option maxRecDepth 100000
set_option maxHeartbeats 4000000
namespace Kl
open PySem PySem.Spec PyProof.Rows L2 Gx Mx
section
variable {P : Program} {w : World} {K : PySem.W.Frag} {mg : Str → Option Value} {base : Heap}
/-! ### is_sorted of many texts -/
def spSortL (K : PySem.W.Frag) : Sp := fun vs H Q _ => ∃ (p : Addr) (zs : List Str) (M : Int), vs = [.ref p, .int M] ∧ SqT K H p (zs.map V.str) ∧ TyX K H (.ref p) (.type "tuple") ∧ 0 ≤ M ∧ M ≤ 100 ∧ zs.length ≤ 5000 ∧ (∀ z ∈ zs, z.length ≤ 5000) ∧
  ∀ H', Same H H' → Q (.bl (decide ((zs.length : Int) ≤ M) && (zs.all nameB && sortedS zs))) H'
theorem ok_sortL {f : Addr} {fd : FuncData} (F : Fun K "is_sorted" "is_sorted" s_is_sorted f fd) (T : Top K mg) : FnOk P w K mg base CX0 3 f fd ["value", "most"] (spSortL K) := by
  have cc : Cal P w K mg base 2 "is_count" ["value"] (spCnt K) := T.d_is_count.cal fun f fd F => ok_cnt F T
  have cn : Cal P w K mg base 2 "is_name" ["value"] (spName K) := (T.d_is_name.cal fun f fd F => ok_name F T).mono (by decide)
  refine F.ok sc_is_sorted (fun vs H Q E h => ?_) (fun cdv A outer s H vs Q E hr h => ?_)
  · obtain ⟨p, zs, M, rfl, _⟩ := h
    rfl
  · obtain ⟨p, zs, M, rfl, hp, hT, hM, hM2, hlen, hz, hq⟩ := h
    refine ⟨_, pss_cons (ps_if (pt_not (pt_val (pe_cal cc hr (by rfl) (pa_cons (pv 1) pa_nil)))) (pss_one ps_never) pss_nil)
      (pss_cons (ps_if (PW.pt (pw_or (pt_not (pt_val (pe_callB call_isi (by rfl) T.b_isinstance (by decide +kernel) (pa_cons (pv 0) (pa_cons (pe_bltn (v := .ty "tuple") (by rfl) T.b_tuple (by decide +kernel) rfl) pa_nil)))))
          (pw_or1 (pt_cmpR op_gt (pe_callB call_len_seq (by rfl) T.b_len PySem.boot_len (pa_cons (pv 0) pa_nil)) (pv 1) (nomark _))))) (pss_one (ps_ret pe_bl)) pss_nil)
      (pss_cons (ps_if (pt_not (pt_val (pe_callB (cr_all rfl) (by rfl) T.b_all (by decide +kernel) (pa_cons (pe_lc (own := [("name", 2)]) (g := gName 2) (tt := tYes) rfl sc_is_sorted.nd (pi_tup (pv 0))
            (blkOk_by (N := ["value", "most", "name"]) (sc := defScope s_is_sorted) (by decide +kernel))
            (fun _ _ _ _ _ => pg_name (i := 2) sc_is_sorted.nd rfl (.inl rfl)) (fun _ _ _ _ _ => pts_nil) (fun _ _ _ _ _ => pe_cal cn hr (by rfl) (pa_cons (pv 2) pa_nil))) pa_nil)))) (pss_one (ps_ret pe_bl)) pss_nil)
      (pss_one (ps_ret (pe_cmpR (op_eqD hr.units) (pe_callTy call_list_of (by rfl) T.b_list (by decide +kernel) (pa_cons (pv 0) pa_nil)) (pe_callB cr_sortedTS (by rfl) T.b_sorted (by decide +kernel) (pa_cons (pv 0) pa_nil)) (nomark _)))))), ?_⟩
    have hc : cntV (.int M) = true := by
      show ((decide (-TEN60 < M) && decide (M < TEN60)) && decide (0 ≤ M)) = true
      rw [decide_eq_true (show -TEN60 < M by unfold TEN60; omega), decide_eq_true (show M < TEN60 by unfold TEN60; omega), decide_eq_true hM]
      rfl
    refine ⟨_, rfl, .int M, rfl, .inl ⟨M, rfl⟩, _, rfl, ?_⟩
    rw [hc]
    refine ⟨_, rfl, _, .ty "tuple", .type "tuple", .type "tuple", true, rfl, .ty _, hT, kit_ty (by decide +kernel), true, rfl, ?_⟩
    refine ⟨_, rfl, p, _, rfl, .inr hp, _, rfl, _, _, rfl, rfl, _, rfl, ite2 (fun e => ?_) (fun e => ?_)⟩
    · have e1 : decide ((zs.length : Int) ≤ M) = false := decide_eq_false (by
        have := of_decide_eq_true e
        rw [List.length_map] at this
        omega)
      rw [e1, Bool.false_and] at hq
      exact hq H (Same.refl H)
    · have e1 : decide ((zs.length : Int) ≤ M) = true := decide_eq_true (by
        have : ¬ (M < ((zs.map V.str).length : Int)) := fun z => e (decide_eq_true z)
        rw [List.length_map] at this
        omega)
      rw [e1, Bool.true_and] at hq
      refine ⟨_, rfl, p, rfl, ⟨_, hp⟩, fun D hD => ?_⟩
      refine lc_tup (xs := zs.map V.str) (fun j H2 => H2 D = some (.lst ((zs.take j).map fun z => V.bl (nameB z))) ∧ Same H H2) ⟨upd_same, fun b u e => by rw [upd_ne (ne_of_none e hD)]; exact e⟩ (fun j H2 _ hP => ?_) (fun j x H2 hj hP => ?_) (fun H2 hP => ?_)
      · rcases hp with (h | ⟨u, h⟩) | h
        · exact .inl (.inl (hP.2 _ _ h))
        · exact .inl (.inr ⟨u, hP.2 _ _ h⟩)
        · exact .inr h
      · obtain ⟨eD, sm⟩ := hP
        obtain ⟨z, hzj, rfl⟩ : ∃ z, zs[j]? = some z ∧ V.str z = x := by
          rw [List.getElem?_map] at hj
          cases e : zs[j]? with
          | none => rw [e] at hj; cases hj
          | some z => rw [e] at hj; exact ⟨z, rfl, by cases hj; rfl⟩
        refine ⟨rfl, _, rfl, _, rfl, .inl ⟨z, rfl, Nat.le_trans (hz z (List.mem_of_getElem? hzj)) (by decide)⟩, _, eD, ?_, ?_, fun b u e => by rw [upd_ne (ne_of_none e hD)]; exact sm b u e⟩
        · rw [List.length_map, List.length_take]
          exact Nat.lt_of_le_of_lt (Nat.le_trans (Nat.min_le_right _ _) hlen) (by decide)
        · rw [upd_same, List.take_add_one, hzj, List.map_append]
          rfl
      · obtain ⟨eD, sm⟩ := hP
        rw [List.length_map, List.take_length] at eD
        refine ⟨D, zs.map nameB, rfl, .inl (.inl (by rw [eD, List.map_map]; rfl)), _, rfl, ?_⟩
        have ea : (zs.map nameB).all id = zs.all nameB := by rw [List.all_map]; rfl
        rw [ea]
        cases hall : zs.all nameB with
        | false =>
          rw [hall, Bool.false_and] at hq
          exact hq _ sm
        | true =>
          rw [hall, Bool.true_and] at hq
          have hok : ∀ z ∈ zs, PyData.strOk z = true := fun z hz => names_low (List.all_eq_true.mp hall z hz)
          have hp2 : SqT K H2 p (zs.map V.str) := by
            rcases hp with (h | ⟨u, h⟩) | h
            · exact .inl (.inl (sm _ _ h))
            · exact .inl (.inr ⟨u, sm _ _ h⟩)
            · exact .inr h
          refine ⟨_, rfl, p, _, rfl, .inr hp2, fun l nl => ?_⟩
          have sm2 : Same H (upd H2 l (.lst (zs.map V.str))) := fun b u e => by rw [upd_ne (ne_of_none (sm b u e) nl)]; exact sm b u e
          have hp3 : SqT K (upd H2 l (.lst (zs.map V.str))) p (zs.map V.str) := by
            rcases hp with (h | ⟨u, h⟩) | h
            · exact .inl (.inl (sm2 _ _ h))
            · exact .inl (.inr ⟨u, sm2 _ _ h⟩)
            · exact .inr h
          refine ⟨_, rfl, p, zs, rfl, hp3, by omega, fun ys l2 hperm hsrt nl2 => ?_⟩
          refine ⟨.list (tD zs), .list (tD ys), ?_, ?_, shaped_texts hok, shaped_texts (fun z hz => hok z (hperm.mem_iff.mp hz)), ?_⟩
          · exact .lst (.inl (.inl (by rw [upd_ne (ne_of_none upd_same nl2), upd_same]))) (dp_texts zs)
          · exact .lst (.inl (.inl upd_same)) (dp_texts ys)
          · rw [PyData.eqv, eqv_texts, eq_sorted_iff hperm hsrt]
            exact hq _ (fun b u e => by rw [upd_ne (ne_of_none (sm2 b u e) nl2)]; exact sm2 b u e)
end
end Kl

set_option maxRecDepth 100000
set_option maxHeartbeats 4000000
namespace Kl
open PySem PySem.Spec PyProof.Rows L2 Gx Mx
theorem erase_map {α β : Type} (f : α → β) : ∀ (l : List α) (k : Nat), (l.map f).eraseIdx k = (l.eraseIdx k).map f
  | [], _ => rfl
  | _ :: _, 0 => rfl
  | x :: l, k + 1 => congrArg (f x :: ·) (erase_map f l k)
theorem erase_perm {α : Type} : ∀ (l : List α) (k : Nat) (x : α), l[k]? = some x → (x :: l.eraseIdx k).Perm l
  | [], _, _, h => by simp at h
  | y :: l, 0, x, h => by
    simp at h
    subst h
    exact List.Perm.refl _
  | y :: l, k + 1, x, h => by
    have ih := erase_perm l k x h
    exact (List.Perm.swap y x (l.eraseIdx k)).trans (ih.cons y)
section
variable {P : Program} {w : World} {K : PySem.W.Frag} {mg : Str → Option Value} {base : Heap}
/-! ### _law_mixed -/
def spMixed (K : PySem.W.Frag) : Sp := fun vs H Q _ => ∃ (d p : Addr) (zs : List Str), vs = [.ref d, .ref p] ∧ DiceAt H d ∧ p ≠ d ∧ SqL K H p (zs.map V.str) ∧ zs.length ≤ 1000 ∧
  ∀ (q : Addr) (H' : Hp) (ys : List Str), ys.Perm zs → H q = none → H' q = some (.lst (ys.map V.str)) → SameX d H H' → DiceAt H' d → Q (.ref q) H'
theorem seqI {r : Int} {n : Nat} (h0 : 0 ≤ r) (h1 : r < n) : seqIndex? r n = some r.toNat := by
  have e : ¬ r < 0 := by omega
  simp [seqIndex?, e, h0, h1]
theorem ok_mixed {f : Addr} {fd : FuncData} (F : Fun K "_law_mixed" "_law_mixed" s_law_mixed f fd) (T : Top K mg) : FnOk P w K mg base CX0 2 f fd ["_law_dice_here", "_law_items"] (spMixed K) := by
  have cr : Cal P w K mg base 1 "_law_roll" ["_law_dice_here", "_law_total"] spRoll := T.d_law_roll.cal fun f fd F => ok_roll F T
  refine F.ok sc_law_mixed (fun vs H Q E h => ?_) (fun cdv A outer s H vs Q E hr h => ?_)
  · obtain ⟨d, p, zs, rfl, _⟩ := h
    rfl
  · obtain ⟨d, p, zs, rfl, hd, hpd, hs, hl, q⟩ := h
    refine ⟨_, pss_cons (ps_par (i := 2) (j := 3) rfl sc_law_mixed.nd rfl rfl (by decide) rfl rfl (pa_cons (pe_callTy call_list_of (by rfl) T.b_list (by decide +kernel) (pa_cons (pv 1) pa_nil)) (pa_cons (pe_lst pa_nil) pa_nil)) rfl)
      (pss_cons (ps_for PassesOwn.never rfl (pi_range1 (by rfl) T.b_range (pa_cons (pe_callB call_len_seq (by rfl) T.b_len PySem.boot_len (pa_cons (pv 1) pa_nil)) pa_nil)) (pg_name (i := 4) sc_law_mixed.nd rfl (.inl rfl))
        (pss_one (ps_expr (pe_bm PySem.F.plainAttrs_list PySem.F.slot_list_append PySem.F.type_list_append mt_append (pv 3) (pa_cons
          (pe_bm PySem.F.plainAttrs_list PySem.F.slot_list_pop PySem.F.type_list_pop mt_popAt (pv 2) (pa_cons (pe_cal cr hr (by rfl) (pa_cons (pv 0) (pa_cons (pe_callB call_len_seq (by rfl) T.b_len PySem.boot_len (pa_cons (pv 2) pa_nil)) pa_nil))) pa_nil)) pa_nil)))))
      (pss_one (ps_ret (pv 3)))), ?_⟩
    have ln : (zs.map V.str).length = zs.length := List.length_map _
    refine ⟨_, rfl, p, _, rfl, .inl hs, fun l nl => ?_⟩
    have hld : l ≠ d := dice_ne hd nl
    refine ⟨Nat.zero_le _, fun q' nq => ?_⟩
    have hql : q' ≠ l := fun z => by
      rw [z, upd_same] at nq
      cases nq
    have nq0 : H q' = none := by rwa [upd_ne hql] at nq
    have hqd : q' ≠ d := dice_ne hd nq0
    have hp2 : SqL K (upd (upd H l (.lst (zs.map V.str))) q' (.lst [])) p (zs.map V.str) := by
      have s2 : Same H (upd (upd H l (.lst (zs.map V.str))) q' (.lst [])) := same_new (same_new (Same.refl H) nl) nq
      rcases hs with (h | ⟨o, h⟩) | h
      · exact .inl (.inl (s2 _ _ h))
      · exact .inl (.inr ⟨o, s2 _ _ h⟩)
      · exact .inr h
    refine ⟨_, _, rfl, _, rfl, p, _, rfl, .inl hp2, _, rfl, by omega, by omega, ?_⟩
    rw [ln]
    refine for_range (lo := 0) (fun i σ' H' => ∃ t, ∃ ls fs : List Str, σ' = [some (.ref d), some (.ref p), some (.ref l), some (.ref q'), t] ∧ H' l = some (.lst (ls.map V.str)) ∧ H' q' = some (.lst (fs.map V.str)) ∧ fs.length = i ∧ (fs ++ ls).Perm zs ∧ SameX d H H' ∧ DiceAt H' d)
      ⟨none, zs, [], rfl, ?_, upd_same, rfl, List.Perm.refl _, ?_, ?_⟩ (fun i σ' H' hi hP => ?_) (fun σ' H' hP => ?_)
    · rw [upd_ne hql.symm, upd_same]
    · exact ((SameX.refl d H).at nl).at nq0
    · exact dice_upd (dice_upd hd hld) hqd
    · obtain ⟨t, ls, fs, rfl, el, eq, lf, hp, sx, hd'⟩ := hP
      have lz := hp.length_eq
      rw [List.length_append] at lz
      have l1 : 0 < ls.length := by omega
      have lm : (ls.map V.str).length = ls.length := List.length_map _
      refine ⟨_, rfl, ⟨.inl ⟨rfl, _, .inl (.inl eq)⟩, ?_⟩⟩
      refine ⟨_, rfl, ⟨.inl ⟨rfl, _, .inl (.inl el)⟩, ?_⟩⟩
      refine ⟨_, rfl, _, rfl, l, _, rfl, .inl (.inl (.inl el)), d, _, rfl, hd', by rw [lm]; omega, by rw [lm]; exact log2_small (by omega), fun r x b c h0 h1 => ?_⟩
      rw [lm] at h1
      obtain ⟨k, rfl⟩ := Int.eq_ofNat_of_zero_le h0
      have hk : k < ls.length := by omega
      have ek : (ls.map V.str)[k]? = some (.str ls[k]) := by rw [List.getElem?_map, List.getElem?_eq_getElem hk]; rfl
      refine ⟨l, ls.map V.str, (k : Int), k, _, rfl, rfl, by rw [upd_ne hld]; exact el, by omega, by omega, by rw [lm]; exact seqI h0 h1, ek, ?_⟩
      refine ⟨q', fs.map V.str, _, rfl, rfl, by rw [upd_ne hql, upd_ne hqd]; exact eq, ?_, ?_⟩
      · rw [List.length_map]
        exact Nat.lt_of_le_of_lt (show fs.length ≤ 1000 by omega) (by decide)
      · refine ⟨_, ls.eraseIdx k, fs ++ [ls[k]], rfl, ?_, ?_, by rw [List.length_append, lf]; rfl, ?_, ?_, ?_⟩
        · rw [upd_ne hql.symm, upd_same, erase_map]
        · rw [upd_same, List.map_append]
          rfl
        · have e1 := erase_perm ls k _ (List.getElem?_eq_getElem hk)
          rw [List.append_assoc]
          exact (e1.append_left fs).trans hp
        · exact (sx.atd.at nl).at nq0
        · exact dice_upd (dice_upd (dice_new x b c) hld) hqd
    · obtain ⟨t, ls, fs, rfl, el, eq, lf, hp, sx, hd'⟩ := hP
      have lz := hp.length_eq
      rw [List.length_append] at lz
      have e0 : ls = [] := List.eq_nil_of_length_eq_zero (by omega)
      rw [e0, List.append_nil] at hp
      exact ⟨_, rfl, q q' H' fs hp nq0 eq sx hd'⟩
end
end Kl

set_option maxRecDepth 100000
set_option maxHeartbeats 4000000
namespace Kl
open PySem PySem.Spec PyProof.Rows L2 Gx Mx
def EIGHT : List Str := ["a", "b", "ab", "aa", "leaf", "page", "to", "zzzzzzzz"]
theorem eight_nd : EIGHT.Nodup := by decide +kernel
theorem eight_ok : EIGHT.all nameB = true := by decide +kernel
section
variable {P : Program} {w : World} {K : PySem.W.Frag} {mg : Str → Option Value} {base : Heap}
/-! ### _law_pool_names, _law_drawn_digit -/
def spPN : Sp := fun vs H Q _ => ∃ (d : Addr) (n : Nat), vs = [.ref d, .int (n : Nat)] ∧ n ≤ 8 ∧ DiceAt H d ∧
  ∀ (p : Addr) (zs : List Str) H', SameX d H H' → DiceAt H' d → H p = none → H' p = some (.lst (zs.map V.str)) → zs.Nodup → (∀ z ∈ zs, z ∈ EIGHT) → zs.length = n → Q (.ref p) H'
theorem ok_pn {f : Addr} {fd : FuncData} (F : Fun K "_law_pool_names" "_law_pool_names" s_law_pool_names f fd) (T : Top K mg) : FnOk P w K mg base CX0 3 f fd ["_law_dice_here", "_law_many"] spPN := by
  have cm : Cal P w K mg base 2 "_law_mixed" ["_law_dice_here", "_law_items"] (spMixed K) := T.d_law_mixed.cal fun f fd F => ok_mixed F T
  refine F.ok sc_law_pool_names (fun vs H Q E h => ?_) (fun cdv A outer s H vs Q E hr h => ?_)
  · obtain ⟨d, n, rfl, _⟩ := h
    rfl
  · obtain ⟨d, n, rfl, hn, hd, q⟩ := h
    refine ⟨_, pss_one (ps_ret (pe_slice sl_list (pe_cal cm hr (by rfl) (pa_cons (pv 0) (pa_cons (pe_lst (pa_cons pe_str (pa_cons pe_str (pa_cons pe_str (pa_cons pe_str (pa_cons pe_str (pa_cons pe_str (pa_cons pe_str (pa_cons pe_str pa_nil))))))))) pa_nil))) po_none (po_some (pv 1)))), ?_⟩
    have big : 100000 ≤ sizeLine := by decide
    refine ⟨_, rfl, by show 8 ≤ sizeLine; omega, fun pool np => ?_⟩
    have hpd : pool ≠ d := dice_ne hd np
    have hd1 := dice_upd (o := .lst (EIGHT.map V.str)) hd hpd
    have sx1 : SameX d H (upd H pool (.lst (EIGHT.map V.str))) := (SameX.refl d H).at np
    refine ⟨d, pool, EIGHT, rfl, hd1, hpd, .inl (.inl upd_same), by decide, fun lm H2 ys hperm nlm elm sx2 hd2 => ?_⟩
    have sxa := sx1.trans sx2
    have hlmd : lm ≠ d := dice_ne hd1 nlm
    have l8 : ys.length = 8 := hperm.length_eq
    refine ⟨_, rfl, _, rfl, lm, _, rfl, .inl (.inl elm), fun l nl => ?_⟩
    have ec : cutV (ys.map V.str) none (some ((n : Nat) : Int)) = (ys.take n).map V.str := by
      rw [cut_to0, List.map_take]
    rw [ec]
    have hld : l ≠ d := dice_ne hd2 nl
    refine q l (ys.take n) _ (sxa.new nl) (dice_upd hd2 hld) (sxa.free hld nl) upd_same ((hperm.nodup_iff.mpr eight_nd).sublist (List.take_sublist _ _)) (fun z hz => hperm.mem_iff.mp (List.mem_of_mem_take hz)) ?_
    rw [List.length_take]
    omega
def spDD (K : PySem.W.Frag) : Sp := fun vs H Q _ => ∃ (d nl : Addr) (ns : List Str) (m : Nat), vs = [.ref d, .ref nl, .int (m : Nat)] ∧ m ≤ 20 ∧ DiceAt H d ∧ H nl = some (.lst (ns.map V.str)) ∧ ns ≠ [] ∧ ns.length ≤ 100 ∧
  ∀ (p : Addr) (zs : List Str) H', SameX d H H' → DiceAt H' d → H p = none → H' p = some (.tup (zs.map V.str)) → sortedS zs = true → zs.length ≤ m → (∀ z ∈ zs, z ∈ ns) → Q (.ref p) H'
abbrev NDD : List Str := ["_law_dice_here", "_law_names", "_law_most", "_law_turn"]
theorem ok_dd {f : Addr} {fd : FuncData} (F : Fun K "_law_drawn_digit" "_law_drawn_digit" s_law_drawn_digit f fd) (T : Top K mg) : FnOk P w K mg base CX0 3 f fd ["_law_dice_here", "_law_names", "_law_most"] (spDD K) := by
  have cr : Cal P w K mg base 2 "_law_roll" ["_law_dice_here", "_law_total"] spRoll := (T.d_law_roll.cal fun f fd F => ok_roll F T).mono (by decide)
  have cp : Cal P w K mg base 2 "_law_pick" ["_law_dice_here", "_law_items"] (spPick K) := T.d_law_pick.cal fun f fd F => ok_pick F T
  refine F.ok sc_law_drawn_digit (fun vs H Q E h => ?_) (fun cdv A outer s H vs Q E hr h => ?_)
  · obtain ⟨d, nl, ns, m, rfl, _⟩ := h
    rfl
  · obtain ⟨d, nl, ns, m, rfl, hm, hd, enl, hne, hns, q⟩ := h
    refine ⟨_, pss_one (ps_ret (pe_callTy call_tuple_of (by rfl) T.b_tuple (by decide +kernel) (pa_cons (pe_callB cr_sortedS (by rfl) T.b_sorted (by decide +kernel) (pa_cons
        (pe_lc (own := [("_law_turn", 3)]) (g := gName 3) (tt := tYes) rfl sc_law_drawn_digit.nd (pi_range1 (by rfl) T.b_range (pa_cons (pe_cal cr hr (by rfl) (pa_cons (pv 0) (pa_cons (pe_op op_add (pv 2) pe_int) pa_nil))) pa_nil))
          (blkOk_by (N := NDD) (sc := defScope s_law_drawn_digit) (by decide +kernel)) (fun _ _ _ _ _ => pg_name (i := 3) sc_law_drawn_digit.nd rfl (.inl rfl)) (fun _ _ _ _ _ => pts_nil)
          (fun _ _ _ _ _ => pe_cal cp hr (by rfl) (pa_cons (pv 0) (pa_cons (pv 1) pa_nil)))) pa_nil)) pa_nil))), ?_⟩
    have big : 100000 ≤ sizeLine := by decide
    have nld : nl ≠ d := fun z => by
      obtain ⟨a, b, c, e⟩ := hd
      rw [z, e] at enl
      have h2 := HO.lst.inj (Option.some.inj enl)
      cases ns with
      | nil => cases h2
      | cons y l => cases (List.cons.inj h2).1
    refine ⟨_, rfl, _, rfl, _, _, rfl, rfl, d, _, rfl, hd, by omega, ?_, fun r x b c h0 h1 => ⟨_, rfl, ?_, ?_, fun D nD => ?_⟩⟩
    · rw [show ((m : Nat) : Int) + 1 = ((m + 1 : Nat) : Int) by omega]
      exact log2_small (by omega)
    · omega
    · omega
    obtain ⟨k, rfl⟩ := Int.eq_ofNat_of_zero_le h0
    rw [Int.toNat_natCast]
    have hd1 : DiceAt (upd H d (.lst [.int x, .int b, .int c])) d := dice_new x b c
    have sx1 : SameX d H (upd H d (.lst [.int x, .int b, .int c])) := (SameX.refl d H).atd
    have enl1 := sx1 _ _ nld enl
    generalize upd H d (.lst [.int x, .int b, .int c]) = H1 at nD hd1 sx1 enl1
    have hDd : D ≠ d := dice_ne hd1 nD
    have nDl : nl ≠ D := fun z => by rw [← z, enl1] at nD; cases nD
    refine lc_range (lo := 0) (fun j G => ∃ fs : List Str, G D = some (.lst (fs.map V.str)) ∧ fs.length = j ∧ (∀ p ∈ fs, p ∈ ns) ∧ SameX d H1 G ∧ DiceAt G d)
      ⟨[], upd_same, rfl, nofun, (SameX.refl d _).new nD, dice_upd hd1 hDd⟩ (fun j G hj hP => ?_) (fun G hP => ?_)
    · obtain ⟨fs, eD, lf, hf, sx, hdG⟩ := hP
      refine ⟨rfl, _, rfl, _, rfl, d, .ref nl, _, rfl, hdG, .inl ⟨nl, rfl, nld, .inl (.inl (.inl (sx _ _ nld enl1)))⟩, (fun h => hne (List.map_eq_nil_iff.mp h)), by rw [List.length_map]; omega, fun v x b c hv => ?_⟩
      obtain ⟨pp, hpp, rfl⟩ := List.mem_map.mp hv
      refine ⟨fs.map V.str, by rw [upd_ne hDd]; exact eD, ?_, fs ++ [pp], ?_, by rw [List.length_append, lf]; rfl, fun y hy => ?_, ?_, dice_upd (dice_new _ _ _) hDd⟩
      · rw [List.length_map]
        omega
      · rw [upd_same, List.map_append]
        rfl
      · rw [List.mem_append, List.mem_singleton] at hy
        rcases hy with hy | rfl
        · exact hf y hy
        · exact hpp
      · exact sx.atd.at nD
    · obtain ⟨fs, eD, lf, hf, sx, hdG⟩ := hP
      refine ⟨D, fs, rfl, .inl (.inl eD), by omega, fun zs sp hperm hsrt nsp => ?_⟩
      have hspd : sp ≠ d := dice_ne hdG nsp
      refine ⟨sp, _, rfl, .inl ⟨.inl (.inl upd_same), fun tq ntq => ?_⟩⟩
      have sxs : SameX d H1 (upd G sp (.lst (zs.map V.str))) := sx.new nsp
      have hds := dice_upd (o := .lst (zs.map V.str)) hdG hspd
      have htd : tq ≠ d := dice_ne hds ntq
      refine q tq zs _ (sx1.trans (sxs.new ntq)) (dice_upd hds htd) ((sx1.trans sxs).free htd ntq) upd_same hsrt ?_ (fun z hz => hf z (hperm.mem_iff.mp hz))
      rw [hperm.length_eq, lf]
      omega
end
end Kl

set_option maxRecDepth 100000
set_option maxHeartbeats 4000000

set_option maxRecDepth 100000
set_option maxHeartbeats 4000000
namespace Kl
open PySem PySem.Spec PyProof.Rows L2 Gx Mx
theorem sqT_sx {K : PySem.W.Frag} {G G' : Hp} {d a : Addr} {xs : List V} (hd : DiceAt G d) (s : SameX d G G') (h : SqT K G a xs) : SqT K G' a xs := by
  obtain ⟨p, q, r, e⟩ := hd
  rcases h with (h | ⟨o, h⟩) | h
  · exact .inl (.inl (s _ _ (fun z => by rw [z, e] at h; cases h) h))
  · exact .inl (.inr ⟨o, s _ _ (fun z => by rw [z, e] at h; cases h) h⟩)
  · exact .inr h
section
variable {P : Program} {w : World} {K : PySem.W.Frag} {mg : Str → Option Value} {base : Heap}
/-! ### _law_drawn_loose -/
def spDL (K : PySem.W.Frag) : Sp := fun vs H Q _ => ∃ (d nl : Addr) (ns : List Str) (m mo : Nat), vs = [.ref d, .ref nl, .int (m : Nat), .int (mo : Nat)] ∧ m ≤ 400 ∧ 3 ≤ mo ∧ mo ≤ 20 ∧ DiceAt H d ∧ H nl = some (.lst (ns.map V.str)) ∧ ns ≠ [] ∧ ns.length ≤ 100 ∧ (∀ z ∈ ns, nameB z = true) ∧
  ∀ (p : Addr) (LL : List (Addr × List Str)) H', SameX d H H' → DiceAt H' d → RowAt K H' p LL → looseB (LL.map (·.2)) = true → (∀ q ∈ LL, q.2.length ≤ mo ∧ ∀ z ∈ q.2, z ∈ ns) → LL.length ≤ m → Q (.ref p) H'
theorem ok_dl {f : Addr} {fd : FuncData} (F : Fun K "_law_drawn_loose" "_law_drawn_loose" s_law_drawn_loose f fd) (T : Top K mg) : FnOk P w K mg base CX0 4 f fd ["_law_dice_here", "_law_names", "_law_ranks", "_law_most"] (spDL K) := by
  have cr : Cal P w K mg base 3 "_law_roll" ["_law_dice_here", "_law_total"] spRoll := (T.d_law_roll.cal fun f fd F => ok_roll F T).mono (by decide)
  have cp : Cal P w K mg base 3 "_law_pick" ["_law_dice_here", "_law_items"] (spPick K) := (T.d_law_pick.cal fun f fd F => ok_pick F T).mono (by decide)
  have cd : Cal P w K mg base 3 "_law_drawn_digit" ["_law_dice_here", "_law_names", "_law_most"] (spDD K) := T.d_law_drawn_digit.cal fun f fd F => ok_dd F T
  refine F.ok sc_law_drawn_loose (fun vs H Q E h => ?_) (fun cdv A outer s H vs Q E hr h => ?_)
  · obtain ⟨d, nl, ns, m, mo, rfl, _⟩ := h
    rfl
  · obtain ⟨d, nl, ns, m, mo, rfl, hm, hmo3, hmo, hd, enl, hne, hns, hnm, q⟩ := h
    refine ⟨_, pss_cut (ps_set (i := 4) sc_law_drawn_loose.nd rfl (.inl rfl) (pe_lst pa_nil))
      (pss_cut (ps_for PassesOwn.never rfl (pi_range1 (by rfl) T.b_range (pa_cons (pe_cal cr hr (by rfl) (pa_cons (pv 0) (pa_cons (pe_op op_add (pv 2) pe_int) pa_nil))) pa_nil)) (pg_name (i := 5) sc_law_drawn_loose.nd rfl (.inl rfl))
        (pss_one (ps_expr (pe_bm PySem.F.plainAttrs_list PySem.F.slot_list_append PySem.F.type_list_append mt_append (pv 4) (pa_cons (pe_cal cd hr (by rfl) (pa_cons (pv 0) (pa_cons (pv 1) (pa_cons
          (pe_cal cp hr (by rfl) (pa_cons (pv 0) (pa_cons (pe_lst (pa_cons pe_int (pa_cons pe_int (pa_cons pe_int (pa_cons (pv 3) pa_nil))))) pa_nil))) pa_nil)))) pa_nil)))))
      (pss_cut (ps_if (PW.pt (pw_and (pt_cmpR (op_neD hr.units) (pv 4) (pe_lst pa_nil) (by rfl)) (pw_and1 (pt_cmpR (op_eqD hr.units) (pe_ix ix_list (pv 4) (pe_un un_neg pe_int) (fun _ _ => rfl)) (pe_tup pa_nil) (by rfl)))))
        (pss_one (ps_asg (pe_tup (pa_cons (pe_cal cp hr (by rfl) (pa_cons (pv 0) (pa_cons (pv 1) pa_nil))) pa_nil)) (pg_sub (pv 4) (pe_un un_neg pe_int) set_list))) pss_nil)
      (pss_one (ps_ret (pe_callTy call_tuple_of (by rfl) T.b_tuple (by decide +kernel) (pa_cons (pv 4) pa_nil)))))), ?_⟩
    have big : 100000 ≤ sizeLine := by decide
    have nld : ∀ {G : Hp}, DiceAt G d → G nl = some (.lst (ns.map V.str)) → nl ≠ d := fun hd e z => by
      obtain ⟨a, b, c, e2⟩ := hd
      rw [z, e2] at e
      have h2 := HO.lst.inj (Option.some.inj e)
      cases ns with
      | nil => exact hne rfl
      | cons y l => cases (List.cons.inj h2).1
    refine ⟨fun σ' G => ∃ l : Addr, σ' = [some (.ref d), some (.ref nl), some (.int (m : Nat)), some (.int (mo : Nat)), some (.ref l), none] ∧ G l = some (.lst []) ∧ H l = none ∧ SameX d H G ∧ DiceAt G d ∧ l ≠ d, ?_, ?_⟩
    · exact ⟨Nat.zero_le _, fun l nl => ⟨l, rfl, upd_same, nl, (SameX.refl d H).at nl, dice_upd hd (dice_ne hd nl), dice_ne hd nl⟩⟩
    rintro σ' G ⟨l, rfl, el, nlH, sx0, hd0, hld⟩
    refine ⟨fun σ' G => ∃ (y5 : Option V) (LL : List (Addr × List Str)), σ' = [some (.ref d), some (.ref nl), some (.int (m : Nat)), some (.int (mo : Nat)), some (.ref l), y5] ∧ G l = some (.lst (LL.map fun q => V.ref q.1)) ∧ TxtsAt K G LL ∧ (∀ q ∈ LL, sortedS q.2 = true ∧ q.2.length ≤ mo ∧ ∀ z ∈ q.2, z ∈ ns) ∧ LL.length ≤ m ∧ SameX d H G ∧ DiceAt G d, ?_, ?_⟩
    · refine ⟨_, rfl, _, rfl, _, _, rfl, rfl, d, _, rfl, hd0, by omega, ?_, fun r x b c h0 h1 => ⟨_, rfl, ?_, ?_, ?_⟩⟩
      · rw [show ((m : Nat) : Int) + 1 = ((m + 1 : Nat) : Int) by omega]
        exact log2_small (by omega)
      · omega
      · omega
      obtain ⟨k, rfl⟩ := Int.eq_ofNat_of_zero_le h0
      rw [Int.toNat_natCast]
      have sx1 : SameX d H (upd G d (.lst [.int x, .int b, .int c])) := sx0.atd
      have hd1 := dice_new (H := G) (d := d) x b c
      have el1 : (upd G d (.lst [.int x, .int b, .int c])) l = some (.lst []) := by rw [upd_ne hld]; exact el
      generalize upd G d (.lst [.int x, .int b, .int c]) = G1 at sx1 hd1 el1
      refine for_range (lo := 0) (fun j σ' G => ∃ (y5 : Option V) (LL : List (Addr × List Str)), σ' = [some (.ref d), some (.ref nl), some (.int (m : Nat)), some (.int (mo : Nat)), some (.ref l), y5] ∧ G l = some (.lst (LL.map fun q => V.ref q.1)) ∧ TxtsAt K G LL ∧ (∀ q ∈ LL, sortedS q.2 = true ∧ q.2.length ≤ mo ∧ ∀ z ∈ q.2, z ∈ ns) ∧ LL.length = j ∧ SameX d H G ∧ DiceAt G d)
        ⟨none, [], rfl, el1, nofun, nofun, rfl, sx1, hd1⟩ (fun j σ' G2 hj hI => ?_) (fun σ' G2 hI => ?_)
      · obtain ⟨y5, LL, rfl, eL, hT, hok, lL, sx2, hd2⟩ := hI
        have enl2 := sx2 _ _ (nld hd enl) enl
        refine ⟨_, rfl, ⟨.inl ⟨rfl, _, .inl (.inl eL)⟩, ?_⟩⟩
        refine ⟨_, rfl, _, rfl, _, rfl, _, rfl, by show 4 ≤ sizeLine; omega, fun pl npl => ?_⟩
        have s3 := same_new (o := .lst [V.int 1, V.int 2, V.int 3, V.int ((mo : Nat) : Int)]) (Same.refl G2) npl
        have npd : pl ≠ d := dice_ne hd2 npl
        have epl : (upd G2 pl (.lst [V.int 1, V.int 2, V.int 3, V.int ((mo : Nat) : Int)])) pl = some (.lst [V.int 1, V.int 2, V.int 3, V.int ((mo : Nat) : Int)]) := upd_same
        have hd3 := dice_upd (o := .lst [V.int 1, V.int 2, V.int 3, V.int ((mo : Nat) : Int)]) hd2 npd
        generalize upd G2 pl (.lst [V.int 1, V.int 2, V.int 3, V.int ((mo : Nat) : Int)]) = G3 at s3 epl hd3
        refine ⟨d, .ref pl, _, rfl, hd3, .inl ⟨pl, rfl, npd, .inl (.inl (.inl epl))⟩, by simp, by show 4 ≤ 100000; omega, fun v x b c hv => ?_⟩
        have sx4 : SameX d G2 (upd G3 d (.lst [.int x, .int b, .int c])) := (SameX.of s3).atd
        have hd4 := dice_new (H := G3) (d := d) x b c
        generalize upd G3 d (.lst [.int x, .int b, .int c]) = G4 at sx4 hd4
        obtain ⟨kk, rfl, hkk⟩ : ∃ kk : Nat, v = .int (kk : Nat) ∧ kk ≤ mo := by
          rcases List.mem_cons.mp hv with rfl | hv
          · exact ⟨1, rfl, by omega⟩
          rcases List.mem_cons.mp hv with rfl | hv
          · exact ⟨2, rfl, by omega⟩
          rcases List.mem_cons.mp hv with rfl | hv
          · exact ⟨3, rfl, by omega⟩
          rw [List.mem_singleton.mp hv]
          exact ⟨mo, rfl, Nat.le_refl _⟩
        have eL4 := sx4 _ _ hld eL
        refine ⟨d, nl, ns, kk, rfl, by omega, hd4, sx4 _ _ (nld hd enl) enl2, hne, hns, fun p zs G5 sx5 hd5 npn ep hs hl hin => ?_⟩
        have eL5 := sx5 _ _ hld eL4
        refine ⟨l, _, _, rfl, rfl, eL5, ?_, _, LL ++ [(p, zs)], rfl, ?_, ?_, ?_, by rw [List.length_append, lL]; rfl, ?_, dice_upd hd5 hld⟩
        · rw [List.length_map]
          omega
        · rw [upd_same, List.map_append]
          rfl
        · intro q hq
          rcases List.mem_append.mp hq with h | h
          · exact sqT_lst eL5 (sqT_sx hd4 sx5 (sqT_sx hd2 sx4 (hT q h)))
          · rw [List.mem_singleton.mp h]
            exact sqT_lst eL5 (.inl (.inl ep))
        · intro q hq
          rcases List.mem_append.mp hq with h | h
          · exact hok q h
          · rw [List.mem_singleton.mp h]
            exact ⟨hs, Nat.le_trans hl hkk, hin⟩
        · exact ((sx2.trans sx4).trans sx5).at nlH
      · obtain ⟨y5, LL, e, h2, h3, h4, h5, h6, h7⟩ := hI
        exact ⟨y5, LL, e, h2, h3, h4, by omega, h6, h7⟩
    rintro σ' G1 ⟨y5, LL, rfl, eL, hT, hok, lL, sx1, hd1⟩
    have good : ∀ q : List Str, sortedS q = true → q.length ≤ mo → (∀ z ∈ q, z ∈ ns) → goodB q = true := fun q h1 h2 h3 => by
      unfold goodB
      rw [decide_eq_true (show q.length ≤ 20 by omega), h1, List.all_eq_true.mpr fun z hz => hnm z (h3 z hz)]
      rfl
    have loose : ∀ (A : List (Addr × List Str)) (q : Addr × List Str), (∀ x ∈ A ++ [q], sortedS x.2 = true ∧ x.2.length ≤ mo ∧ ∀ z ∈ x.2, z ∈ ns) → (A ++ [q]).length ≤ m → q.2 ≠ [] → looseB ((A ++ [q]).map (·.2)) = true := fun A q h1 h2 h3 => by
      refine loose_of (by rw [List.length_map]; omega) (fun x hx => ?_) (fun j hj => ?_)
      · obtain ⟨y, hy, rfl⟩ := List.mem_map.mp hx
        obtain ⟨a1, a2, a3⟩ := h1 y hy
        exact good _ a1 a2 a3
      · rw [List.length_map, List.length_append, List.length_singleton] at hj
        have ej : j = A.length := by omega
        unfold dg
        rw [ej, List.getElem?_map, List.getElem?_append_right (Nat.le_refl _), Nat.sub_self]
        exact h3
    refine ⟨fun σ' G => ∃ (LL : List (Addr × List Str)), σ' = [some (.ref d), some (.ref nl), some (.int (m : Nat)), some (.int (mo : Nat)), some (.ref l), y5] ∧ G l = some (.lst (LL.map fun q => V.ref q.1)) ∧ TxtsAt K G LL ∧ (∀ q ∈ LL, q.2.length ≤ mo ∧ ∀ z ∈ q.2, z ∈ ns) ∧ looseB (LL.map (·.2)) = true ∧ LL.length ≤ m ∧ SameX d H G ∧ DiceAt G d, ?_, ?_⟩
    · refine ⟨_, rfl, Nat.zero_le _, fun e0 ne0 => ?_⟩
      have s2 := same_new (o := .lst []) (Same.refl G1) ne0
      have ee : (upd G1 e0 (.lst [])) e0 = some (.lst []) := upd_same
      have n0d : e0 ≠ d := dice_ne hd1 ne0
      have hd2 := dice_upd (o := .lst []) hd1 n0d
      generalize upd G1 e0 (.lst []) = G2 at s2 ee hd2
      have eL2 := s2 _ _ eL
      have hT2 : TxtsAt K G2 LL := fun q hq => sqT_sm s2 (hT q hq)
      have sx2 : SameX d H G2 := sx1.trans (SameX.of s2)
      rcases List.eq_nil_or_concat LL with rfl | ⟨A, q0, rfl⟩
      · refine ⟨.list [], .list [], .lst (.inl (.inl eL2)) .nil, .lst (.inl (.inl ee)) .nil, rfl, rfl, ?_⟩
        rw [show PyData.eqv (.list []) (.list []) = true from rfl]
        refine ⟨_, rfl, ?_⟩
        show (if (!true) = true then _ else _)
        rw [if_neg (by decide)]
        show (if false = true then _ else _)
        rw [if_neg (by decide)]
        exact ⟨[], rfl, eL2, nofun, nofun, by decide +kernel, Nat.zero_le _, sx2, hd2⟩
      rw [List.concat_eq_append] at eL2 hT2 hok lL
      have sOk : ∀ q ∈ A ++ [q0], ∀ z ∈ q.2, PyData.strOk z = true := fun q hq z hz => names_low (hnm z ((hok q hq).2.2 z hz))
      have shL : SeqAt.shaped (.list (((A ++ [q0]).map (·.2)).map fun z => PyData.tuple (tD z))) = true := by
        obtain ⟨h1, h2⟩ := row_all (qs := (A ++ [q0]).map (·.2)) fun q hq => by
          obtain ⟨y, hy, rfl⟩ := List.mem_map.mp hq
          exact sOk y hy
        unfold SeqAt.shaped
        rw [Bool.and_eq_true]
        exact ⟨h1, decide_eq_true (by rw [PyData.depth]; omega)⟩
      have dpL : Dp K G2 (.ref l) (.list (((A ++ [q0]).map (·.2)).map fun z => PyData.tuple (tD z))) := .lst (.inl (.inl eL2)) (dp_refs hT2)
      refine ⟨_, .list [], dpL, .lst (.inl (.inl ee)) .nil, shL, rfl, ?_⟩
      rw [show PyData.eqv (.list (((A ++ [q0]).map (·.2)).map fun z => PyData.tuple (tD z))) (.list []) = false by rw [PyData.eqv]; cases A <;> rfl]
      refine ⟨_, rfl, ?_⟩
      show (if (!false) = true then _ else _)
      rw [if_pos (by decide)]
      have lA : (A.map fun q : Addr × List Str => V.ref q.1).length = A.length := List.length_map _
      have hat : atI ((A ++ [q0]).map fun q => V.ref q.1) (-1) = some (.ref q0.1) := by
        unfold atI ixN
        rw [if_neg (by decide), List.length_map, List.length_append, List.length_singleton, if_pos (by omega)]
        show ((A ++ [q0]).map fun q => V.ref q.1)[((-1 : Int) + ((A.length + 1 : Nat) : Int)).toNat]? = _
        rw [show ((-1 : Int) + ((A.length + 1 : Nat) : Int)).toNat = A.length by omega, List.getElem?_map, List.getElem?_append_right (Nat.le_refl _), Nat.sub_self]
        rfl
      have hq0 := hT2 q0 (List.mem_append.mpr (.inr (List.mem_singleton.mpr rfl)))
      refine ⟨_, rfl, _, rfl, l, _, _, .ref q0.1, rfl, rfl, .inl (.inl eL2), hat, Nat.zero_le _, fun e1 ne1 => ?_⟩
      have s3 := same_new (o := .tup []) (Same.refl G2) ne1
      have ee1 : (upd G2 e1 (.tup [])) e1 = some (.tup []) := upd_same
      have hd3 := dice_upd (o := .tup []) hd2 (dice_ne hd2 ne1)
      generalize upd G2 e1 (.tup []) = G3 at s3 ee1 hd3
      have eL3 := s3 _ _ eL2
      have hT3 : TxtsAt K G3 (A ++ [q0]) := fun q hq => sqT_sm s3 (hT2 q hq)
      have sx3 : SameX d H G3 := sx2.trans (SameX.of s3)
      refine ⟨.tuple (tD q0.2), .tuple (tD []), .tup (sqT_sm s3 hq0) (dp_texts _), .tup (.inl (.inl ee1)) (dp_texts []), shaped_textsT (sOk q0 (List.mem_append.mpr (.inr (List.mem_singleton.mpr rfl)))), shaped_textsT (fun z hz => nomatch hz), ?_⟩
      rw [PyData.eqv, eqv_texts]
      refine ⟨_, rfl, ?_⟩
      by_cases c : q0.2 = []
      · rw [decide_eq_true c]
        show (if true = true then _ else _)
        rw [if_pos rfl]
        have enl3 := sx3 _ _ (nld hd enl) enl
        refine ⟨_, rfl, _, rfl, d, .ref nl, ns.map V.str, rfl, hd3, .inl ⟨nl, rfl, nld hd3 enl3, .inl (.inl (.inl enl3))⟩, fun h => hne (List.map_eq_nil_iff.mp h), by rw [List.length_map]; omega, fun v x b c' hv => ⟨by show 1 ≤ sizeLine; omega, fun p np => ?_⟩⟩
        obtain ⟨zz, hzz, rfl⟩ := List.mem_map.mp hv
        have sx4 : SameX d G3 (upd G3 d (.lst [.int x, .int b, .int c'])) := fun b o n e => by rw [upd_ne n]; exact e
        have hd4 := dice_new (H := G3) (d := d) x b c'
        generalize upd G3 d (.lst [.int x, .int b, .int c']) = G4 at sx4 hd4 np
        have s5 := same_new (o := .tup [V.str zz]) (Same.refl G4) np
        have ep : (upd G4 p (.tup [V.str zz])) p = some (.tup [V.str zz]) := upd_same
        have hd5 := dice_upd (o := .tup [V.str zz]) hd4 (dice_ne hd4 np)
        generalize upd G4 p (.tup [V.str zz]) = G5 at s5 ep hd5
        have eL5 := s5 _ _ (sx4 _ _ hld eL3)
        have hix : ixN ((A ++ [q0]).map fun q => V.ref q.1).length (-1) = some A.length := by
          unfold ixN
          rw [if_neg (by decide), List.length_map, List.length_append, List.length_singleton, if_pos (by omega)]
          congr 1
          omega
        refine ⟨_, rfl, _, rfl, l, _, -1, A.length, rfl, rfl, eL5, hix, A ++ [(p, [zz])], rfl, ?_, fun q hq => ?_, fun q hq => ?_, ?_, ?_, ?_, dice_upd hd5 hld⟩
        · rw [upd_same, List.map_append, List.map_append, List.set_append_right _ _ (by rw [lA]; exact Nat.le_refl _), lA, Nat.sub_self]
          rfl
        · rcases List.mem_append.mp hq with h | h
          · exact sqT_lst eL5 (sqT_sm s5 (sqT_sx hd3 sx4 (hT3 q (List.mem_append.mpr (.inl h)))))
          · rw [List.mem_singleton.mp h]
            exact sqT_lst eL5 (.inl (.inl ep))
        · rcases List.mem_append.mp hq with h | h
          · exact (hok q (List.mem_append.mpr (.inl h))).2
          · rw [List.mem_singleton.mp h]
            exact ⟨by show 1 ≤ mo; omega, fun z hz => by rw [List.mem_singleton.mp hz]; exact hzz⟩
        · refine loose A (p, [zz]) (fun q hq => ?_) (by rw [List.length_append, List.length_singleton] at lL ⊢; exact lL) (List.cons_ne_nil _ _)
          rcases List.mem_append.mp hq with h | h
          · exact hok q (List.mem_append.mpr (.inl h))
          · rw [List.mem_singleton.mp h]
            exact ⟨rfl, by show 1 ≤ mo; omega, fun z hz => by rw [List.mem_singleton.mp hz]; exact hzz⟩
        · rw [List.length_append, List.length_singleton] at lL ⊢
          exact lL
        · exact ((sx3.trans sx4).trans (SameX.of s5)).at nlH
      · rw [decide_eq_false c]
        show (if false = true then _ else _)
        rw [if_neg (by decide)]
        exact ⟨A ++ [q0], rfl, eL3, hT3, fun q hq => (hok q hq).2, loose A q0 hok lL c, lL, sx3, hd3⟩
    rintro σ' G2 ⟨LL2, rfl, eL2, hT2, hok2, hL2, lL2, sx2, hd2⟩
    refine ⟨_, rfl, l, _, rfl, .inl ⟨.inl (.inl eL2), fun tq ntq => ?_⟩⟩
    have s3 := same_new (o := .tup (LL2.map fun q => V.ref q.1)) (Same.refl G2) ntq
    exact q tq LL2 _ (sx2.trans (SameX.of s3)) (dice_upd hd2 (dice_ne hd2 ntq)) ⟨.inl (.inl upd_same), fun q hq => sqT_sm s3 (hT2 q hq)⟩ hL2 hok2 lL2
end
end Kl

set_option maxRecDepth 100000
set_option maxHeartbeats 4000000

set_option maxRecDepth 100000
set_option maxHeartbeats 4000000
namespace Gx
open PySem PySem.Spec PyProof.Rows L2
/-- two promises of one def -/
theorem FnOk.or {P : Program} {w : World} {K : PySem.W.Frag} {mg : Str → Option Value} {base : Heap} {CX : CXT} {k : Nat} {f : Addr} {fd : FuncData} {ps : List Str} {sp sp' : Sp} (F : FnOk P w K mg base CX k f fd ps sp) (F' : FnOk P w K mg base CX k f fd ps sp') :
    FnOk P w K mg base CX k f fd ps (fun vs H Q E => sp vs H Q E ∨ sp' vs H Q E) := by
  refine ⟨fun vs H Q E h => ?_, fun A outer s H args us vs Q E hr he hb hv hs => ?_⟩
  · rcases h with h | h
    · exact F.len _ _ _ _ h
    · exact F'.len _ _ _ _ h
  · rcases hs with h | h
    · exact F.run A outer s H args us vs Q E hr he hb hv h
    · exact F'.run A outer s H args us vs Q E hr he hb hv h
end Gx
namespace Kl
open PySem PySem.Spec PyProof.Rows L2 Gx Mx
/-! ### judges of any value -/
def textOf : V → Str
  | .str z => z
  | _ => ""
/-- what is_sorted says of the values of a tuple -/
def sortB (xs : List V) : Bool := xs.all nameV && sortedS (xs.map textOf)
/-- a value, and what is_sorted answers with the limit M -/
def SortArg (K : PySem.W.Frag) (H : Hp) (v : V) (M : Int) (b : Bool) : Prop :=
  (Not K H v "tuple" ∧ b = false) ∨ ∃ (p : Addr) (xs : List V), v = .ref p ∧ SqT K H p xs ∧ xs.length ≤ 1000 ∧ (∀ x ∈ xs, NameArg K H x) ∧ b = (decide ((xs.length : Int) ≤ M) && sortB xs)
theorem SortArg.same {K : PySem.W.Frag} {H H' : Hp} {v : V} {M : Int} {b : Bool} (s : Same H H') (h : SortArg K H v M b) : SortArg K H' v M b := by
  rcases h with ⟨h, e⟩ | ⟨p, xs, e, hp, hl, hx, eb⟩
  · exact .inl ⟨h.same s, e⟩
  · exact .inr ⟨p, xs, e, sqT_sm s hp, hl, fun x hx' => (hx x hx').same s, eb⟩
theorem names_texts : ∀ xs : List V, xs.all nameV = true → xs = (xs.map textOf).map V.str
  | [], _ => rfl
  | x :: xs, h => by
    rw [List.all_cons, Bool.and_eq_true] at h
    rw [List.map_cons, List.map_cons, ← names_texts xs h.2]
    cases x with
    | str z => rfl
    | _ => cases h.1
theorem names_ok : ∀ xs : List V, xs.all nameV = true → ∀ z ∈ xs.map textOf, PyData.strOk z = true
  | [], _, z, hz => by cases hz
  | x :: xs, h, z, hz => by
    rw [List.all_cons, Bool.and_eq_true] at h
    rcases List.mem_cons.mp (show z ∈ textOf x :: xs.map textOf from hz) with rfl | hz
    · cases x with
      | str y => exact names_low h.1
      | _ => cases h.1
    · exact names_ok xs h.2 z hz
section
variable {P : Program} {w : World} {K : PySem.W.Frag} {mg : Str → Option Value} {base : Heap}
def spSortA (K : PySem.W.Frag) : Sp := fun vs H Q _ => ∃ (v : V) (M : Int) (b : Bool), vs = [v, .int M] ∧ 0 ≤ M ∧ M ≤ 100 ∧ SortArg K H v M b ∧ ∀ H', Same H H' → Q (.bl b) H'
theorem ok_sortA {f : Addr} {fd : FuncData} (F : Fun K "is_sorted" "is_sorted" s_is_sorted f fd) (T : Top K mg) : FnOk P w K mg base CX0 3 f fd ["value", "most"] (spSortA K) := by
  have cc : Cal P w K mg base 2 "is_count" ["value"] (spCnt K) := T.d_is_count.cal fun f fd F => ok_cnt F T
  have cn : Cal P w K mg base 2 "is_name" ["value"] (spName K) := (T.d_is_name.cal fun f fd F => ok_name F T).mono (by decide)
  refine F.ok sc_is_sorted (fun vs H Q E h => ?_) (fun cdv A outer s H vs Q E hr h => ?_)
  · obtain ⟨v, M, b, rfl, _⟩ := h
    rfl
  · obtain ⟨v, M, b, rfl, hM, hM2, hs, hq⟩ := h
    refine ⟨_, pss_cons (ps_if (pt_not (pt_val (pe_cal cc hr (by rfl) (pa_cons (pv 1) pa_nil)))) (pss_one ps_never) pss_nil)
      (pss_cons (ps_if (PW.pt (pw_or (pt_not (pt_val (pe_callB call_isi (by rfl) T.b_isinstance (by decide +kernel) (pa_cons (pv 0) (pa_cons (pe_bltn (v := .ty "tuple") (by rfl) T.b_tuple (by decide +kernel) rfl) pa_nil)))))
          (pw_or1 (pt_cmpR op_gt (pe_callB call_len_seq (by rfl) T.b_len PySem.boot_len (pa_cons (pv 0) pa_nil)) (pv 1) (nomark _))))) (pss_one (ps_ret pe_bl)) pss_nil)
      (pss_cons (ps_if (pt_not (pt_val (pe_callB (cr_all rfl) (by rfl) T.b_all (by decide +kernel) (pa_cons (pe_lc (own := [("name", 2)]) (g := gName 2) (tt := tYes) rfl sc_is_sorted.nd (pi_tup (pv 0))
            (blkOk_by (N := ["value", "most", "name"]) (sc := defScope s_is_sorted) (by decide +kernel))
            (fun _ _ _ _ _ => pg_name (i := 2) sc_is_sorted.nd rfl (.inl rfl)) (fun _ _ _ _ _ => pts_nil) (fun _ _ _ _ _ => pe_cal cn hr (by rfl) (pa_cons (pv 2) pa_nil))) pa_nil)))) (pss_one (ps_ret pe_bl)) pss_nil)
      (pss_one (ps_ret (pe_cmpR (op_eqD hr.units) (pe_callTy call_list_of (by rfl) T.b_list (by decide +kernel) (pa_cons (pv 0) pa_nil)) (pe_callB cr_sortedTS (by rfl) T.b_sorted (by decide +kernel) (pa_cons (pv 0) pa_nil)) (nomark _)))))), ?_⟩
    have hc : cntV (.int M) = true := by
      show ((decide (-TEN60 < M) && decide (M < TEN60)) && decide (0 ≤ M)) = true
      rw [decide_eq_true (show -TEN60 < M by unfold TEN60; omega), decide_eq_true (show M < TEN60 by unfold TEN60; omega), decide_eq_true hM]
      rfl
    refine ⟨_, rfl, .int M, rfl, .inl ⟨M, rfl⟩, _, rfl, ?_⟩
    rw [hc]
    rcases hs with ⟨⟨t, ht, hk⟩, rfl⟩ | ⟨p, xs, rfl, hp, hlen, hx, rfl⟩
    · refine ⟨_, rfl, _, .ty "tuple", t, .type "tuple", false, rfl, .ty _, ht, hk, false, rfl, ?_⟩
      exact hq H (Same.refl H)
    refine ⟨_, rfl, _, .ty "tuple", .type "tuple", .type "tuple", true, rfl, .ty _, tyx_sqT hp, kit_ty (by decide +kernel), true, rfl, ?_⟩
    refine ⟨_, rfl, p, xs, rfl, .inr hp, _, rfl, _, _, rfl, rfl, _, rfl, ite2 (fun e => ?_) (fun e => ?_)⟩
    · have e1 : decide ((xs.length : Int) ≤ M) = false := decide_eq_false (by
        have := of_decide_eq_true e
        omega)
      rw [e1, Bool.false_and] at hq
      exact hq H (Same.refl H)
    have e1 : decide ((xs.length : Int) ≤ M) = true := decide_eq_true (by
      have : ¬ (M < (xs.length : Int)) := fun z => e (decide_eq_true z)
      omega)
    rw [e1, Bool.true_and] at hq
    have big : 100000 ≤ sizeLine := by decide
    refine ⟨_, rfl, p, rfl, ⟨_, hp⟩, fun D hD => ?_⟩
    refine lc_it (g := gName 2) (tt := tYes) (vs := [2]) (walk_tup (K := K) (a := p) (xs := xs)) (fun j G => G D = some (.lst ((xs.take j).map fun x => V.bl (nameV x))) ∧ Same H G)
      ⟨upd_same, same_new (Same.refl H) hD⟩ (fun j G _ h => sqT_sm h.2 hp) (fun j u Gx G hj h hy => ?_) (fun G h => ?_)
    · obtain ⟨eD, sm⟩ := h
      obtain ⟨rfl, hu⟩ := hy
      refine ⟨rfl, _, rfl, u, rfl, (hx u (List.mem_of_getElem? hu)).same sm, _, eD, ?_, ?_, fun b o e => by rw [upd_ne (ne_of_none e hD)]; exact sm b o e⟩
      · rw [List.length_map, List.length_take]
        omega
      · rw [upd_same, take_snoc hu, List.map_append]
        rfl
    · obtain ⟨eD, sm⟩ := h
      rw [List.take_length] at eD
      refine ⟨D, xs.map nameV, rfl, .inl (.inl (by rw [eD, List.map_map]; rfl)), _, rfl, ?_⟩
      have ea : (xs.map nameV).all id = xs.all nameV := by rw [List.all_map]; rfl
      rw [ea]
      cases hall : xs.all nameV with
      | false =>
        unfold sortB at hq
        rw [hall, Bool.false_and] at hq
        exact hq _ sm
      | true =>
        unfold sortB at hq
        rw [hall, Bool.true_and] at hq
        have hxt := names_texts xs hall
        have hok := names_ok xs hall
        generalize xs.map textOf = zs at hq hxt hok
        subst hxt
        refine ⟨_, rfl, p, _, rfl, .inr (sqT_sm sm hp), fun l nl => ?_⟩
        have sm2 := same_new (o := .lst (zs.map V.str)) sm nl
        refine ⟨_, rfl, p, zs, rfl, sqT_sm sm2 hp, by rw [List.length_map] at hlen; omega, fun ys l2 hperm hsrt nl2 => ?_⟩
        refine ⟨.list (tD zs), .list (tD ys), ?_, ?_, shaped_texts hok, shaped_texts (fun z hz => hok z (hperm.mem_iff.mp hz)), ?_⟩
        · exact .lst (.inl (.inl (by rw [upd_ne (ne_of_none upd_same nl2), upd_same]))) (dp_texts zs)
        · exact .lst (.inl (.inl upd_same)) (dp_texts ys)
        · rw [PyData.eqv, eqv_texts, eq_sorted_iff hperm hsrt]
          exact hq _ (same_new sm2 nl2)
/-- a digit of texts -/
theorem sortArg_texts {H : Hp} {a : Addr} {zs : List Str} {n : Nat} (h : SqT K H a (zs.map V.str)) (hl : zs.length ≤ 1000) (hz : ∀ z ∈ zs, z.length ≤ 1000) : SortArg K H (.ref a) (n : Int) (decide (zs.length ≤ n) && (zs.all nameB && sortedS zs)) := by
  refine .inr ⟨a, _, rfl, h, by rw [List.length_map]; exact hl, fun x hx => ?_, ?_⟩
  · obtain ⟨z, hz', rfl⟩ := List.mem_map.mp hx
    exact .inl ⟨z, rfl, Nat.le_trans (hz z hz') (by decide)⟩
  · unfold sortB
    rw [List.length_map, List.all_map, List.map_map]
    have e1 : (nameV ∘ V.str) = nameB := rfl
    have e2 : zs.map (textOf ∘ V.str) = zs := List.map_id' zs
    rw [e1, e2, show decide (((zs.length : Nat) : Int) ≤ (n : Int)) = decide (zs.length ≤ n) by rw [decide_eq_decide]; omega]
/-! ### values that are no rows -/
/-- a tuple, and what is_sorted says of each of its items -/
structure Digs (K : PySem.W.Frag) (H : Hp) (p : Addr) (xs : List V) (bs : List Bool) : Prop where
  e : SqT K H p xs
  few : xs.length ≤ 1000
  len : bs.length = xs.length
  at_ : ∀ (i : Nat) (x : V) (c : Bool), xs[i]? = some x → bs[i]? = some c → SortArg K H x 20 c
theorem Digs.same {H H' : Hp} {p : Addr} {xs : List V} {bs : List Bool} (h : Digs K H p xs bs) (s : Same H H') : Digs K H' p xs bs := ⟨sqT_sm s h.e, h.few, h.len, fun i x c e1 e2 => (h.at_ i x c e1 e2).same s⟩
def BadV (K : PySem.W.Frag) (H : Hp) (v : V) : Prop := Not K H v "tuple" ∨ ∃ (p : Addr) (xs : List V) (bs : List Bool), v = .ref p ∧ Digs K H p xs bs ∧ bs.all id = false
theorem BadV.same {H H' : Hp} {v : V} (h : BadV K H v) (s : Same H H') : BadV K H' v := by
  rcases h with h | ⟨p, xs, bs, e, hd, hb⟩
  · exact .inl (h.same s)
  · exact .inr ⟨p, xs, bs, e, hd.same s, hb⟩
def spBad (K : PySem.W.Frag) : Sp := fun vs H Q _ => ∃ v : V, vs = [v] ∧ BadV K H v ∧ ∀ H', Same H H' → Q (.bl false) H'
theorem ok_digB {f : Addr} {fd : FuncData} (F : Fun K "are_digits" "are_digits" s_are_digits f fd) (T : Top K mg) : FnOk P w K mg base CX0 4 f fd ["value"] (spBad K) := by
  obtain ⟨tm, gm⟩ := T.g_LOOSE_DIGIT
  have cs : CalO P w K mg base 3 "is_sorted" ["value", "most"] 1 ["most"] (fun vs zs => vs ++ zs) (spSortA K) := T.d_is_sorted.calO fun f fd F => ok_sortA F T
  refine F.ok sc_are_digits (fun vs H Q E h => ?_) (fun cdv A outer s H vs Q E hr h => ?_)
  · obtain ⟨v, rfl, _⟩ := h
    rfl
  · obtain ⟨v, rfl, hv, q⟩ := h
    refine ⟨_, pss_one (ps_ret (pe_and (pe_callB call_isi (by rfl) T.b_isinstance (by decide +kernel) (pa_cons (pv 0) (pa_cons (pe_bltn (v := .ty "tuple") (by rfl) T.b_tuple (by decide +kernel) rfl) pa_nil)))
      (pe_one (pe_callB (cr_all rfl) (by rfl) T.b_all (by decide +kernel) (pa_cons (pe_lc (own := [("digit", 1)]) (g := gName 1) (tt := tYes) rfl sc_are_digits.nd (pi_tup (pv 0))
        (blkOk_by (N := NDG) (sc := defScope s_are_digits) (by decide +kernel)) (fun _ _ _ _ _ => pg_name (i := 1) sc_are_digits.nd rfl (.inl rfl)) (fun _ _ _ _ _ => pts_nil)
        (fun _ _ _ _ _ => pe_calO cs hr (by rfl) (pa_cons (pv 1) pa_nil) (pk_cons (pe_glob (v := .int 20) (by rfl) gm ⟨_, rfl⟩) pk_nil))) pa_nil))))), ?_⟩
    have big : 100000 ≤ sizeLine := by decide
    rcases hv with ⟨t, ht, hk⟩ | ⟨p, xs, bs, rfl, hd, hb⟩
    · refine ⟨_, rfl, _, .ty "tuple", t, .type "tuple", false, rfl, .ty _, ht, hk, false, rfl, ?_⟩
      exact q H (Same.refl H)
    refine ⟨_, rfl, _, .ty "tuple", .type "tuple", .type "tuple", true, rfl, .ty _, tyx_sqT hd.e, kit_ty (by decide +kernel), true, rfl, ?_⟩
    rw [if_pos rfl]
    refine ⟨_, rfl, p, rfl, ⟨_, hd.e⟩, fun D hD => ?_⟩
    have few := hd.few
    have len := hd.len
    refine lc_it (g := gName 1) (tt := tYes) (vs := [1]) (walk_tup (K := K) (a := p) (xs := xs)) (fun j G' => G' D = some (.lst ((bs.take j).map V.bl)) ∧ Same H G')
      ⟨upd_same, same_new (Same.refl H) hD⟩ (fun j G' _ h => sqT_sm h.2 hd.e) (fun j u Gx G' hj h hy => ?_) (fun G' h => ?_)
    · obtain ⟨eD, sm⟩ := h
      obtain ⟨rfl, hu⟩ := hy
      have hc : bs[j]? = some bs[j] := List.getElem?_eq_getElem (by omega)
      generalize bs[j] = c at hc
      refine ⟨rfl, _, rfl, rfl, rfl, u, 20, c, rfl, by decide, by decide, (hd.at_ j u c hu hc).same sm, fun G3 s3 => ?_⟩
      refine ⟨_, s3 _ _ eD, ?_, ?_, fun b o e => by rw [upd_ne (ne_of_none e hD)]; exact s3 _ _ (sm b o e)⟩
      · rw [List.length_map, List.length_take]
        omega
      · rw [upd_same, take_snoc hc, List.map_append]
        rfl
    · obtain ⟨eD, sm⟩ := h
      rw [← len, List.take_length] at eD
      refine ⟨D, _, rfl, .inl (.inl eD), ?_⟩
      rw [hb]
      exact q G' sm
theorem ok_ldigB {f : Addr} {fd : FuncData} (F : Fun K "are_loose_digits" "are_loose_digits" s_are_loose_digits f fd) (T : Top K mg) : FnOk P w K mg base CX0 5 f fd ["value"] (spBad K) := by
  obtain ⟨tm, gm⟩ := T.g__LOOSE_RANKS
  have cd : Cal P w K mg base 4 "are_digits" ["value"] (spBad K) := T.d_are_digits.cal fun f fd F => ok_digB F T
  refine F.ok sc_are_loose_digits (fun vs H Q E h => ?_) (fun cdv A outer s H vs Q E hr h => ?_)
  · obtain ⟨v, rfl, _⟩ := h
    rfl
  · obtain ⟨v, rfl, hv, q⟩ := h
    refine ⟨_, pss_one (ps_ret (pe_and (pe_callB call_isi (by rfl) T.b_isinstance (by decide +kernel) (pa_cons (pv 0) (pa_cons (pe_bltn (v := .ty "tuple") (by rfl) T.b_tuple (by decide +kernel) rfl) pa_nil)))
      (pe_and (pe_cmpR op_le (pe_callB call_len_seq (by rfl) T.b_len PySem.boot_len (pa_cons (pv 0) pa_nil)) (pe_glob (v := .int 402) (by rfl) gm ⟨_, rfl⟩) (nomark _))
        (pe_one (pe_cal cd hr (by rfl) (pa_cons (pv 0) pa_nil)))))), ?_⟩
    rcases hv with ⟨t, ht, hk⟩ | ⟨p, xs, bs, rfl, hd, hb⟩
    · refine ⟨_, rfl, _, .ty "tuple", t, .type "tuple", false, rfl, .ty _, ht, hk, false, rfl, ?_⟩
      exact q H (Same.refl H)
    refine ⟨_, rfl, _, .ty "tuple", .type "tuple", .type "tuple", true, rfl, .ty _, tyx_sqT hd.e, kit_ty (by decide +kernel), true, rfl, ?_⟩
    rw [if_pos rfl]
    refine ⟨_, rfl, p, _, rfl, .inr hd.e, _, _, rfl, rfl, _, rfl, ?_⟩
    split
    · exact ⟨_, rfl, .ref p, rfl, .inr ⟨p, xs, bs, rfl, hd, hb⟩, q⟩
    · exact q H (Same.refl H)
theorem ok_looseB {f : Addr} {fd : FuncData} (F : Fun K "is_loose" "is_loose" s_is_loose f fd) (T : Top K mg) : FnOk P w K mg base CX0 6 f fd ["value"] (spBad K) := by
  have cd : Cal P w K mg base 5 "are_loose_digits" ["value"] (spBad K) := T.d_are_loose_digits.cal fun f fd F => ok_ldigB F T
  refine F.ok sc_is_loose (fun vs H Q E h => ?_) (fun cdv A outer s H vs Q E hr h => ?_)
  · obtain ⟨v, rfl, _⟩ := h
    rfl
  · obtain ⟨v, rfl, hv, q⟩ := h
    refine ⟨_, pss_one (ps_ret (pe_and (pe_cal cd hr (by rfl) (pa_cons (pv 0) pa_nil)) (pe_one (pe_cmpR (op_neD hr.units) (pe_slice sl_tupS (pv 0) (po_some (pe_un un_neg pe_int)) po_none) (pe_tup (pa_cons (pe_tup pa_nil) pa_nil)) (by rfl))))), ?_⟩
    exact ⟨_, rfl, v, rfl, hv, fun H1 s1 => ⟨_, rfl, q H1 s1⟩⟩
/-- is_loose of a value that is none, or of digits -/
def spLooseA (K : PySem.W.Frag) : Sp := fun vs H Q E => spBad K vs H Q E ∨ spLoose K vs H Q E
theorem ok_looseA {f : Addr} {fd : FuncData} (F : Fun K "is_loose" "is_loose" s_is_loose f fd) (T : Top K mg) : FnOk P w K mg base CX0 6 f fd ["value"] (spLooseA K) := FnOk.or (ok_looseB F T) (ok_loose F T)
/-! ### is_digit -/
def spDigitA (K : PySem.W.Frag) : Sp := fun vs H Q _ => ∃ (v : V) (b : Bool), vs = [v] ∧ SortArg K H v 3 b ∧ ∀ H', Same H H' → Q (.bl b) H'
theorem ok_digitA {f : Addr} {fd : FuncData} (F : Fun K "is_digit" "is_digit" s_is_digit f fd) (T : Top K mg) : FnOk P w K mg base CX0 4 f fd ["value"] (spDigitA K) := by
  obtain ⟨tm, gm⟩ := T.g_MAX_DIGIT
  have cs : CalO P w K mg base 3 "is_sorted" ["value", "most"] 1 ["most"] (fun vs zs => vs ++ zs) (spSortA K) := T.d_is_sorted.calO fun f fd F => ok_sortA F T
  refine F.ok sc_is_digit (fun vs H Q E h => ?_) (fun cdv A outer s H vs Q E hr h => ?_)
  · obtain ⟨v, b, rfl, _⟩ := h
    rfl
  · obtain ⟨v, b, rfl, hv, q⟩ := h
    refine ⟨_, pss_one (ps_ret (pe_calO cs hr (by rfl) (pa_cons (pv 0) pa_nil) (pk_cons (pe_glob (v := .int 3) (by rfl) gm ⟨_, rfl⟩) pk_nil))), ?_⟩
    exact ⟨_, rfl, rfl, rfl, v, 3, b, rfl, by decide, by decide, hv, q⟩
end
end Kl

set_option maxRecDepth 100000
set_option maxHeartbeats 4000000
/-! ### own rules: a def that may raise, whatever is under way -/
namespace Gx
open PySem PySem.Spec PyProof.Rows L2
section
variable {X : Cx} {C : Addr} {k : Nat} {ps : List Str} {sp : Sp} {E : L2.St → XK}
theorem runX_below {f : Addr} {fd : FuncData} {A : Around} {pins : List (Addr × Obj)} {σ : L2.St} {H : Hp} {s : Shared} {us : List Value} {vs : List V} {Q : VK} (F : FnOk X.prog X.w X.K X.mg X.base (L2.CX X.prog X.w) k f fd ps sp) (room : Room k A) (fr : A.frames = X.A.frames) (b : Binds X.K fd ps [])
    (hx : PassesAt (L2.CX X.prog X.w) X σ (E σ)) (I : Inv X pins σ H s) (r : Vals vs us) (want : sp vs H Q (E σ)) : wpAny (model X.prog X.w) A (call (.ref f) us) (EP X pins σ Q) X.xe s := by
  have e0 : Env0 X.prog X.w X.K X.mg X.base A X.stack s H := by
    have e := I.env0
    exact ⟨by rw [fr]; exact e.frames, e.mod, e.bs, e.bsz, e.funs, e.frf, e.hok, e.bare⟩
  have hl : us.length = ps.length := r.length.symm.trans (F.len _ _ _ _ want)
  have bt : BindsTo s fd ⟨us, []⟩ (ps.zip us) := by
    have q := b s us I.kIn (by rw [List.append_nil]; exact hl)
    rw [List.append_nil] at q
    exact q
  refine wpAny_call (codeAny_mono (F.run A X.stack s H ⟨us, []⟩ us vs Q (E σ) room e0 bt r want) fun res s' hres => ?_)
  match res, hres with
  | .error e, hres => exact hx pins H s e s' I hres
  | .ok (.ret u), hres => exact I.after hres
end
/-- the name x is a def that keeps sp and may raise, whatever is under way -/
def CalY (P : Program) (w : World) (K : PySem.W.Frag) (mg : Str → Option Value) (base : Heap) (k : Nat) (x : Str) (ps : List Str) (sp : Sp) : Prop :=
  ∃ (f : Addr) (fd : FuncData), FnOk P w K mg base (L2.CX P w) k f fd ps sp ∧ PySem.W.keepIn K (.ref f) = true ∧ Binds K fd ps [] ∧ mg x = some (.ref f)
section
variable {P : Program} {w : World} {K : PySem.W.Frag} {mg : Str → Option Value} {base : Heap}
theorem CalY.up {j k : Nat} {x : Str} {ps : List Str} {sp : Sp} (c : CalY P w K mg base j x ps sp) (h : j ≤ k) : CalY P w K mg base k x ps sp := by
  obtain ⟨f, fd, F, r⟩ := c
  exact ⟨f, fd, F.mono h, r⟩
theorem Def.calY {x qual : Str} {st : Stmt} {ps : List Str} (d : Def K mg x qual st ps) {k : Nat} {sp : Sp} (h : ∀ f fd, Fun K x qual st f fd → FnOk P w K mg base (L2.CX P w) k f fd ps sp) : CalY P w K mg base k x ps sp := by
  obtain ⟨f, fd, F, b, g⟩ := d
  exact ⟨f, fd, h f fd F, F.kp, b, g⟩
end
section
variable {X : Cx} {k : Nat} {ps : List Str} {sp : Sp} {E : L2.St → XK}
def tClY (sp : Sp) (E : L2.St → XK) (t : TA) : TE := fun σ H Q => t σ H fun vs H1 => sp vs H1 Q (E σ)
theorem pe_calY {x : Str} {e : Expr} {es : List Expr} {t : TA} {p pos : Pos} (c : CalY X.prog X.w X.K X.mg X.base k x ps sp) (room : Room k X.A) (hg : Gl X x) (hx : ∀ σ, PassesAt (L2.CX X.prog X.w) X σ (E σ)) (h : PA X (e :: es) t)
    (hdb : (x == ("__debug__" : Str)) = false := by decide) (hst : starEach (e :: es) X.env = (false, eval e X.env) :: starEach es X.env := by rfl) (hpl : (backTo pos (starEach es X.env)).any (·.1) = false := by rfl) :
    PE X (.Call (.Name x p) (e :: es) [] pos) (tClY sp E t) := by
  obtain ⟨f, fd, F, kp, b, hm⟩ := c
  refine ⟨fun pins s σ H Q I want => wpAny_Call_Name_kw (ld_glob I hg hm ?_ hdb)⟩
  refine PySem.W.callWith_K (h₀ := X.base) I.ok.mod.kin kp (thn (h.run pos pins s σ H _ I want) fun us s1 ⟨vs, H1, I1, r, q⟩ => ⟨I1.kIn, ?_⟩) hst hpl
  exact runX_below F room rfl b (hx σ) I1 r q
end
end Gx

set_option maxRecDepth 100000
set_option maxHeartbeats 4000000
namespace Kl
open PySem PySem.Spec PyProof.Rows L2 Gx Mx
theorem good20 {q : List Str} (h : goodB q = true) : q.length ≤ 20 := by
  unfold goodB at h
  rw [Bool.and_eq_true] at h
  exact of_decide_eq_true h.1
theorem goodB_int (q : List Str) : (decide ((q.length : Int) ≤ 20) && (q.all nameB && sortedS q)) = goodB q := by
  unfold goodB
  rw [show decide (((q.length : Nat) : Int) ≤ 20) = decide (q.length ≤ 20) by rw [decide_eq_decide]; omega]
theorem tyx_tup {K : PySem.W.Frag} {H : Hp} {p : Addr} {xs : List V} (h : H p = some (.tup xs)) : TyX K H (.ref p) (.type "tuple") := .base (.tup h)
section
variable {P : Program} {w : World} {K : PySem.W.Frag} {mg : Str → Option Value} {base : Heap}
/-! ### text_of, words_of, names_in -/
def spTextOf (K : PySem.W.Frag) : Sp := fun vs H Q _ => ∃ (p : Addr) (q : List Str), vs = [V.ref p] ∧ SqT K H p (q.map V.str) ∧ goodB q = true ∧ Q (.str (textD q)) H
theorem ok_textof {f : Addr} {fd : FuncData} (F : Fun K "text_of" "text_of" s_text_of f fd) (T : Top K mg) : FnOk P w K mg base CX0 1 f fd ["names"] (spTextOf K) := by
  refine F.ok sc_text_of (fun vs H Q E h => ?_) (fun cdv A outer s H vs Q E hr h => ?_)
  · obtain ⟨p, q, rfl, _⟩ := h
    rfl
  · obtain ⟨p, q, rfl, hp, hg, hQ⟩ := h
    refine ⟨_, pss_one (ps_ret (pe_ifExp (pt_truth (pv 0) (fun _ => rfl)) (pe_join pe_str (pv 0)) pe_str)), ?_⟩
    unfold textD at hQ
    cases q with
    | nil =>
      rw [if_pos rfl] at hQ
      exact ⟨_, rfl, false, .inr (.inl ⟨_, hp, rfl⟩), hQ⟩
    | cons z r =>
      rw [if_neg (List.cons_ne_nil _ _)] at hQ
      refine ⟨_, rfl, true, .inr (.inl ⟨_, hp, rfl⟩), ?_⟩
      show (if true = true then _ else _)
      rw [if_pos rfl]
      have l20 := good20 hg
      have ls := sum_by fun z hz => name_len (good_names hg z hz)
      have e1 : ("+" : Str).length = 1 := rfl
      exact ⟨⟨_, rfl⟩, _, rfl, _, p, _, rfl, rfl, .inr hp, by rw [e1]; omega, hQ⟩
def spWords : Sp := fun vs H Q _ => ∃ z : Str, vs = [V.str z] ∧ z.length ≤ 4000 ∧ ∀ p H', Same H H' → H' p = some (.lst ((Txt.split z " ").map V.str)) → Q (.ref p) H'
theorem ok_words {f : Addr} {fd : FuncData} (F : Fun K "words_of" "words_of" s_words_of f fd) (T : Top K mg) : FnOk P w K mg base CX0 1 f fd ["line"] spWords := by
  refine F.ok sc_words_of (fun vs H Q E h => ?_) (fun cdv A outer s H vs Q E hr h => ?_)
  · obtain ⟨z, rfl, _⟩ := h
    rfl
  · obtain ⟨z, rfl, hz, q⟩ := h
    refine ⟨_, pss_one (ps_ret (pe_ifExp (pt_val (pe_callB call_isi (by rfl) T.b_isinstance (by decide +kernel) (pa_cons (pv 0) (pa_cons (pe_bltn (v := .ty "str") (by rfl) T.b_str (by decide +kernel) rfl) pa_nil)))) (pe_split (pv 0) pe_str) (pe_lst pa_nil))), ?_⟩
    have big : 100000 ≤ sizeLine := by decide
    refine ⟨_, rfl, _, .ty "str", .type "str", .type "str", true, rfl, .ty _, .base (.str z), kit_ty (by decide +kernel), true, rfl, ?_⟩
    show (if true = true then _ else _)
    rw [if_pos rfl]
    exact ⟨_, rfl, ⟨_, rfl⟩, z, _, rfl, rfl, rfl, by omega, fun p np => q p _ (same_new (Same.refl H) np) upd_same⟩
def spNI : Sp := fun vs H Q _ => ∃ z : Str, vs = [V.str z, V.int 20] ∧ z.length ≤ 4000 ∧ (∀ p q H', parseD z = some q → Same H H' → H' p = some (.tup (q.map V.str)) → Q (.ref p) H') ∧ (∀ H', parseD z = none → Same H H' → Q .non H')
theorem ok_ni {f : Addr} {fd : FuncData} (F : Fun K "names_in" "names_in" s_names_in f fd) (T : Top K mg) : FnOk P w K mg base CX0 4 f fd ["text", "most"] spNI := by
  have cs : CalO P w K mg base 3 "is_sorted" ["value", "most"] 1 ["most"] (fun vs zs => vs ++ zs) (spSortL K) := T.d_is_sorted.calO fun f fd F => ok_sortL F T
  refine F.ok sc_names_in (fun vs H Q E h => ?_) (fun cdv A outer s H vs Q E hr h => ?_)
  · obtain ⟨z, rfl, _⟩ := h
    rfl
  · obtain ⟨z, rfl, hz, q1, q2⟩ := h
    refine ⟨_, pss_cons (ps_if (pt_not (pt_val (pe_callB call_isi (by rfl) T.b_isinstance (by decide +kernel) (pa_cons (pv 0) (pa_cons (pe_bltn (v := .ty "str") (by rfl) T.b_str (by decide +kernel) rfl) pa_nil))))) (pss_one (ps_ret pe_non)) pss_nil)
      (pss_cut (ps_set (i := 2) sc_names_in.nd rfl (.inl rfl) (pe_ifExp (pt_cmpR op_eq (pv 0) pe_str (nomark _)) (pe_tup pa_nil) (pe_callTy call_tuple_of (by rfl) T.b_tuple (by decide +kernel) (pa_cons (pe_split (pv 0) pe_str) pa_nil))))
      (pss_one (ps_ret (pe_ifExp (pt_val (pe_calO cs hr (by rfl) (pa_cons (pv 2) pa_nil) (pk_cons (pv 1) pk_nil))) (pv 2) pe_non)))), ?_⟩
    have big : 100000 ≤ sizeLine := by decide
    refine ⟨_, rfl, _, .ty "str", .type "str", .type "str", true, rfl, .ty _, .base (.str z), kit_ty (by decide +kernel), true, rfl, ?_⟩
    show (if (!true) = true then _ else _)
    rw [if_neg (by decide)]
    refine ⟨fun σ' G => ∃ (p : Addr) (q : List Str), σ' = [some (.str z), some (.int 20), some (.ref p)] ∧ G p = some (.tup (q.map V.str)) ∧ Same H G ∧ parseD z = (if goodB q = true then some q else none) ∧ q.length ≤ 5000 ∧ ∀ y ∈ q, y.length ≤ 5000, ?_, ?_⟩
    · refine ⟨_, rfl, rfl, _, rfl, ite2 (fun c => ?_) (fun c => ?_)⟩
      · have ez : z = "0" := V.str.inj (of_decide_eq_true c)
        refine ⟨Nat.zero_le _, fun p np => ⟨p, [], rfl, upd_same, same_new (Same.refl H) np, ?_, Nat.zero_le _, nofun⟩⟩
        unfold parseD
        rw [if_pos ez]
        rfl
      · have ez : z ≠ "0" := fun h => c (decide_eq_true (by rw [h]))
        refine ⟨_, rfl, ⟨_, rfl⟩, z, _, rfl, rfl, rfl, by omega, fun l nl => ?_⟩
        have s1 := same_new (o := .lst ((Txt.split z "+").map V.str)) (Same.refl H) nl
        refine ⟨l, _, rfl, .inl ⟨.inl (.inl upd_same), fun t nt => ?_⟩⟩
        refine ⟨t, Txt.split z "+", rfl, upd_same, same_new s1 nt, ?_, ?_, fun y hy => Nat.le_trans (split_short (by decide +kernel) hy) (by omega)⟩
        · unfold parseD
          rw [if_neg ez]
        · have := split_le z "+"
          omega
    rintro σ' G ⟨p, q, rfl, ep, sm, hpa, hl, hy⟩
    refine ⟨_, rfl, _, rfl, rfl, rfl, p, q, 20, rfl, .inl (.inl ep), tyx_tup ep, by decide, by decide, hl, hy, fun H' s => ⟨_, rfl, ?_⟩⟩
    rw [goodB_int]
    cases c : goodB q with
    | true =>
      rw [c, if_pos rfl] at hpa
      exact ⟨_, rfl, q1 p q H' hpa (fun b o e => s _ _ (sm _ _ e)) (s _ _ ep)⟩
    | false =>
      rw [c, if_neg (by decide)] at hpa
      exact q2 H' hpa fun b o e => s _ _ (sm _ _ e)
end
end Kl

set_option maxRecDepth 100000
set_option maxHeartbeats 4000000
namespace Kl
open PySem PySem.Spec PyProof.Rows L2 Gx Mx
section
variable {P : Program} {w : World} {K : PySem.W.Frag} {mg : Str → Option Value} {base : Heap}
/-! ### write_digit, read_digit -/
def spWD (K : PySem.W.Frag) : Sp := fun vs H Q _ => ∃ (p : Addr) (q : List Str), vs = [V.ref p] ∧ SqT K H p (q.map V.str) ∧ goodB q = true ∧ ∀ H', Same H H' → Q (.str (textD q)) H'
theorem ok_wd {f : Addr} {fd : FuncData} (F : Fun K "write_digit" "write_digit" s_write_digit f fd) (T : Top K mg) : FnOk P w K mg base CX0 4 f fd ["digit"] (spWD K) := by
  obtain ⟨tm, gm⟩ := T.g_LOOSE_DIGIT
  have cs : CalO P w K mg base 3 "is_sorted" ["value", "most"] 1 ["most"] (fun vs zs => vs ++ zs) (spSorted K) := T.d_is_sorted.calO fun f fd F => ok_sorted F T
  have ct : Cal P w K mg base 3 "text_of" ["names"] (spTextOf K) := (T.d_text_of.cal fun f fd F => ok_textof F T).mono (by decide)
  refine F.ok sc_write_digit (fun vs H Q E h => ?_) (fun cdv A outer s H vs Q E hr h => ?_)
  · obtain ⟨p, q, rfl, _⟩ := h
    rfl
  · obtain ⟨p, q, rfl, hp, hg, hQ⟩ := h
    refine ⟨_, pss_cons (ps_if (pt_not (pt_val (pe_calO cs hr (by rfl) (pa_cons (pv 0) pa_nil) (pk_cons (pe_glob (v := .int 20) (by rfl) gm ⟨_, rfl⟩) pk_nil)))) (pss_one ps_never) pss_nil)
      (pss_one (ps_ret (pe_cal ct hr (by rfl) (pa_cons (pv 0) pa_nil)))), ?_⟩
    refine ⟨_, rfl, rfl, rfl, p, q, 20, rfl, hp, tyx_sqT hp, by decide, by decide, Nat.le_trans (good20 hg) (by decide), fun z hz => Nat.le_trans (name_len (good_names hg z hz)) (by decide), fun H' s => ⟨_, rfl, ?_⟩⟩
    rw [goodB_int, hg]
    show (if (!true) = true then _ else _)
    rw [if_neg (by decide)]
    exact ⟨_, rfl, p, q, rfl, sqT_sm s hp, hg, hQ H' s⟩
def spRD (CP : Addr) : Sp := fun vs H Q E => ∃ z : Str, vs = [V.str z] ∧ z.length ≤ 4000 ∧ (∀ p q H', parseD z = some q → Same H H' → H' p = some (.tup (q.map V.str)) → Q (.ref p) H') ∧
  ∀ dd H', parseD z = none → Same H H' → H' dd = some (.xd [("number", .non)]) → E (.ref CP) (some dd) H'
theorem ok_rd {CP fI f : Addr} {fd fdI : FuncData} (F : Fun K "read_digit" "read_digit" s_read_digit f fd) (T : Top K mg) (TX : XT_ParseError K mg CP fI) (FX : Fun K "__init__" "ParseError.__init__" s_ParseError_init fI fdI) :
    FnOk P w K mg base (L2.CX P w) 5 f fd ["text"] (spRD CP) := by
  obtain ⟨tm, gm⟩ := T.g_LOOSE_DIGIT
  have cn : CalO P w K mg base 4 "names_in" ["text", "most"] 1 ["most"] (fun vs zs => vs ++ zs) spNI := T.d_names_in.calO fun f fd F => ok_ni F T
  refine F.okX sc_read_digit (fun vs H Q E h => ?_) (fun cdv A outer s H vs Q E hr h => ?_)
  · obtain ⟨z, rfl, _⟩ := h
    rfl
  · obtain ⟨z, rfl, hz, q1, q2⟩ := h
    refine ⟨_, pss_cons (ps_set (i := 1) sc_read_digit.nd rfl (.inl rfl) (pe_calO cn hr (by rfl) (pa_cons (pv 0) pa_nil) (pk_cons (pe_glob (v := .int 20) (by rfl) gm ⟨_, rfl⟩) pk_nil)))
      (pss_cons (ps_if (pt_cmpR op_isN (pv 1) pe_non (nomark _)) (pss_one (ps_raiseX rfl PySem.F.excBase_ValueError TX (init_ParseError TX FX) hr (takes_of rfl rfl rfl rfl) (pa_cons pe_non pa_nil) (by rfl))) pss_nil)
      (pss_one (ps_ret (pv 1)))), ?_⟩
    refine ⟨_, rfl, rfl, rfl, z, rfl, hz, fun p q H' hpa s ep => ?_, fun H' hpa s => ?_⟩
    · refine ⟨_, rfl, rfl, _, rfl, ?_⟩
      show (if decide (V.ref p = V.non) = true then _ else _)
      rw [decide_eq_false (fun h => nomatch h), if_neg (by decide)]
      exact ⟨_, rfl, q1 p q H' hpa s ep⟩
    · refine ⟨_, rfl, rfl, _, rfl, ?_⟩
      show (if decide (V.non = V.non) = true then _ else _)
      rw [decide_eq_true rfl, if_pos rfl]
      exact ⟨.non, rfl, fun dd nd => q2 dd _ hpa (same_new s nd) upd_same⟩
/-! ### write_row -/
def spWR (K : PySem.W.Frag) : Sp := fun vs H Q _ => ∃ (p : Addr) (LL : List (Addr × List Str)), vs = [V.ref p] ∧ RowAt K H p LL ∧ looseB (LL.map (·.2)) = true ∧ ∀ H', Same H H' → Q (.str (textR (LL.map (·.2)))) H'
abbrev NWR : List Str := ["row", "digit"]
theorem ok_wr {f : Addr} {fd : FuncData} (F : Fun K "write_row" "write_row" s_write_row f fd) (T : Top K mg) : FnOk P w K mg base CX0 8 f fd ["row"] (spWR K) := by
  have cc : Cal P w K mg base 7 "_check_loose" ["row"] (spChkL K) := T.d_check_loose.cal fun f fd F => ok_chkL F T
  have ct : Cal P w K mg base 7 "text_of" ["names"] (spTextOf K) := (T.d_text_of.cal fun f fd F => ok_textof F T).mono (by decide)
  refine F.ok sc_write_row (fun vs H Q E h => ?_) (fun cdv A outer s H vs Q E hr h => ?_)
  · obtain ⟨p, LL, rfl, _⟩ := h
    rfl
  · obtain ⟨p, LL, rfl, hR, hL, q⟩ := h
    refine ⟨_, pss_cons (ps_expr (pe_cal cc hr (by rfl) (pa_cons (pv 0) pa_nil)))
      (pss_one (ps_ret (pe_ifExp (pt_truth (pv 0) (fun _ => rfl)) (pe_join pe_str (pe_lc (own := [("digit", 1)]) (g := gName 1) (tt := tYes) rfl sc_write_row.nd (pi_tup (pv 0))
        (blkOk_by (N := NWR) (sc := defScope s_write_row) (by decide +kernel)) (fun _ _ _ _ _ => pg_name (i := 1) sc_write_row.nd rfl (.inl rfl)) (fun _ _ _ _ _ => pts_nil)
        (fun _ _ _ _ _ => pe_cal ct hr (by rfl) (pa_cons (pv 1) pa_nil)))) pe_str))), ?_⟩
    have hL2 := hL
    unfold looseB at hL2
    rw [Bool.and_eq_true, Bool.and_eq_true] at hL2
    have lq := of_decide_eq_true hL2.1.1
    have hg := List.all_eq_true.mp hL2.1.2
    rw [List.length_map] at lq
    have hgL : ∀ q ∈ LL, goodB q.2 = true := fun q hq => hg _ (List.mem_map.mpr ⟨q, hq, rfl⟩)
    have hF : Few (LL.map (·.2)) := ⟨by rw [List.length_map]; omega, fun x hx => ⟨Nat.le_trans (good20 (hg x hx)) (by decide), fun z hz => Nat.le_trans (name_len (good_names (hg x hx) z hz)) (by decide)⟩⟩
    refine ⟨_, rfl, p, LL, rfl, hR, hF, hL, fun H1 s1 => ?_⟩
    have hR1 := hR.same s1
    have q1 : ∀ H', Same H1 H' → Q (.str (textR (LL.map (·.2)))) H' := fun H' s => q H' fun b o e => s _ _ (s1 _ _ e)
    unfold textR at q1
    have big : 100000 ≤ sizeLine := by decide
    cases LL with
    | nil =>
      refine ⟨_, rfl, false, .inr (.inl ⟨_, hR1.e, rfl⟩), ?_⟩
      exact q1 H1 (Same.refl H1)
    | cons a r =>
      rw [if_neg (fun h => nomatch h)] at q1
      refine ⟨_, rfl, true, .inr (.inl ⟨_, hR1.e, rfl⟩), ?_⟩
      show (if true = true then _ else _)
      rw [if_pos rfl]
      generalize a :: r = LL at lq hgL hR1 q1
      refine ⟨⟨_, rfl⟩, _, rfl, p, rfl, ⟨_, hR1.e⟩, fun D hD => ?_⟩
      refine lc_it (g := gName 1) (tt := tYes) (vs := [1]) (walk_tup (K := K) (a := p) (xs := LL.map fun q => V.ref q.1)) (fun j G' => G' D = some (.lst (((LL.take j).map fun q => textD q.2).map V.str)) ∧ Same H1 G')
        ⟨upd_same, same_new (Same.refl H1) hD⟩ (fun j G' _ h => sqT_sm h.2 hR1.e) (fun j u Gx G' hj h hy => ?_) (fun G' h => ?_)
      · obtain ⟨eD, sm⟩ := h
        obtain ⟨rfl, hu⟩ := hy
        have hu : (LL.map fun q => V.ref q.1)[j]? = some u := hu
        rw [List.getElem?_map] at hu
        obtain ⟨q0, hq0, rfl⟩ := Option.map_eq_some_iff.mp hu
        have hm := List.mem_of_getElem? hq0
        refine ⟨rfl, _, rfl, q0.1, q0.2, rfl, sqT_sm sm (hR1.t q0 hm), hgL q0 hm, _, eD, ?_, ?_, fun b o e => by rw [upd_ne (ne_of_none e hD)]; exact sm b o e⟩
        · rw [List.length_map, List.length_map, List.length_take]
          omega
        · rw [upd_same, take_snoc hq0, List.map_append, List.map_append]
          rfl
      · obtain ⟨eD, sm⟩ := h
        rw [List.length_map, List.take_length] at eD
        refine ⟨_, D, _, rfl, rfl, .inl (.inl (.inl eD)), ?_, ?_⟩
        · have h3 : ((LL.map fun q => textD q.2).map (·.length)).sum ≤ (LL.map fun q => textD q.2).length * 200 := sum_by fun z hz => by
            obtain ⟨x, hx, rfl⟩ := List.mem_map.mp hz
            exact textD_len (hgL x hx)
          have h4 : (" " : Str).length = 1 := by decide +kernel
          rw [List.length_map] at h3
          rw [h4, List.length_map]
          omega
        · have h5 := q1 G' sm
          rw [List.map_map] at h5
          exact h5
/-! ### read_row -/
/-- what names_in makes of a word -/
def DgV (K : PySem.W.Frag) (H : Hp) (z : Str) (x : V) : Prop := match parseD z with
  | some q => ∃ p, x = .ref p ∧ SqT K H p (q.map V.str)
  | none => x = .non
theorem DgV.same {H H' : Hp} {z : Str} {x : V} (h : DgV K H z x) (s : Same H H') : DgV K H' z x := by
  unfold DgV at h ⊢
  cases e : parseD z with
  | none => rw [e] at h; exact h
  | some q =>
    rw [e] at h
    obtain ⟨p, e1, e2⟩ := h
    exact ⟨p, e1, sqT_sm s e2⟩
def DgA (K : PySem.W.Frag) (H : Hp) (ws : List Str) (xs : List V) : Prop := ∀ (i : Nat) (z : Str) (x : V), ws[i]? = some z → xs[i]? = some x → DgV K H z x
theorem DgA.tail {H : Hp} {z : Str} {x : V} {ws : List Str} {xs : List V} (h : DgA K H (z :: ws) (x :: xs)) : DgA K H ws xs := fun i a b e1 e2 => h (i + 1) a b (by rw [List.getElem?_cons_succ]; exact e1) (by rw [List.getElem?_cons_succ]; exact e2)
theorem dgA_snoc {H1 G' H' : Hp} {ws : List Str} {xs : List V} {D : Addr} {j : Nat} {y : Str} {v : V} (eD : G' D = some (.lst xs)) (lx : xs.length = j) (sm : Same H1 G') (hA : DgA K G' ws xs) (hy : ws[j]? = some y) (hD : H1 D = none) (s : Same G' H') (hv : DgV K H' y v) :
    ∃ xs2 : List V, (upd H' D (.lst (xs ++ [v]))) D = some (.lst xs2) ∧ xs2.length = j + 1 ∧ Same H1 (upd H' D (.lst (xs ++ [v]))) ∧ DgA K (upd H' D (.lst (xs ++ [v]))) ws xs2 := by
  have eD' := s _ _ eD
  have keep : ∀ {z x}, DgV K H' z x → DgV K (upd H' D (.lst (xs ++ [v]))) z x := fun {z x} h => by
    unfold DgV at h ⊢
    cases e : parseD z with
    | none => rw [e] at h; exact h
    | some q =>
      rw [e] at h
      obtain ⟨p, e1, e2⟩ := h
      exact ⟨p, e1, sqT_lst eD' e2⟩
  refine ⟨xs ++ [v], upd_same, by rw [List.length_append, lx]; rfl, fun b o e => by rw [upd_ne (ne_of_none e hD)]; exact s _ _ (sm b o e), fun i a b e1 e2 => ?_⟩
  by_cases c2 : i < xs.length
  · rw [List.getElem?_append_left c2] at e2
    exact keep ((hA i a b e1 e2).same s)
  · rw [List.getElem?_append_right (by omega)] at e2
    have : i = j := by
      have : i - xs.length < [v].length := by
        rcases Nat.lt_or_ge (i - xs.length) [v].length with h | h
        · exact h
        · rw [List.getElem?_eq_none h] at e2
          cases e2
      rw [List.length_singleton] at this
      omega
    subst this
    rw [hy] at e1
    cases e1
    rw [lx, Nat.sub_self] at e2
    cases e2
    exact keep hv
theorem dgs_row : ∀ {ws : List Str} {xs : List V} {H : Hp} {qs : List (List Str)}, xs.length = ws.length → DgA K H ws xs → allSome (ws.map parseD) = some qs → ∃ LL : List (Addr × List Str), xs = LL.map (fun q => V.ref q.1) ∧ LL.map (·.2) = qs ∧ TxtsAt K H LL
  | [], [], H, qs, _, _, e => by
    cases e
    exact ⟨[], rfl, rfl, nofun⟩
  | [], _ :: _, _, _, l, _, _ => by cases l
  | _ :: _, [], _, _, l, _, _ => by cases l
  | z :: ws, x :: xs, H, qs, l, h, e => by
    have h0 := h 0 z x rfl rfl
    unfold DgV at h0
    rw [List.map_cons] at e
    cases e1 : parseD z with
    | none =>
      rw [e1] at e
      cases e
    | some q =>
      rw [e1] at e h0
      have e : (allSome (ws.map parseD)).map (q :: ·) = some qs := e
      cases e2 : allSome (ws.map parseD) with
      | none => rw [e2] at e; cases e
      | some rs =>
        rw [e2] at e
        cases e
        obtain ⟨p, rfl, hp⟩ := h0
        obtain ⟨LL, i1, i2, i3⟩ := dgs_row (Nat.succ.inj l) h.tail e2
        refine ⟨(p, q) :: LL, by rw [List.map_cons, i1], by rw [List.map_cons, i2], fun y hy => ?_⟩
        rcases List.mem_cons.mp hy with rfl | hy
        · exact hp
        · exact i3 y hy
theorem dgs_bad {ws : List Str} {xs : List V} {H : Hp} {p : Addr} (e : H p = some (.tup xs)) (l : xs.length = ws.length) (few : xs.length ≤ 1000) (h : DgA K H ws xs) : Digs K H p xs (ws.map fun z => (parseD z).isSome) := by
  refine ⟨.inl (.inl e), few, by rw [List.length_map, l], fun i x c e1 e2 => ?_⟩
  rw [List.getElem?_map] at e2
  obtain ⟨z, hz, rfl⟩ := Option.map_eq_some_iff.mp e2
  have h0 := h i z x hz e1
  unfold DgV at h0
  cases e3 : parseD z with
  | none =>
    rw [e3] at h0
    subst h0
    exact .inl ⟨⟨_, .base .non, kit_ty (by decide +kernel)⟩, rfl⟩
  | some q =>
    rw [e3] at h0
    obtain ⟨a, rfl, hp⟩ := h0
    have hg := (parse_text e3).2
    have r := sortArg_texts (n := 20) hp (Nat.le_trans (good20 hg) (by decide)) (fun y hy => Nat.le_trans (name_len (good_names hg y hy)) (by decide))
    have e4 : (decide (q.length ≤ 20) && (q.all nameB && sortedS q)) = true := hg
    rw [e4] at r
    exact r
abbrev NRR : List Str := ["text", "row", "word"]
def spRR (K : PySem.W.Frag) (CP : Addr) : Sp := fun vs H Q E => ∃ (z : Str) (n : Nat), vs = [V.str z] ∧ Tx n z ∧ n ≤ 100 ∧ (∀ p LL H', parseR z = some (LL.map (·.2)) → Same H H' → RowAt K H' p LL → Q (.ref p) H') ∧
  ∀ dd H', parseR z = none → Same H H' → H' dd = some (.xd [("number", .non)]) → E (.ref CP) (some dd) H'
theorem ok_rr {CP fI f : Addr} {fd fdI : FuncData} (F : Fun K "read_row" "read_row" s_read_row f fd) (T : Top K mg) (TX : XT_ParseError K mg CP fI) (FX : Fun K "__init__" "ParseError.__init__" s_ParseError_init fI fdI) :
    FnOk P w K mg base (L2.CX P w) 7 f fd ["text"] (spRR K CP) := by
  obtain ⟨tm, gm⟩ := T.g_LOOSE_DIGIT
  have cn : CalO P w K mg base 6 "names_in" ["text", "most"] 1 ["most"] (fun vs zs => vs ++ zs) spNI := (T.d_names_in.calO fun f fd F => ok_ni F T).mono (by decide)
  have cw : Cal P w K mg base 6 "words_of" ["line"] spWords := (T.d_words_of.cal fun f fd F => ok_words F T).mono (by decide)
  have cl : Cal P w K mg base 6 "is_loose" ["value"] (spLooseA K) := T.d_is_loose.cal fun f fd F => ok_looseA F T
  refine F.okX sc_read_row (fun vs H Q E h => ?_) (fun cdv A outer s H vs Q E hr h => ?_)
  · obtain ⟨z, n, rfl, _⟩ := h
    rfl
  · obtain ⟨z, n, rfl, hz, hn, q1, q2⟩ := h
    refine ⟨_, pss_cons (ps_if (pt_cmpR op_eq (pv 0) pe_str (nomark _)) (pss_one (ps_ret (pe_tup pa_nil))) pss_nil)
      (pss_cut (ps_set (i := 1) sc_read_row.nd rfl (.inl rfl) (pe_callTy call_tuple_of (by rfl) T.b_tuple (by decide +kernel) (pa_cons
        (pe_lc (own := [("word", 2)]) (g := gName 2) (tt := tYes) rfl sc_read_row.nd (pi_list (pe_cal cw hr (by rfl) (pa_cons (pv 0) pa_nil)))
          (blkOk_by (N := NRR) (sc := defScope s_read_row) (by decide +kernel)) (fun _ _ _ _ _ => pg_name (i := 2) sc_read_row.nd rfl (.inl rfl)) (fun _ _ _ _ _ => pts_nil)
          (fun _ _ _ _ _ => pe_calO cn hr (by rfl) (pa_cons (pv 2) pa_nil) (pk_cons (pe_glob (v := .int 20) (by rfl) gm ⟨_, rfl⟩) pk_nil))) pa_nil)))
      (pss_cons (ps_if (PW.pt (pw_or (pt_not (pt_truth (pv 1) (fun _ => rfl))) (pw_or1 (pt_not (pt_val (pe_cal cl hr (by rfl) (pa_cons (pv 1) pa_nil))))))) (pss_one (ps_raiseX rfl PySem.F.excBase_ValueError TX (init_ParseError TX FX) hr (takes_of rfl rfl rfl rfl) (pa_cons pe_non pa_nil) (by rfl))) pss_nil)
      (pss_one (ps_ret (pv 1))))), ?_⟩
    have big : 100000 ≤ sizeLine := by decide
    have hz4 : z.length ≤ 4000 := by have := hz.len; omega
    refine ⟨_, rfl, rfl, _, rfl, ite2 (fun c => ?_) (fun c => ?_)⟩
    · have ez : z = "-" := V.str.inj (of_decide_eq_true c)
      refine ⟨Nat.zero_le _, fun p np => q1 p [] _ ?_ (same_new (Same.refl H) np) ⟨.inl (.inl upd_same), nofun⟩⟩
      unfold parseR
      rw [if_pos ez]
      rfl
    have ez : z ≠ "-" := fun h => c (decide_eq_true (by rw [h]))
    have l402 := tx_split hz hn
    have hpr : parseR z = match allSome ((Txt.split z " ").map parseD) with
      | none => none
      | some qs => if qs.drop (qs.length - 1) = [[]] then none else some qs := by
      unfold parseR
      rw [if_neg ez]
      all_goals (cases allSome ((Txt.split z " ").map parseD) <;> rfl)
    have wlen : ∀ y ∈ Txt.split z " ", y.length ≤ 4000 := fun y hy => Nat.le_trans (split_short (by decide +kernel) hy) hz4
    have wne := split_ne z " "
    refine ⟨fun σ' G => ∃ (p : Addr) (xs : List V), σ' = [some (.str z), some (.ref p), none] ∧ G p = some (.tup xs) ∧ Same H G ∧ xs.length = (Txt.split z " ").length ∧ DgA K G (Txt.split z " ") xs, ?_, ?_⟩
    · refine ⟨_, rfl, z, rfl, hz4, fun l H1 s1 el => ?_⟩
      refine ⟨l, rfl, ⟨_, .inl (.inl el)⟩, fun D hD => ?_⟩
      generalize Txt.split z " " = ws at l402 wlen el
      have nlD : l ≠ D := fun h => by rw [h, hD] at el; cases el
      refine lc_it (g := gName 2) (tt := tYes) (vs := [2]) (walk_list (K := K) (a := l) (xs := ws.map V.str)) (fun j G' => ∃ xs : List V, G' D = some (.lst xs) ∧ xs.length = j ∧ Same H1 G' ∧ DgA K G' ws xs)
        ⟨[], upd_same, rfl, same_new (Same.refl H1) hD, fun i a b _ e => by cases e⟩ (fun j G' _ h => by obtain ⟨_, _, _, s, _⟩ := h; exact .inl (.inl (s _ _ el))) (fun j u Gx G' hj h hy => ?_) (fun G' h => ?_)
      · obtain ⟨xs, eD, lx, sm, hA⟩ := h
        obtain ⟨rfl, hu⟩ := hy
        have hu : (ws.map V.str)[j]? = some u := hu
        rw [List.getElem?_map] at hu
        obtain ⟨y, hy, rfl⟩ := Option.map_eq_some_iff.mp hu
        rw [List.length_map] at hj
        refine ⟨rfl, _, rfl, rfl, rfl, y, rfl, wlen y (List.mem_of_getElem? hy), fun p q H' hpa s ep => ?_, fun H' hpa s => ?_⟩
        · exact ⟨xs, s _ _ eD, by omega, dgA_snoc eD lx sm hA hy hD s (by unfold DgV; rw [hpa]; exact ⟨p, rfl, .inl (.inl ep)⟩)⟩
        · exact ⟨xs, s _ _ eD, by omega, dgA_snoc eD lx sm hA hy hD s (by unfold DgV; rw [hpa])⟩
      · obtain ⟨xs, eD, lx, sm, hA⟩ := h
        rw [List.length_map] at lx
        refine ⟨D, xs, rfl, .inl ⟨.inl (.inl eD), fun t nt => ?_⟩⟩
        exact ⟨t, xs, rfl, upd_same, fun b o e => same_new sm nt b o (s1 _ _ e), lx, fun i a b e1 e2 => (hA i a b e1 e2).same (same_new (Same.refl G') nt)⟩
    generalize Txt.split z " " = ws at l402 hpr wlen wne
    rintro σ' G ⟨p, xs, rfl, ep, sm, lx, hA⟩
    have xne : xs ≠ [] := fun h => by
      rw [h] at lx
      exact wne (List.eq_nil_of_length_eq_zero lx.symm)
    obtain ⟨x0, xr, ex⟩ : ∃ x0 xr, xs = x0 :: xr := by
      cases xs with
      | nil => exact absurd rfl xne
      | cons a r => exact ⟨a, r, rfl⟩
    have bad : ∀ {G' : Hp}, Same G G' → parseR z = none → ∀ dd, G' dd = none → E (.ref CP) (some dd) (upd G' dd (.xd [("number", .non)])) := fun {G'} s hp dd nd => q2 dd _ hp (same_new (fun b o e => s _ _ (sm b o e)) nd) upd_same
    refine ⟨_, rfl, true, .inr (.inl ⟨xs, .inl (.inl ep), by rw [ex]; rfl⟩), ?_⟩
    show (if (!true) = true then _ else _)
    rw [if_neg (by decide)]
    cases e : allSome (ws.map parseD) with
    | none =>
      rw [e] at hpr
      refine ⟨_, rfl, .inl ⟨.ref p, rfl, .inr ⟨p, xs, _, rfl, dgs_bad ep lx (by omega) hA, ?_⟩, fun H' s => ⟨_, rfl, ?_⟩⟩⟩
      · have hm := allSome_none e
        obtain ⟨y, hy, ey⟩ := List.mem_map.mp hm
        cases c2 : (ws.map fun z => (parseD z).isSome).all id with
        | false => rfl
        | true =>
          have := List.all_eq_true.mp c2 _ (List.mem_map.mpr ⟨y, hy, rfl⟩)
          rw [ey] at this
          cases this
      show (if (!false) = true then _ else _)
      rw [if_pos (by decide)]
      exact ⟨.non, rfl, bad s hpr⟩
    | some qs =>
      rw [e] at hpr
      have hpr : parseR z = if qs.drop (qs.length - 1) = [[]] then none else some qs := hpr
      obtain ⟨LL, e1, e2, e3⟩ := dgs_row lx hA e
      have hR : RowAt K G p LL := ⟨.inl (.inl (by rw [ep, e1])), e3⟩
      have hgq : ∀ q ∈ qs, goodB q = true := fun q hq => by
        have h1 := allSome_some e
        have h2 : some q ∈ ws.map parseD := by
          rw [h1]
          exact List.mem_map.mpr ⟨q, hq, rfl⟩
        obtain ⟨y, _, hy⟩ := List.mem_map.mp h2
        exact (parse_text hy).2
      have lq : qs.length ≤ 402 := by
        have h1 := congrArg List.length (allSome_some e)
        rw [List.length_map, List.length_map] at h1
        omega
      have hF : Few (LL.map (·.2)) := by
        rw [e2]
        exact ⟨by omega, fun x hx => ⟨Nat.le_trans (good20 (hgq x hx)) (by decide), fun z hz => Nat.le_trans (name_len (good_names (hgq x hx) z hz)) (by decide)⟩⟩
      refine ⟨_, rfl, .inr ⟨p, LL, rfl, hR, hF, fun H' s => ⟨_, rfl, ?_⟩⟩⟩
      have hl : looseB (LL.map (·.2)) = !decide (qs.drop (qs.length - 1) = [[]]) := by
        rw [e2]
        unfold looseB
        rw [decide_eq_true lq, List.all_eq_true.mpr hgq]
        rfl
      rw [hl]
      by_cases c2 : qs.drop (qs.length - 1) = [[]]
      · rw [if_pos c2] at hpr
        rw [decide_eq_true c2]
        show (if (!(!true)) = true then _ else _)
        rw [if_pos (by decide)]
        exact ⟨.non, rfl, bad s hpr⟩
      · rw [if_neg c2] at hpr
        rw [decide_eq_false c2]
        show (if (!(!false)) = true then _ else _)
        rw [if_neg (by decide)]
        exact ⟨_, rfl, q1 p LL H' (by rw [hpr, e2]) (fun b o e => s _ _ (sm b o e)) (hR.same s)⟩
end
end Kl

set_option maxRecDepth 100000
set_option maxHeartbeats 4000000
/-! ### sorted of a long list of texts -/
namespace Gx
open PySem PySem.Spec PyProof.Rows L2
section
variable {X : Cx}
def rSortedLS (K : PySem.W.Frag) : List V → Hp → VK → Prop := fun vs H Q => ∃ (a : Addr) (xs : List Str), vs = [V.ref a] ∧ SqL K H a (xs.map V.str) ∧ xs.length ≤ 100000 ∧
  ∀ (ys : List Str) (p : Addr), ys.Perm xs → sortedS ys = true → H p = none → Q (.ref p) (upd H p (.lst (ys.map V.str)))
theorem cr_sortedLS : CallR X (.builtin "sorted") (rSortedLS X.K) := by
  intro pins s σ H vs us Q I r h
  obtain ⟨a, xs, rfl, ht, hz, q⟩ := h
  obtain ⟨its, rv, ⟨o, n, ho, hc, _, hd⟩, _⟩ := I.list ht
  rw [Vals.ref1 r]
  have hln : xs.length = its.length := by
    have e := rv.length
    rw [List.length_map] at e
    exact e
  have hS : StrsAre its xs := rv.strs
  have hL : its.length ≤ sizeLine := Nat.le_trans (by omega) (show 100000 ≤ sizeLine by decide)
  refine Calls.call_function_entry kind_sorted plain_sorted entry_sorted (args_sorted1 _) ?_
  unfold Builtin.«sorted»
  refine wpAny_bind (m := checkCount "sorted" 1 1 _) (wpAny_pure ?_)
  refine wpAny_bind (wpAny_collect_seq a (.inl rfl) ho hc hd (fun h' hk => ?_) (by rw [List.size_toArray]; exact hL))
  have I1 : Inv _ pins σ H { s with heap := h' } := I.kept (t' := s.toks) hk
  rw [List.toList_toArray]
  refine wpAny_bind (wpAny_newList ?_ hL)
  have hoL : (h'.push (seqObj "list" its.toArray 0)).get? h'.objs.size = some (seqObj "list" its.toArray 0) := Heap.get?_push_size _ rfl
  show wpAny _ _ _ _ _ { s with heap := h'.push (seqObj "list" its.toArray 0) }
  refine wpAny_bind (wpAny_holding (wpAny_call_entry slot_list_sort ⟨_, hoL, rfl⟩ entry_list_sort
    (list_sort_treeKAny strKind_oneLt (s := { s with heap := h'.push (seqObj "list" its.toArray 0) }) hoL hS.keysOf (fun v₁ v₂ rest e => keyKind_strs (by rw [← e]; exact hS)) hL fun st' hp hs => ⟨_, rfl, ?_⟩) (args_list_sort _)))
  obtain ⟨ys, g1, g2, g3⟩ := sorted_out_str hS hp hs
  obtain ⟨e', he'⟩ := sortedHeap_at (vs := its) (out := (arrOf st').map (·.2)) hoL
  have hlen : (ys.map V.str).length ≤ sizeLine := by
    rw [List.length_map, g2.length_eq, hln]
    exact hL
  refine wpAny_pure ⟨_, rfl, .ref h'.objs.size, upd H h'.objs.size (.lst (ys.map V.str)), I1.laid (t' := s.toks) (fun b u e => ?_) (Nat.le_refl _)
    (show ObjOk X.prog X.w _ _ _ (.lst (ys.map V.str)) from ⟨hlen, ((arrOf st').map (·.2)).toList, e', vals_of_strs g1, by rw [Array.toArray_toList]; exact he'⟩), rfl, q ys _ g2 g3 (I1.hok.fresh (Nat.le_refl _))⟩
  have hb : b < h'.objs.size := Heap.lt_size e
  rw [sortedHeap_old (Nat.ne_of_lt hb) (by rw [size_push']; exact Nat.lt_succ_of_lt hb)]
  exact Heap.get?_push_of_some _ e
end
end Gx

set_option maxRecDepth 100000
set_option maxHeartbeats 4000000
namespace Kl
open PySem PySem.Spec PyProof.Rows L2 Gx Mx
section
variable {P : Program} {w : World} {K : PySem.W.Frag} {mg : Str → Option Value} {base : Heap}
/-! ### _law_digit_text, _law_row_text -/
def spDT (K : PySem.W.Frag) : Sp := fun vs H Q _ => ∃ (p : Addr) (q : List Str), vs = [V.ref p] ∧ SqT K H p (q.map V.str) ∧ goodB q = true ∧ ∀ H', Same H H' → Q (.str (textD q)) H'
theorem ok_dt {f : Addr} {fd : FuncData} (F : Fun K "_law_digit_text" "_law_digit_text" s_law_digit_text f fd) (T : Top K mg) : FnOk P w K mg base CX0 1 f fd ["_law_digit"] (spDT K) := by
  refine F.ok sc_law_digit_text (fun vs H Q E h => ?_) (fun cdv A outer s H vs Q E hr h => ?_)
  · obtain ⟨p, q, rfl, _⟩ := h
    rfl
  · obtain ⟨p, q, rfl, hp, hg, hQ⟩ := h
    refine ⟨_, pss_one (ps_ret (pe_ifExp (pt_cmpR (op_neD hr.units) (pv 0) (pe_tup pa_nil) (by rfl)) (pe_join pe_str (pv 0)) pe_str)), ?_⟩
    refine ⟨_, rfl, Nat.zero_le _, fun t nt => ?_⟩
    have s1 := same_new (o := .tup []) (Same.refl H) nt
    have et : (upd H t (.tup [])) t = some (.tup []) := upd_same
    generalize upd H t (.tup []) = H1 at s1 et
    have hp1 := sqT_sm s1 hp
    have h2 := hQ H1 s1
    unfold textD at h2
    refine ⟨.tuple (tD q), .tuple (tD []), .tup hp1 (dp_texts _), .tup (.inl (.inl et)) (dp_texts []), shaped_textsT (fun z hz => names_low (good_names hg z hz)), shaped_textsT (fun z hz => nomatch hz), ?_⟩
    rw [PyData.eqv, eqv_texts]
    refine ⟨_, rfl, ?_⟩
    by_cases c : q = []
    · rw [decide_eq_true c]
      rw [if_pos c] at h2
      exact h2
    · rw [decide_eq_false c]
      rw [if_neg c] at h2
      have l20 := good20 hg
      have ls := sum_by fun z hz => name_len (good_names hg z hz)
      have e1 : ("+" : Str).length = 1 := rfl
      exact ⟨⟨_, rfl⟩, _, rfl, _, p, _, rfl, rfl, .inr hp1, by rw [e1]; omega, h2⟩
def spRT (K : PySem.W.Frag) : Sp := fun vs H Q _ => ∃ (p : Addr) (LL : List (Addr × List Str)), vs = [V.ref p] ∧ RowAt K H p LL ∧ (∀ q ∈ LL, goodB q.2 = true) ∧ LL.length ≤ 402 ∧ ∀ H', Same H H' → Q (.str (textR (LL.map (·.2)))) H'
abbrev NRT : List Str := ["_law_row", "_law_digit"]
theorem ok_rt {f : Addr} {fd : FuncData} (F : Fun K "_law_row_text" "_law_row_text" s_law_row_text f fd) (T : Top K mg) : FnOk P w K mg base CX0 2 f fd ["_law_row"] (spRT K) := by
  have ct : Cal P w K mg base 1 "_law_digit_text" ["_law_digit"] (spDT K) := T.d_law_digit_text.cal fun f fd F => ok_dt F T
  refine F.ok sc_law_row_text (fun vs H Q E h => ?_) (fun cdv A outer s H vs Q E hr h => ?_)
  · obtain ⟨p, LL, rfl, _⟩ := h
    rfl
  · obtain ⟨p, LL, rfl, hR, hgL, lq, q⟩ := h
    refine ⟨_, pss_one (ps_ret (pe_ifExp (pt_cmpR (op_neD hr.units) (pv 0) (pe_tup pa_nil) (by rfl)) (pe_join pe_str (pe_lc (own := [("_law_digit", 1)]) (g := gName 1) (tt := tYes) rfl sc_law_row_text.nd (pi_tup (pv 0))
        (blkOk_by (N := NRT) (sc := defScope s_law_row_text) (by decide +kernel)) (fun _ _ _ _ _ => pg_name (i := 1) sc_law_row_text.nd rfl (.inl rfl)) (fun _ _ _ _ _ => pts_nil)
        (fun _ _ _ _ _ => pe_cal ct hr (by rfl) (pa_cons (pv 1) pa_nil)))) pe_str)), ?_⟩
    refine ⟨_, rfl, Nat.zero_le _, fun t nt => ?_⟩
    have s1 := same_new (o := .tup []) (Same.refl H) nt
    have et : (upd H t (.tup [])) t = some (.tup []) := upd_same
    generalize upd H t (.tup []) = H1 at s1 et
    have hR1 := hR.same s1
    have q1 : ∀ H', Same H1 H' → Q (.str (textR (LL.map (·.2)))) H' := fun H' s => q H' fun b o e => s _ _ (s1 _ _ e)
    unfold textR at q1
    have big : 100000 ≤ sizeLine := by decide
    refine ⟨_, rD [], hR1.dp, .tup (.inl (.inl et)) .nil, row_shaped fun x hx => ?_, row_shaped nofun, ?_⟩
    · obtain ⟨y, hy, rfl⟩ := List.mem_map.mp hx
      exact fun z hz => names_low (good_names (hgL y hy) z hz)
    rw [eqv_row]
    refine ⟨_, rfl, ?_⟩
    by_cases c : LL.map (·.2) = []
    · rw [decide_eq_true c]
      rw [if_pos c] at q1
      exact q1 H1 (Same.refl H1)
    · rw [decide_eq_false c]
      rw [if_neg c] at q1
      refine ⟨⟨_, rfl⟩, _, rfl, p, rfl, ⟨_, hR1.e⟩, fun D hD => ?_⟩
      refine lc_it (g := gName 1) (tt := tYes) (vs := [1]) (walk_tup (K := K) (a := p) (xs := LL.map fun q => V.ref q.1)) (fun j G' => G' D = some (.lst (((LL.take j).map fun q => textD q.2).map V.str)) ∧ Same H1 G')
        ⟨upd_same, same_new (Same.refl H1) hD⟩ (fun j G' _ h => sqT_sm h.2 hR1.e) (fun j u Gx G' hj h hy => ?_) (fun G' h => ?_)
      · obtain ⟨eD, sm⟩ := h
        obtain ⟨rfl, hu⟩ := hy
        have hu : (LL.map fun q => V.ref q.1)[j]? = some u := hu
        rw [List.getElem?_map] at hu
        obtain ⟨q0, hq0, rfl⟩ := Option.map_eq_some_iff.mp hu
        have hm := List.mem_of_getElem? hq0
        refine ⟨rfl, _, rfl, q0.1, q0.2, rfl, sqT_sm sm (hR1.t q0 hm), hgL q0 hm, fun G3 s3 => ?_⟩
        refine ⟨_, s3 _ _ eD, ?_, ?_, fun b o e => by rw [upd_ne (ne_of_none e hD)]; exact s3 _ _ (sm b o e)⟩
        · rw [List.length_map, List.length_map, List.length_take]
          omega
        · rw [upd_same, take_snoc hq0, List.map_append, List.map_append]
          rfl
      · obtain ⟨eD, sm⟩ := h
        rw [List.length_map, List.take_length] at eD
        refine ⟨_, D, _, rfl, rfl, .inl (.inl (.inl eD)), ?_, ?_⟩
        · have h3 : ((LL.map fun q => textD q.2).map (·.length)).sum ≤ (LL.map fun q => textD q.2).length * 200 := sum_by fun z hz => by
            obtain ⟨x, hx, rfl⟩ := List.mem_map.mp hz
            exact textD_len (hgL x hx)
          have h4 : (" " : Str).length = 1 := by decide +kernel
          rw [List.length_map] at h3
          rw [h4, List.length_map]
          omega
        · have h5 := q1 G' sm
          rw [List.map_map] at h5
          exact h5
/-! ### _law_any_name -/
theorem alpha_low : ∀ v ∈ signV ("abcdefghijklmnopqrstuvwxyz" : Str), ∃ c : Nat, v = .str ⟨#[c]⟩ ∧ isLow c = true := by
  intro v hv
  obtain ⟨c, hc, rfl⟩ := List.mem_map.mp hv
  refine ⟨c, rfl, ?_⟩
  have : ∀ c ∈ ("abcdefghijklmnopqrstuvwxyz" : Str).cps.toList, isLow c = true := by decide +kernel
  exact this c hc
theorem join_one : ∀ {zs : List Str}, (∀ z ∈ zs, z.length = 1) → (∀ z ∈ zs, ∀ c ∈ z.cps.toList, isLow c = true) → (Txt.join "" zs).length = zs.length ∧ ∀ c ∈ (Txt.join "" zs).cps.toList, isLow c = true
  | [], _, _ => ⟨rfl, fun c hc => by rw [TL.join_eq] at hc; cases hc⟩
  | [a], h1, h2 => by
    rw [TL.join_eq]
    exact ⟨h1 a List.mem_cons_self, h2 a List.mem_cons_self⟩
  | a :: b :: r, h1, h2 => by
    obtain ⟨i1, i2⟩ := join_one (zs := b :: r) (fun z hz => h1 z (List.mem_cons_of_mem _ hz)) (fun z hz => h2 z (List.mem_cons_of_mem _ hz))
    rw [TL.join_eq] at i1 i2 ⊢
    have e : Str.join "" (a :: b :: r) = a ++ "" ++ Str.join "" (b :: r) := rfl
    rw [e]
    refine ⟨?_, fun c hc => ?_⟩
    · rw [Str.length_append, Str.length_append, i1, h1 a List.mem_cons_self]
      show 1 + 0 + _ = _
      rw [List.length_cons (a := a)]
      omega
    · rw [cps_app', cps_app'] at hc
      rcases List.mem_append.mp hc with hc | hc
      · rcases List.mem_append.mp hc with hc | hc
        · exact h2 a List.mem_cons_self c hc
        · cases hc
      · exact i2 c hc
def spAN : Sp := fun vs H Q _ => ∃ d : Addr, vs = [.ref d] ∧ DiceAt H d ∧ ∀ (z : Str) (H' : Hp), nameB z = true → SameX d H H' → DiceAt H' d → Q (.str z) H'
abbrev NAN : List Str := ["_law_dice_here", "_law_many", "_law_turn"]
theorem ok_an {f : Addr} {fd : FuncData} (F : Fun K "_law_any_name" "_law_any_name" s_law_any_name f fd) (T : Top K mg) : FnOk P w K mg base CX0 3 f fd ["_law_dice_here"] spAN := by
  have cp : Cal P w K mg base 2 "_law_pick" ["_law_dice_here", "_law_items"] (spPick K) := T.d_law_pick.cal fun f fd F => ok_pick F T
  refine F.ok sc_law_any_name (fun vs H Q E h => ?_) (fun cdv A outer s H vs Q E hr h => ?_)
  · obtain ⟨d, rfl, _⟩ := h
    rfl
  · obtain ⟨d, rfl, hd, q⟩ := h
    refine ⟨_, pss_cons (ps_set (i := 1) sc_law_any_name.nd rfl (.inl rfl) (pe_cal cp hr (by rfl) (pa_cons (pv 0) (pa_cons (pe_lst (pa_cons pe_int (pa_cons pe_int (pa_cons pe_int (pa_cons pe_int (pa_cons pe_int (pa_cons pe_int (pa_cons pe_int pa_nil)))))))) pa_nil))))
      (pss_one (ps_ret (pe_join pe_str (pe_lc (own := [("_law_turn", 2)]) (g := gName 2) (tt := tYes) rfl sc_law_any_name.nd (pi_range1 (by rfl) T.b_range (pa_cons (pv 1) pa_nil))
            (blkOk_by (N := NAN) (sc := defScope s_law_any_name) (by decide +kernel))
            (fun _ _ _ _ _ => pg_name (i := 2) sc_law_any_name.nd rfl (.inl rfl)) (fun _ _ _ _ _ => pts_nil) (fun _ _ _ _ _ => pe_cal cp hr (by rfl) (pa_cons (pv 0) (pa_cons pe_str pa_nil))))))), ?_⟩
    have big : 100000 ≤ sizeLine := by decide
    refine ⟨_, rfl, by show 7 ≤ sizeLine; omega, fun l nl => ?_⟩
    have nld := dice_ne hd nl
    have hd1 := dice_upd (o := .lst [V.int 1, V.int 1, V.int 1, V.int 2, V.int 3, V.int 5, V.int 8]) hd nld
    have sx1 : SameX d H (upd H l (.lst [V.int 1, V.int 1, V.int 1, V.int 2, V.int 3, V.int 5, V.int 8])) := (SameX.refl d H).new nl
    refine ⟨d, .ref l, _, rfl, hd1, .inl ⟨l, rfl, nld, .inl (.inl (.inl upd_same))⟩, by simp, by show 7 ≤ 100000; omega, fun v x b c hv => ?_⟩
    generalize upd H l (.lst [V.int 1, V.int 1, V.int 1, V.int 2, V.int 3, V.int 5, V.int 8]) = H1 at hd1 sx1
    have sx2 : SameX d H (upd H1 d (.lst [.int x, .int b, .int c])) := sx1.atd
    have hd2 : DiceAt (upd H1 d (.lst [.int x, .int b, .int c])) d := dice_new x b c
    generalize upd H1 d (.lst [.int x, .int b, .int c]) = H2 at sx2 hd2
    obtain ⟨n, rfl, n1, n8⟩ : ∃ n : Nat, v = .int (n : Nat) ∧ 1 ≤ n ∧ n ≤ 8 := by
      simp only [List.mem_cons, List.not_mem_nil, or_false] at hv
      rcases hv with rfl | rfl | rfl | rfl | rfl | rfl | rfl
      · exact ⟨1, rfl, by decide, by decide⟩
      · exact ⟨1, rfl, by decide, by decide⟩
      · exact ⟨1, rfl, by decide, by decide⟩
      · exact ⟨2, rfl, by decide, by decide⟩
      · exact ⟨3, rfl, by decide, by decide⟩
      · exact ⟨5, rfl, by decide, by decide⟩
      · exact ⟨8, rfl, by decide, by decide⟩
    refine ⟨⟨_, rfl⟩, _, rfl, _, rfl, by omega, by omega, fun D hD => ?_⟩
    have nDd := dice_ne hd2 hD
    refine lc_range (lo := 0) (fun j G => ∃ zs : List Str, G D = some (.lst (zs.map V.str)) ∧ zs.length = j ∧ (∀ z ∈ zs, z.length = 1) ∧ (∀ z ∈ zs, ∀ c ∈ z.cps.toList, isLow c = true) ∧ SameX d H2 G ∧ DiceAt G d)
      ⟨[], upd_same, rfl, (fun z hz => by cases hz), (fun z hz => by cases hz), (SameX.refl d H2).new hD, dice_upd hd2 nDd⟩ (fun j G hj hP => ?_) (fun G hP => ?_)
    · obtain ⟨zs, ez, el, e1, e2, sm2, hdG⟩ := hP
      refine ⟨rfl, ?_⟩
      refine ⟨_, rfl, d, _, _, rfl, hdG, .inr ⟨_, rfl, rfl, by decide⟩, by decide +kernel, by decide +kernel, fun v x b c hv => ?_⟩
      obtain ⟨ch, rfl, h5⟩ := alpha_low v hv
      refine ⟨zs.map V.str, by rw [upd_ne nDd]; exact ez, by rw [List.length_map]; omega, zs ++ [⟨#[ch]⟩], ?_, ?_, ?_, ?_, ?_, ?_⟩
      · rw [upd_same, List.map_append]
        rfl
      · rw [List.length_append, el]
        rfl
      · intro z hz
        rcases List.mem_append.mp hz with hz | hz
        · exact e1 z hz
        · rw [List.mem_singleton.mp hz]
          rfl
      · intro z hz c hc
        rcases List.mem_append.mp hz with hz | hz
        · exact e2 z hz c hc
        · rw [List.mem_singleton.mp hz] at hc
          rw [List.mem_singleton.mp (show c ∈ [ch] from hc)]
          exact h5
      · exact (sm2.atd).at hD
      · exact dice_upd (dice_new x b c) nDd
    obtain ⟨zs, ez, el, e1, e2, sm2, hdG⟩ := hP
    obtain ⟨j1, j2⟩ := join_one e1 e2
    refine ⟨_, D, zs, rfl, rfl, .inl (.inl (.inl ez)), ?_, q _ G ?_ (sx2.trans sm2) hdG⟩
    · rw [sum_ones zs e1]
      have : (("" : Str).length) = 0 := rfl
      rw [this]
      omega
    · unfold nameB
      rw [Int.toNat_natCast] at el
      have hs : (Txt.join "" zs).cps.size = n := by
        show (Txt.join "" zs).length = n
        omega
      rw [hs, decide_eq_true n1, decide_eq_true n8, List.all_eq_true.mpr j2]
      rfl
end
end Kl

set_option maxRecDepth 100000
set_option maxHeartbeats 4000000
namespace Kl
open PySem PySem.Spec PyProof.Rows L2 Gx Mx
abbrev one (c : Nat) : Str := ⟨#[c]⟩
/-- all signs below 128 -/
def Asc (z : Str) : Prop := ∀ c ∈ z.cps.toList, c < 128
theorem asc_ok {z : Str} (h : Asc z) : PyData.strOk z = true := by
  show z.cps.all _ = true
  rw [Array.all_eq_true']
  intro c hc
  exact decide_eq_true (Nat.lt_trans (h c (Array.mem_toList_iff.mpr hc)) (by decide))
theorem one_asc {c : Nat} (h : c < 128) : Asc (one c) := fun d hd => by
  rw [List.mem_singleton.mp (show d ∈ [c] from hd)]
  exact h
theorem lt_a (c : Nat) : decide ([c] < ([97] : List Nat)) = decide (c < 97) := by
  rw [decide_eq_decide]
  constructor
  · intro h
    cases h with
    | cons h => cases h
    | rel h => exact h
  · exact fun h => .rel h
theorem gt_z (c : Nat) : decide (([122] : List Nat) < [c]) = decide (122 < c) := by
  rw [decide_eq_decide]
  constructor
  · intro h
    cases h with
    | cons h => cases h
    | rel h => exact h
  · exact fun h => .rel h
theorem low_or (c : Nat) : (decide (c < 97) || decide (122 < c)) = !isLow c := by
  unfold isLow
  by_cases h1 : c < 97
  · rw [decide_eq_true h1, decide_eq_false (show ¬ (97 ≤ c ∧ c ≤ 122) by omega)]
    rfl
  · by_cases h2 : 122 < c
    · rw [decide_eq_false h1, decide_eq_true h2, decide_eq_false (show ¬ (97 ≤ c ∧ c ≤ 122) by omega)]
      rfl
    · rw [decide_eq_false h1, decide_eq_false h2, decide_eq_true (show (97 ≤ c ∧ c ≤ 122) by omega)]
      rfl
/-- what is no small letter -/
def oddS (cs : List Nat) : List Str := (cs.filter fun c => !isLow c).map one
theorem odd_nil (cs : List Nat) : decide (oddS cs = []) = cs.all isLow := by
  unfold oddS
  rw [Bool.eq_iff_iff, decide_eq_true_eq, List.map_eq_nil_iff, List.filter_eq_nil_iff, List.all_eq_true]
  constructor
  · intro h c hc
    have := h c hc
    simpa using this
  · intro h c hc
    rw [h c hc]
    decide
section
variable {P : Program} {w : World} {K : PySem.W.Frag} {mg : Str → Option Value} {base : Heap}
/-! ### _law_is_name -/
def spLN : Sp := fun vs H Q _ => ∃ z : Str, vs = [V.str z] ∧ Asc z ∧ z.length ≤ 5000 ∧ ∀ H', Same H H' → Q (.bl (nameB z)) H'
abbrev NLN : List Str := ["_law_word", "_law_sign"]
theorem ok_ln {f : Addr} {fd : FuncData} (F : Fun K "_law_is_name" "_law_is_name" s_law_is_name f fd) (T : Top K mg) : FnOk P w K mg base CX0 1 f fd ["_law_word"] spLN := by
  refine F.ok sc_law_is_name (fun vs H Q E h => ?_) (fun cdv A outer s H vs Q E hr h => ?_)
  · obtain ⟨z, rfl, _⟩ := h
    rfl
  · obtain ⟨z, rfl, ha, hz, q⟩ := h
    have big : 100000 ≤ sizeLine := by decide
    have hs : z.length ≤ sizeLine := by omega
    refine ⟨_, pss_one (ps_ret (pe_and (pe_chain op_lt op_lt pe_int (pe_callB call_len_str (by rfl) T.b_len PySem.boot_len (pa_cons (pv 0) pa_nil)) pe_int)
      (pe_one (pe_cmpR (op_eqD hr.units) (pe_lc (own := [("_law_sign", 1)]) (g := gName 1) rfl sc_law_is_name.nd (pi_str (pv 0)) (blkOk_by (N := NLN) (sc := defScope s_law_is_name) (by decide +kernel))
        (fun _ _ _ _ _ => pg_name (i := 1) sc_law_is_name.nd rfl (.inl rfl)) (fun _ _ _ _ _ => pts_one (PW.pt (pw_or (pt_cmpR op_lt_str (pv 1) pe_str (nomark _)) (pw_or1 (pt_cmpR op_gt_str (pv 1) pe_str (nomark _)))))) (fun _ _ _ _ _ => pv 1)) (pe_lst pa_nil) (by rfl))))), ?_⟩
    have hl : z.length = z.cps.size := rfl
    have hq : ∀ H', Same H H' → Q (.bl ((decide (1 ≤ z.cps.size) && decide (z.cps.size ≤ 8)) && z.cps.toList.all isLow)) H' := fun H' s => q H' s
    clear q
    refine ⟨_, rfl, z, rfl, hs, _, _, rfl, rfl, _, rfl, ite2 (fun e => ?_) (fun e => ?_)⟩
    rotate_left
    · have : ¬ (1 ≤ z.cps.size) := fun h => e (decide_eq_true (by omega))
      rw [decide_eq_false this] at hq
      exact ⟨_, rfl, hq H (Same.refl H)⟩
    · have h1 : 1 ≤ z.length := by have := of_decide_eq_true e; omega
      rw [decide_eq_true (show 1 ≤ z.cps.size from h1), Bool.true_and] at hq
      clear e
      refine ⟨_, _, rfl, rfl, _, rfl, ?_⟩
      have e9 : decide ((z.length : Int) < 9) = decide (z.cps.size ≤ 8) := by
        rw [decide_eq_decide]
        omega
      rw [e9]
      cases hb2 : decide (z.cps.size ≤ 8) with
      | false =>
        rw [hb2, Bool.false_and] at hq
        exact hq H (Same.refl H)
      | true =>
        rw [hb2, Bool.true_and] at hq
        show (if true = true then _ else _)
        rw [if_pos rfl]
        refine ⟨_, rfl, z, rfl, fun D hD => ?_⟩
        refine lc_it (g := gName 1) (vs := [1]) (walk_str (z := z)) (fun j G => G D = some (.lst ((oddS (z.cps.toList.take j)).map V.str)) ∧ Same H G)
          ⟨upd_same, same_new (Same.refl H) hD⟩ (fun j G _ hP => True.intro) (fun j v Gx G hj hP hy => ?_) (fun G hP => ?_)
        · obtain ⟨eD, sm⟩ := hP
          obtain ⟨rfl, c, hc, rfl⟩ := hy
          have hc2 : z.cps.toList[j]? = some c := by rw [Array.getElem?_toList]; exact hc
          have hm : c ∈ z.cps.toList := List.mem_of_getElem? hc2
          have et : oddS (z.cps.toList.take (j + 1)) = oddS (z.cps.toList.take j) ++ (if isLow c = true then [] else [one c]) := by
            unfold oddS
            rw [take_snoc hc2, List.filter_append, List.map_append]
            congr 1
            rw [List.filter_cons, List.filter_nil]
            cases isLow c <;> rfl
          have go : ∀ {b : Bool}, b = !isLow c → (if b = true then ∃ acc, G D = some (.lst acc) ∧ acc.length < sizeLine ∧ ((upd G D (.lst (acc ++ [V.str (one c)]))) D = some (.lst ((oddS (z.cps.toList.take (j + 1))).map V.str)) ∧ Same H (upd G D (.lst (acc ++ [V.str (one c)])))) else G D = some (.lst ((oddS (z.cps.toList.take (j + 1))).map V.str)) ∧ Same H G) := fun {b} eb => by
            rw [eb, et]
            cases isLow c with
            | true =>
              rw [if_neg (by decide), if_pos rfl, List.append_nil]
              exact ⟨eD, sm⟩
            | false =>
              rw [if_pos (by decide), if_neg (by decide)]
              refine ⟨_, eD, ?_, ?_, fun b o e => by rw [upd_ne (ne_of_none e hD)]; exact sm b o e⟩
              · rw [List.length_map]
                have : (oddS (z.cps.toList.take j)).length ≤ j := by
                  unfold oddS
                  rw [List.length_map]
                  exact Nat.le_trans (List.length_filter_le _ _) (by rw [List.length_take]; omega)
                have hj' : j < z.cps.size := hj
                omega
              · rw [upd_same, List.map_append]
                rfl
          refine ⟨rfl, _, rfl, _, _, rfl, rfl, _, rfl, ?_⟩
          have e1 : ("a" : Str).cps.toList = [97] := by decide +kernel
          have e2 : ("z" : Str).cps.toList = [122] := by decide +kernel
          rw [e1]
          show (if decide ([c] < ([97] : List Nat)) = true then _ else _)
          rw [lt_a]
          by_cases h1 : c < 97
          · rw [decide_eq_true h1, if_pos rfl]
            have g := go (b := true) (by rw [← low_or, decide_eq_true h1]; rfl)
            rw [if_pos rfl] at g
            exact ⟨_, rfl, g⟩
          · rw [decide_eq_false h1, if_neg (by decide)]
            have g := go (b := decide (122 < c)) (by rw [← low_or, decide_eq_false h1]; rfl)
            refine ⟨_, rfl, _, _, rfl, rfl, _, rfl, ?_⟩
            rw [e2]
            show (if decide (([122] : List Nat) < [c]) = true then _ else _)
            rw [gt_z]
            by_cases h2 : 122 < c
            · rw [decide_eq_true h2, if_pos rfl] at g ⊢
              exact ⟨_, rfl, g⟩
            · rw [decide_eq_false h2, if_neg (by decide)] at g ⊢
              exact g
        · obtain ⟨eD, sm⟩ := hP
          rw [List.take_of_length_le (by rw [Array.length_toList]; exact Nat.le_refl _)] at eD
          refine ⟨Nat.zero_le _, fun l nl => ?_⟩
          have s1 := same_new (o := .lst []) (Same.refl G) nl
          have ok : ∀ y ∈ oddS z.cps.toList, PyData.strOk y = true := fun y hy => by
            unfold oddS at hy
            obtain ⟨c, hc, rfl⟩ := List.mem_map.mp hy
            exact asc_ok (one_asc (ha c (List.mem_filter.mp hc).1))
          refine ⟨.list (tD (oddS z.cps.toList)), .list (tD []), .lst (.inl (.inl (s1 _ _ eD))) (dp_texts _), .lst (.inl (.inl upd_same)) (dp_texts []), shaped_texts ok, shaped_texts nofun, ?_⟩
          rw [PyData.eqv, eqv_texts, odd_nil]
          exact hq _ fun b o e => s1 _ _ (sm b o e)
end
end Kl

set_option maxRecDepth 100000
set_option maxHeartbeats 4000000
namespace Kl
open PySem PySem.Spec PyProof.Rows L2 Gx Mx
theorem mem_join {y : Str} {c : Nat} {w : Str} (hc : c ∈ w.cps.toList) : ∀ {l : List Str}, w ∈ l → c ∈ (Str.join y l).cps.toList
  | [a], h => by
    rw [List.mem_singleton.mp h] at hc
    exact hc
  | a :: b :: r, h => by
    show c ∈ (a ++ y ++ Str.join y (b :: r)).cps.toList
    rw [cps_app', cps_app', List.mem_append, List.mem_append]
    rcases List.mem_cons.mp h with rfl | h
    · exact .inl (.inl hc)
    · exact .inr (mem_join hc h)
theorem asc_split {z y w : Str} (h : Asc z) (hw : w ∈ Txt.split z y) : Asc w := fun c hc => by
  refine h c ?_
  rw [← join_cut z y, TL.join_eq]
  exact mem_join hc hw
theorem filter_names (ns : List Str) : decide ((ns.filter fun z => !nameB z) = []) = ns.all nameB := by
  rw [Bool.eq_iff_iff, decide_eq_true_eq, List.filter_eq_nil_iff, List.all_eq_true]
  constructor
  · intro h z hz
    have := h z hz
    simpa using this
  · intro h z hz
    rw [h z hz]
    decide
section
variable {P : Program} {w : World} {K : PySem.W.Frag} {mg : Str → Option Value} {base : Heap}
/-! ### _law_word_read -/
def spWo (K : PySem.W.Frag) : Sp := fun vs H Q _ => ∃ z : Str, vs = [V.str z] ∧ Asc z ∧ z.length ≤ 4000 ∧ (∀ p q H', parseD z = some q → Same H H' → H' p = some (.tup (q.map V.str)) → Q (.ref p) H') ∧ (∀ H', parseD z = none → Same H H' → Q .non H')
abbrev NWO : List Str := ["_law_word", "_law_names", "_law_name"]
theorem ok_wo {f : Addr} {fd : FuncData} (F : Fun K "_law_word_read" "_law_word_read" s_law_word_read f fd) (T : Top K mg) : FnOk P w K mg base CX0 2 f fd ["_law_word"] (spWo K) := by
  have cl : Cal P w K mg base 1 "_law_is_name" ["_law_word"] spLN := T.d_law_is_name.cal fun f fd F => ok_ln F T
  refine F.ok sc_law_word_read (fun vs H Q E h => ?_) (fun cdv A outer s H vs Q E hr h => ?_)
  · obtain ⟨z, rfl, _⟩ := h
    rfl
  · obtain ⟨z, rfl, ha, hz, q1, q2⟩ := h
    refine ⟨_, pss_cons (ps_if (pt_cmpR op_eq (pv 0) pe_str (nomark _)) (pss_one (ps_ret (pe_tup pa_nil))) pss_nil)
      (pss_cons (ps_set (i := 1) sc_law_word_read.nd rfl (.inl rfl) (pe_split (pv 0) pe_str))
      (pss_cons (ps_if (PW.pt (pw_or (pt_cmpR (op_neD hr.units) (pe_lc (own := [("_law_name", 2)]) (g := gName 2) rfl sc_law_word_read.nd (pi_list (pv 1)) (blkOk_by (N := NWO) (sc := defScope s_law_word_read) (by decide +kernel))
          (fun _ _ _ _ _ => pg_name (i := 2) sc_law_word_read.nd rfl (.inl rfl)) (fun _ _ _ _ _ => pts_one (pt_not (pt_val (pe_cal cl hr (by rfl) (pa_cons (pv 2) pa_nil))))) (fun _ _ _ _ _ => pv 2)) (pe_lst pa_nil) (by rfl))
        (pw_or (pt_cmpR (op_neD hr.units) (pv 1) (pe_callB cr_sortedLS (by rfl) T.b_sorted (by decide +kernel) (pa_cons (pv 1) pa_nil)) (by rfl))
        (pw_or1 (pt_cmpR op_gt (pe_callB call_len_seq (by rfl) T.b_len PySem.boot_len (pa_cons (pv 1) pa_nil)) pe_int (nomark _)))))) (pss_one (ps_ret pe_non)) pss_nil)
      (pss_one (ps_ret (pe_callTy call_tuple_of (by rfl) T.b_tuple (by decide +kernel) (pa_cons (pv 1) pa_nil)))))), ?_⟩
    have big : 100000 ≤ sizeLine := by decide
    refine ⟨_, rfl, rfl, _, rfl, ite2 (fun c => ?_) (fun c => ?_)⟩
    · have ez : z = "0" := V.str.inj (of_decide_eq_true c)
      refine ⟨Nat.zero_le _, fun p np => q1 p [] _ ?_ (same_new (Same.refl H) np) upd_same⟩
      unfold parseD
      rw [if_pos ez]
    have ez : z ≠ "0" := fun h => c (decide_eq_true (by rw [h]))
    have hpa : parseD z = if goodB (Txt.split z "+") = true then some (Txt.split z "+") else none := by
      unfold parseD
      rw [if_neg ez]
    have hasc : ∀ y ∈ Txt.split z "+", Asc y := fun y hy => asc_split ha hy
    have hlen : ∀ y ∈ Txt.split z "+", y.length ≤ 4000 := fun y hy => Nat.le_trans (split_short (by decide +kernel) hy) hz
    have l1 : (Txt.split z "+").length ≤ 4002 := by
      have := split_le z "+"
      omega
    refine ⟨_, rfl, ⟨_, rfl⟩, z, _, rfl, rfl, rfl, by omega, fun l nl => ?_⟩
    generalize Txt.split z "+" = ns at hpa hasc hlen l1
    have s1 := same_new (o := .lst (ns.map V.str)) (Same.refl H) nl
    have el : (upd H l (.lst (ns.map V.str))) l = some (.lst (ns.map V.str)) := upd_same
    generalize upd H l (.lst (ns.map V.str)) = H1 at s1 el
    refine ⟨_, rfl, l, rfl, ⟨_, .inl (.inl el)⟩, fun D hD => ?_⟩
    refine lc_it (g := gName 2) (vs := [2]) (walk_list (K := K) (a := l) (xs := ns.map V.str)) (fun j G => G D = some (.lst (((ns.take j).filter fun z => !nameB z).map V.str)) ∧ Same H1 G)
      ⟨upd_same, same_new (Same.refl H1) hD⟩ (fun j G _ hP => .inl (.inl (hP.2 _ _ el))) (fun j v Gx G hj hP hy => ?_) (fun G hP => ?_)
    · obtain ⟨eD, sm⟩ := hP
      obtain ⟨rfl, hu⟩ := hy
      have hu : (ns.map V.str)[j]? = some v := hu
      rw [List.getElem?_map] at hu
      obtain ⟨y, hyj, rfl⟩ := Option.map_eq_some_iff.mp hu
      have hm := List.mem_of_getElem? hyj
      rw [List.length_map] at hj
      refine ⟨rfl, _, rfl, y, rfl, hasc y hm, Nat.le_trans (hlen y hm) (by decide), fun G3 s3 => ⟨_, rfl, ?_⟩⟩
      have eD3 := s3 _ _ eD
      have sm3 : Same H1 G3 := fun b o e => s3 _ _ (sm b o e)
      have et : ((ns.take (j + 1)).filter fun z => !nameB z) = ((ns.take j).filter fun z => !nameB z) ++ (if nameB y = true then [] else [y]) := by
        rw [take_snoc hyj, List.filter_append]
        congr 1
        rw [List.filter_cons, List.filter_nil]
        cases nameB y <;> rfl
      cases cn : nameB y with
      | true =>
        rw [cn, if_pos rfl, List.append_nil] at et
        show (if (!true) = true then _ else _)
        rw [if_neg (by decide), et]
        exact ⟨eD3, sm3⟩
      | false =>
        rw [cn, if_neg (by decide)] at et
        show (if (!false) = true then _ else _)
        rw [if_pos (by decide), et]
        refine ⟨_, rfl, _, eD3, ?_, ?_, fun b o e => by rw [upd_ne (ne_of_none e hD)]; exact sm3 b o e⟩
        · rw [List.length_map]
          have := List.length_filter_le (fun z => !nameB z) (ns.take j)
          rw [List.length_take] at this
          omega
        · rw [upd_same, List.map_append]
          rfl
    obtain ⟨eD, sm⟩ := hP
    rw [List.length_map, List.take_length] at eD
    refine ⟨Nat.zero_le _, fun l2 nl2 => ?_⟩
    have s2 := same_new (o := .lst []) (Same.refl G) nl2
    have okn : ∀ y ∈ ns, PyData.strOk y = true := fun y hy => asc_ok (hasc y hy)
    refine ⟨.list (tD (ns.filter fun z => !nameB z)), .list (tD []), .lst (.inl (.inl (s2 _ _ eD))) (dp_texts _), .lst (.inl (.inl upd_same)) (dp_texts []), shaped_texts fun y hy => okn y (List.mem_filter.mp hy).1, shaped_texts nofun, ?_⟩
    rw [PyData.eqv, eqv_texts, filter_names]
    have s02 : Same H1 (upd G l2 (.lst [])) := fun b o e => s2 _ _ (sm b o e)
    generalize upd G l2 (.lst []) = G2 at s02
    have el2 := s02 _ _ el
    have s0 : Same H G2 := fun b o e => s02 _ _ (s1 _ _ e)
    refine ⟨_, rfl, ?_⟩
    have hg : goodB ns = (decide (ns.length ≤ 20) && (ns.all nameB && sortedS ns)) := rfl
    cases hall : ns.all nameB with
    | false =>
      rw [hg, hall, Bool.false_and, Bool.and_false, if_neg (by decide)] at hpa
      exact q2 G2 hpa s0
    | true =>
      rw [hall, Bool.true_and] at hg
      show (if (!true) = true then _ else _)
      rw [if_neg (by decide)]
      refine ⟨_, rfl, _, rfl, l, ns, rfl, .inl (.inl el2), by omega, fun ys sp hperm hsrt nsp => ?_⟩
      have s3 := same_new (o := .lst (ys.map V.str)) s0 nsp
      have s23 := same_new (o := .lst (ys.map V.str)) (Same.refl G2) nsp
      have esp : (upd G2 sp (.lst (ys.map V.str))) sp = some (.lst (ys.map V.str)) := upd_same
      generalize upd G2 sp (.lst (ys.map V.str)) = G3 at s3 s23 esp
      have el3 := s23 _ _ el2
      refine ⟨.list (tD ns), .list (tD ys), .lst (.inl (.inl el3)) (dp_texts ns), .lst (.inl (.inl esp)) (dp_texts ys), shaped_texts okn, shaped_texts (fun z hz => okn z (hperm.mem_iff.mp hz)), ?_⟩
      rw [PyData.eqv, eqv_texts, eq_sorted_iff hperm hsrt]
      refine ⟨_, rfl, ?_⟩
      cases hs : sortedS ns with
      | false =>
        rw [hg, hs, Bool.and_false, if_neg (by decide)] at hpa
        exact q2 G3 hpa s3
      | true =>
        rw [hs, Bool.and_true] at hg
        show (if (!true) = true then _ else _)
        rw [if_neg (by decide)]
        refine ⟨_, rfl, l, _, rfl, .inl (.inl (.inl el3)), _, _, rfl, rfl, _, rfl, ite2 (fun c2 => ?_) (fun c2 => ?_)⟩
        · have : ¬ ns.length ≤ 20 := by
            have := of_decide_eq_true c2
            rw [List.length_map] at this
            omega
          rw [hg, decide_eq_false this, if_neg (by decide)] at hpa
          exact q2 G3 hpa s3
        · have : ns.length ≤ 20 := by
            have : ¬ ((20 : Int) < ((ns.map V.str).length : Nat)) := fun h => c2 (decide_eq_true h)
            rw [List.length_map] at this
            omega
          rw [hg, decide_eq_true this, if_pos rfl] at hpa
          exact ⟨_, rfl, l, _, rfl, .inl ⟨.inl (.inl el3), fun t nt => q1 t ns _ hpa (same_new s3 nt) upd_same⟩⟩
end
end Kl

set_option maxRecDepth 100000
set_option maxHeartbeats 4000000
namespace Kl
open PySem PySem.Spec PyProof.Rows L2 Gx Mx
/-- what names_in makes of a word, as data -/
def dgD (z : Str) : PyData := match parseD z with
  | some q => .tuple (tD q)
  | none => .none
theorem dgA_dp {K : PySem.W.Frag} : ∀ {ws : List Str} {xs : List V} {H : Hp}, xs.length = ws.length → DgA K H ws xs → DpAll K H xs (ws.map dgD)
  | [], [], _, _, _ => .nil
  | [], _ :: _, _, l, _ => by cases l
  | _ :: _, [], _, l, _ => by cases l
  | z :: ws, x :: xs, H, l, h => by
    have h0 := h 0 z x rfl rfl
    unfold DgV at h0
    rw [List.map_cons]
    refine .cons ?_ (dgA_dp (Nat.succ.inj l) h.tail)
    unfold dgD
    cases e : parseD z with
    | none =>
      rw [e] at h0
      subst h0
      exact .non
    | some q =>
      rw [e] at h0
      obtain ⟨p, rfl, hp⟩ := h0
      exact .tup hp (dp_texts q)
theorem dg_one (z : Str) : PyData.canLay0 (dgD z) = true ∧ PyData.depth (dgD z) ≤ 2 := by
  unfold dgD
  cases e : parseD z with
  | none => exact ⟨rfl, Nat.zero_le _⟩
  | some q =>
    have ok : ∀ y ∈ q, PyData.strOk y = true := fun y hy => names_low (good_names (parse_text e).2 y hy)
    have c := canLay_texts q ok
    have d := depth_texts q
    refine ⟨c, ?_⟩
    show PyData.depth (.tuple (tD q)) ≤ 2
    rw [PyData.depth]
    omega
theorem dg_shaped : ∀ ws : List Str, PyData.canLayAll0 (ws.map dgD) = true ∧ PyData.depthAll (ws.map dgD) ≤ 2
  | [] => ⟨rfl, Nat.zero_le _⟩
  | z :: ws => by
    obtain ⟨i1, i2⟩ := dg_shaped ws
    obtain ⟨h1, h2⟩ := dg_one z
    rw [List.map_cons, PyData.canLayAll0, PyData.depthAll, i1, h1]
    exact ⟨rfl, by omega⟩
theorem dgD_none (ws : List Str) : ((ws.map dgD).any fun z => PyData.eqv z .none) = decide (allSome (ws.map parseD) = none) := by
  induction ws with
  | nil => rfl
  | cons z ws ih =>
    rw [List.map_cons, List.any_cons, ih, List.map_cons]
    have e0 : dgD z = match parseD z with
      | some q => .tuple (tD q)
      | none => .none := rfl
    rw [e0]
    cases e : parseD z with
    | none => rfl
    | some q =>
      show (PyData.eqv (.tuple (tD q)) .none || _) = decide ((allSome (ws.map parseD)).map (q :: ·) = none)
      rw [show PyData.eqv (.tuple (tD q)) .none = false by rw [PyData.eqv], Bool.false_or]
      cases allSome (ws.map parseD) <;> rfl
section
variable {P : Program} {w : World} {K : PySem.W.Frag} {mg : Str → Option Value} {base : Heap}
/-! ### _law_text_read -/
def spTR (K : PySem.W.Frag) : Sp := fun vs H Q _ => ∃ (z : Str) (n : Nat), vs = [V.str z] ∧ Tx n z ∧ n ≤ 100 ∧ (∀ p LL H', parseR z = some (LL.map (·.2)) → Same H H' → RowAt K H' p LL → Q (.ref p) H') ∧ (∀ H', parseR z = none → Same H H' → Q .non H')
abbrev NTR : List Str := ["_law_text", "_law_found", "_law_word"]
theorem ok_tr {f : Addr} {fd : FuncData} (F : Fun K "_law_text_read" "_law_text_read" s_law_text_read f fd) (T : Top K mg) : FnOk P w K mg base CX0 3 f fd ["_law_text"] (spTR K) := by
  have cl : Cal P w K mg base 2 "_law_word_read" ["_law_word"] (spWo K) := T.d_law_word_read.cal fun f fd F => ok_wo F T
  refine F.ok sc_law_text_read (fun vs H Q E h => ?_) (fun cdv A outer s H vs Q E hr h => ?_)
  · obtain ⟨z, n, rfl, _⟩ := h
    rfl
  · obtain ⟨z, n, rfl, hz, hn, q1, q2⟩ := h
    have hu65 : (A.deeper (envOfC "_law_text_read" (defScope s_law_text_read) s.heap.objs.size f cdv)).units + 65 < cLine := by
      have := hr.un
      omega
    refine ⟨_, pss_cons (ps_if (pt_cmpR op_eq (pv 0) pe_str (nomark _)) (pss_one (ps_ret (pe_tup pa_nil))) pss_nil)
      (pss_cut (ps_setLc (i := 1) (own := [("_law_word", 2)]) (g := gName 2) (tt := tYes) (by rfl) sc_law_text_read.nd rfl rfl (sw_true rfl rfl rfl (by decide +kernel)) (pi_list (pe_split (pv 0) pe_str)) (blkOk_by (N := NTR) (sc := defScope s_law_text_read) (by decide +kernel))
          (fun _ _ _ _ _ => pg_name (i := 2) sc_law_text_read.nd rfl (.inl rfl)) (fun _ _ _ _ _ => pts_nil) (fun _ _ _ _ _ => pe_cal cl hr (by rfl) (pa_cons (pv 2) pa_nil)))
      (pss_one (ps_ret (pe_ifExp (PW.pt (pw_or (pt_cmpR (op_inD hu65) pe_non (pv 1) (by rfl)) (pw_or1 (pt_cmpR (op_eqD hr.units) (pe_ix ix_list (pv 1) (pe_un un_neg pe_int) (fun _ _ => rfl)) (pe_tup pa_nil) (by rfl))))) pe_non
        (pe_callTy call_tuple_of (by rfl) T.b_tuple (by decide +kernel) (pa_cons (pv 1) pa_nil)))))), ?_⟩
    have big : 100000 ≤ sizeLine := by decide
    have hz4 : z.length ≤ 4000 := by have := hz.len; omega
    refine ⟨_, rfl, rfl, _, rfl, ite2 (fun c => ?_) (fun c => ?_)⟩
    · have ez : z = "-" := V.str.inj (of_decide_eq_true c)
      refine ⟨Nat.zero_le _, fun p np => q1 p [] _ ?_ (same_new (Same.refl H) np) ⟨.inl (.inl upd_same), nofun⟩⟩
      unfold parseR
      rw [if_pos ez]
      rfl
    have ez : z ≠ "-" := fun h => c (decide_eq_true (by rw [h]))
    have l402 := tx_split hz hn
    have hpr : parseR z = match allSome ((Txt.split z " ").map parseD) with
      | none => none
      | some qs => if qs.drop (qs.length - 1) = [[]] then none else some qs := by
      unfold parseR
      rw [if_neg ez]
      all_goals (cases allSome ((Txt.split z " ").map parseD) <;> rfl)
    have wlen : ∀ y ∈ Txt.split z " ", y.length ≤ 4000 := fun y hy => Nat.le_trans (split_short (by decide +kernel) hy) hz4
    have wasc : ∀ y ∈ Txt.split z " ", Asc y := fun y hy => asc_split hz.low hy
    have wne := split_ne z " "
    refine ⟨fun σ' G => ∃ (l : Addr) (xs : List V), σ' = [some (.str z), some (.ref l), none] ∧ G l = some (.lst xs) ∧ Same H G ∧ xs.length = (Txt.split z " ").length ∧ DgA K G (Txt.split z " ") xs, ?_, ?_⟩
    · refine ⟨_, rfl, ⟨_, rfl⟩, z, _, rfl, rfl, rfl, by omega, fun l nl => ?_⟩
      generalize Txt.split z " " = ws at l402 wlen wasc
      have s1 := same_new (o := .lst (ws.map V.str)) (Same.refl H) nl
      have el : (upd H l (.lst (ws.map V.str))) l = some (.lst (ws.map V.str)) := upd_same
      generalize upd H l (.lst (ws.map V.str)) = H1 at s1 el
      refine ⟨l, rfl, ⟨_, .inl (.inl el)⟩, fun D hD => ?_⟩
      refine lc_it (g := gName 2) (tt := tYes) (vs := [2]) (walk_list (K := K) (a := l) (xs := ws.map V.str)) (fun j G' => ∃ xs : List V, G' D = some (.lst xs) ∧ xs.length = j ∧ Same H1 G' ∧ DgA K G' ws xs)
        ⟨[], upd_same, rfl, same_new (Same.refl H1) hD, fun i a b _ e => by cases e⟩ (fun j G' _ h => by obtain ⟨_, _, _, s, _⟩ := h; exact .inl (.inl (s _ _ el))) (fun j u Gx G' hj h hy => ?_) (fun G' h => ?_)
      · obtain ⟨xs, eD, lx, sm, hA⟩ := h
        obtain ⟨rfl, hu⟩ := hy
        have hu : (ws.map V.str)[j]? = some u := hu
        rw [List.getElem?_map] at hu
        obtain ⟨y, hy, rfl⟩ := Option.map_eq_some_iff.mp hu
        have hm := List.mem_of_getElem? hy
        rw [List.length_map] at hj
        refine ⟨rfl, _, rfl, y, rfl, wasc y hm, wlen y hm, fun p q H' hpa s ep => ?_, fun H' hpa s => ?_⟩
        · exact ⟨xs, s _ _ eD, by omega, dgA_snoc eD lx sm hA hy hD s (by unfold DgV; rw [hpa]; exact ⟨p, rfl, .inl (.inl ep)⟩)⟩
        · exact ⟨xs, s _ _ eD, by omega, dgA_snoc eD lx sm hA hy hD s (by unfold DgV; rw [hpa])⟩
      · obtain ⟨xs, eD, lx, sm, hA⟩ := h
        rw [List.length_map] at lx
        exact ⟨D, xs, rfl, eD, fun b o e => sm _ _ (s1 _ _ e), lx, hA⟩
    generalize Txt.split z " " = ws at l402 hpr wlen wne
    rintro σ' G ⟨l, xs, rfl, el, sm, lx, hA⟩
    have shL : SeqAt.shaped (.list (ws.map dgD)) = true := by
      obtain ⟨h1, h2⟩ := dg_shaped ws
      unfold SeqAt.shaped
      rw [Bool.and_eq_true]
      exact ⟨h1, decide_eq_true (by rw [PyData.depth]; omega)⟩
    refine ⟨_, rfl, .none, ws.map dgD, .non, .lst (.inl (.inl el)) (dgA_dp lx hA), by decide +kernel, shL, ?_⟩
    rw [dgD_none]
    refine ⟨_, rfl, ?_⟩
    cases e : allSome (ws.map parseD) with
    | none =>
      rw [e] at hpr
      exact q2 G hpr sm
    | some qs =>
      rw [e] at hpr
      have hpr : parseR z = if qs.drop (qs.length - 1) = [[]] then none else some qs := hpr
      obtain ⟨LL, e1, e2, e3⟩ := dgs_row lx hA e
      rw [decide_eq_false (fun h => nomatch h)]
      show (if false = true then _ else _)
      rw [if_neg (by decide)]
      have hne : LL ≠ [] := fun h => by
        rw [h] at e1
        rw [e1] at lx
        exact wne (List.eq_nil_of_length_eq_zero lx.symm)
      obtain ⟨A0, q0, eLL⟩ : ∃ A0 q0, LL = A0 ++ [q0] := by
        rcases List.eq_nil_or_concat LL with h | ⟨A0, q0, h⟩
        · exact absurd h hne
        · exact ⟨A0, q0, by rw [h, List.concat_eq_append]⟩
      have lA : (A0.map fun q : Addr × List Str => V.ref q.1).length = A0.length := List.length_map _
      have hat : atI xs (-1) = some (.ref q0.1) := by
        rw [e1, eLL]
        unfold atI ixN
        rw [if_neg (by decide), List.length_map, List.length_append, List.length_singleton, if_pos (by omega)]
        show ((A0 ++ [q0]).map fun q => V.ref q.1)[((-1 : Int) + ((A0.length + 1 : Nat) : Int)).toNat]? = _
        rw [show ((-1 : Int) + ((A0.length + 1 : Nat) : Int)).toNat = A0.length by omega, List.getElem?_map, List.getElem?_append_right (Nat.le_refl _), Nat.sub_self]
        rfl
      have hq0 := e3 q0 (by rw [eLL]; exact List.mem_append.mpr (.inr (List.mem_singleton.mpr rfl)))
      have g0 : goodB q0.2 = true := by
        have h1 := allSome_some e
        have h2 : some q0.2 ∈ ws.map parseD := by
          rw [h1, ← e2, eLL]
          exact List.mem_map.mpr ⟨q0.2, List.mem_map.mpr ⟨q0, List.mem_append.mpr (.inr (List.mem_singleton.mpr rfl)), rfl⟩, rfl⟩
        obtain ⟨y, _, hy⟩ := List.mem_map.mp h2
        exact (parse_text hy).2
      have hd : qs.drop (qs.length - 1) = [q0.2] := by
        rw [← e2, eLL, List.map_append, List.length_append, List.map_cons, List.map_nil, List.length_singleton, Nat.add_sub_cancel, List.drop_append, Nat.sub_self, List.drop_eq_nil_of_le (Nat.le_refl _)]
        rfl
      refine ⟨_, rfl, _, rfl, l, _, _, .ref q0.1, rfl, rfl, .inl (.inl el), hat, Nat.zero_le _, fun t nt => ?_⟩
      have s1 := same_new (o := .tup []) (Same.refl G) nt
      refine ⟨.tuple (tD q0.2), .tuple (tD []), .tup (sqT_sm s1 hq0) (dp_texts _), .tup (.inl (.inl upd_same)) (dp_texts []), shaped_textsT (fun y hy => names_low (good_names g0 y hy)), shaped_textsT (fun y hy => nomatch hy), ?_⟩
      rw [PyData.eqv, eqv_texts]
      refine ⟨_, rfl, ?_⟩
      have s0 : Same H (upd G t (.tup [])) := fun b o e => s1 _ _ (sm b o e)
      by_cases c0 : q0.2 = []
      · rw [hd, c0, if_pos rfl] at hpr
        rw [decide_eq_true c0]
        exact q2 _ hpr s0
      · rw [hd, if_neg (fun h => c0 (List.cons.inj h).1)] at hpr
        rw [decide_eq_false c0]
        show (if false = true then _ else _)
        rw [if_neg (by decide)]
        refine ⟨_, rfl, l, _, rfl, .inl ⟨.inl (.inl (s1 _ _ el)), fun p np => ?_⟩⟩
        have s3 := same_new (o := .tup xs) (Same.refl (upd G t (.tup []))) np
        exact q1 p LL _ (by rw [hpr, e2]) (fun b o e => s3 _ _ (s0 b o e)) ⟨.inl (.inl (by rw [upd_same, e1])), fun y hy => sqT_sm s3 (sqT_sm s1 (e3 y hy))⟩
end
end Kl

set_option maxRecDepth 100000
set_option maxHeartbeats 4000000
namespace Kl
open PySem PySem.Spec PyProof.Rows L2 Gx Mx
/-! ### a text bent -/
theorem cut_to (z : Str) (r : Nat) : (cutS z none (some ((r : Nat) : Int))).cps.toList = z.cps.toList.take r := by
  unfold cutS
  rw [HT.sIx_nat, HT.sIx_none, List.drop_zero, Nat.sub_zero]
  show List.take (min r z.length) z.cps.toList = _
  have hl : z.length = z.cps.toList.length := (Array.length_toList ..).symm
  rw [hl]
  by_cases h : r ≤ z.cps.toList.length
  · rw [Nat.min_eq_left h]
  · rw [Nat.min_eq_right (by omega), List.take_length, List.take_of_length_le (by omega)]
theorem cut_from (z : Str) (r : Nat) : (cutS z (some ((r : Nat) : Int)) none).cps.toList = z.cps.toList.drop r := by
  unfold cutS
  rw [HT.sIx_nat, HT.sIx_none]
  show List.take (z.length - min r z.length) (z.cps.toList.drop (min r z.length)) = _
  have hl : z.length = z.cps.toList.length := (Array.length_toList ..).symm
  rw [hl]
  by_cases h : r ≤ z.cps.toList.length
  · rw [Nat.min_eq_left h, List.take_of_length_le (by rw [List.length_drop]; exact Nat.le_refl _)]
  · rw [Nat.min_eq_right (by omega), List.drop_of_length_le (Nat.le_refl _), List.drop_of_length_le (by omega), List.take_nil]
theorem tx_bend {z z' : Str} {n r k : Nat} {s : List Nat} (h : Tx n z) (hk : r ≤ k) (hs : s.length ≤ 1) (hlow : ∀ c ∈ s, c < 128) (e : z'.cps.toList = z.cps.toList.take r ++ s ++ z.cps.toList.drop k) : Tx (n + 1) z' := by
  have hsub : (z.cps.toList.take r ++ z.cps.toList.drop k).Sublist z.cps.toList := by
    have h1 : (z.cps.toList.drop k).Sublist (z.cps.toList.drop r) := List.drop_sublist_drop_left _ hk
    have h2 := List.Sublist.append (List.Sublist.refl (z.cps.toList.take r)) h1
    rw [List.take_append_drop] at h2
    exact h2
  have hz : z.cps.toList.length = z.length := Array.length_toList ..
  have l1 := hsub.length_le
  have c1 := hsub.count_le 32
  rw [List.length_append] at l1
  rw [List.count_append] at c1
  have c2 : s.count 32 ≤ s.length := List.count_le_length
  have hl := h.len
  have hf := h.few
  refine ⟨?_, ?_, fun c hc => ?_⟩
  · have : z'.length = z'.cps.toList.length := (Array.length_toList ..).symm
    rw [this, e, List.length_append, List.length_append]
    omega
  · rw [e, List.count_append, List.count_append]
    omega
  · rw [e, List.mem_append, List.mem_append] at hc
    rcases hc with (hc | hc) | hc
    · exact h.low c (List.mem_of_mem_take hc)
    · exact hlow c hc
    · exact h.low c (List.mem_of_mem_drop hc)
theorem signs_low : ∀ v ∈ signV ("abz+ 0-A1\n_" : Str), ∃ c : Nat, v = .str ⟨#[c]⟩ ∧ c < 128 := by
  intro v hv
  obtain ⟨c, hc, rfl⟩ := List.mem_map.mp hv
  refine ⟨c, rfl, ?_⟩
  have : ∀ c ∈ ("abz+ 0-A1\n_" : Str).cps.toList, c < 128 := by decide +kernel
  exact this c hc
section
variable {P : Program} {w : World} {K : PySem.W.Frag} {mg : Str → Option Value} {base : Heap}
/-! ### _law_bent -/
def spBent : Sp := fun vs H Q _ => ∃ (d : Addr) (z : Str) (n : Nat), vs = [V.ref d, V.str z] ∧ DiceAt H d ∧ Tx n z ∧ n ≤ 50 ∧ ∀ (z' : Str) H', Tx (n + 1) z' → SameX d H H' → DiceAt H' d → Q (.str z') H'
theorem ok_bent {f : Addr} {fd : FuncData} (F : Fun K "_law_bent" "_law_bent" s_law_bent f fd) (T : Top K mg) : FnOk P w K mg base CX0 3 f fd ["_law_dice_here", "_law_text"] spBent := by
  have cr : Cal P w K mg base 2 "_law_roll" ["_law_dice_here", "_law_total"] spRoll := (T.d_law_roll.cal fun f fd F => ok_roll F T).mono (by decide)
  have cp : Cal P w K mg base 2 "_law_pick" ["_law_dice_here", "_law_items"] (spPick K) := T.d_law_pick.cal fun f fd F => ok_pick F T
  refine F.ok sc_law_bent (fun vs H Q E h => ?_) (fun cdv A outer s H vs Q E hr h => ?_)
  · obtain ⟨d, z, n, rfl, _⟩ := h
    rfl
  · obtain ⟨d, z, n, rfl, hd, hz, hn, q⟩ := h
    refine ⟨_, pss_cut (ps_par3 (i := 2) (j := 3) (l := 4) rfl sc_law_bent.nd rfl rfl rfl (by decide) (by decide) (by decide) rfl rfl rfl
        (pa_cons (pe_cal cr hr (by rfl) (pa_cons (pv 0) (pa_cons (pe_op op_add (pe_callB call_len_str (by rfl) T.b_len PySem.boot_len (pa_cons (pv 1) pa_nil)) pe_int) pa_nil)))
        (pa_cons (pe_cal cp hr (by rfl) (pa_cons (pv 0) (pa_cons (pe_callTy (call_list_text rfl) (by rfl) T.b_list (by decide +kernel) (pa_cons pe_str pa_nil)) pa_nil)))
        (pa_cons (pe_cal cr hr (by rfl) (pa_cons (pv 0) (pa_cons pe_int pa_nil))) pa_nil))) (by kernel_rfl))
      (pss_cons (ps_if (pt_cmpR op_eq (pv 4) pe_int (nomark _)) (pss_one (ps_ret (pe_op op_add_str (pe_slice sl_str (pv 1) po_none (po_some (pv 2))) (pe_slice sl_str (pv 1) (po_some (pe_op op_add (pv 2) pe_int)) po_none)))) pss_nil)
      (pss_cons (ps_if (pt_cmpR op_eq (pv 4) pe_int (nomark _)) (pss_one (ps_ret (pe_op op_add_str (pe_op op_add_str (pe_slice sl_str (pv 1) po_none (po_some (pv 2))) (pv 3)) (pe_slice sl_str (pv 1) (po_some (pe_op op_add (pv 2) pe_int)) po_none)))) pss_nil)
      (pss_cons (ps_set (i := 5) sc_law_bent.nd rfl (.inl rfl) (pe_cal cr hr (by rfl) (pa_cons (pv 0) (pa_cons (pe_op op_add (pe_callB call_len_str (by rfl) T.b_len PySem.boot_len (pa_cons (pv 1) pa_nil)) pe_int) pa_nil))))
      (pss_one (ps_ret (pe_ifExp (pt_cmpR op_eq (pv 4) pe_int (nomark _)) (pe_op op_add_str (pe_op op_add_str (pe_slice sl_str (pv 1) po_none (po_some (pv 2))) (pv 3)) (pe_slice sl_str (pv 1) (po_some (pv 2)) po_none))
        (pe_op op_add_str (pe_slice sl_str (pv 1) po_none (po_some (pv 2))) (pe_slice sl_str (pv 1) (po_some (pe_callB (call_max2 rfl) (by rfl) T.b_max (by decide +kernel) (pa_cons (pv 2) (pa_cons (pv 5) pa_nil)))) po_none)))))))), ?_⟩
    have big : 100000 ≤ sizeLine := by decide
    have hzl : z.length ≤ 2200 := by have := hz.len; omega
    have hzs : z.length ≤ sizeLine := by omega
    have l1 : ((z.length : Nat) : Int) + 1 = ((z.length + 1 : Nat) : Int) := by omega
    refine ⟨fun σ' G => ∃ (r m : Nat) (ch : Nat), σ' = [some (.ref d), some (.str z), some (.int (r : Nat)), some (.str (one ch)), some (.int (m : Nat)), none] ∧ r ≤ z.length ∧ ch < 128 ∧ SameX d H G ∧ DiceAt G d, ?_, ?_⟩
    · refine ⟨_, rfl, _, rfl, z, rfl, hzs, _, _, rfl, rfl, d, _, rfl, hd, by omega, by rw [l1]; exact log2_small (by omega), fun r x b c h0 h1 => ?_⟩
      obtain ⟨k, rfl⟩ := Int.eq_ofNat_of_zero_le h0
      have sx1 : SameX d H (upd H d (.lst [.int x, .int b, .int c])) := (SameX.refl d H).atd
      have hd1 : DiceAt (upd H d (.lst [.int x, .int b, .int c])) d := dice_new x b c
      generalize upd H d (.lst [.int x, .int b, .int c]) = H1 at sx1 hd1
      refine ⟨_, rfl, _, rfl, by decide +kernel, fun l nl => ?_⟩
      have nld := dice_ne hd1 nl
      refine ⟨d, .ref l, _, rfl, dice_upd hd1 nld, .inl ⟨l, rfl, nld, .inl (.inl (.inl upd_same))⟩, by decide +kernel, by decide +kernel, fun v x b c hv => ?_⟩
      obtain ⟨ch, rfl, hch⟩ := signs_low v hv
      have sx2 : SameX d H (upd (upd H1 l (.lst (signV "abz+ 0-A1\n_"))) d (.lst [.int x, .int b, .int c])) := (sx1.new nl).atd
      have hd2 : DiceAt (upd (upd H1 l (.lst (signV "abz+ 0-A1\n_"))) d (.lst [.int x, .int b, .int c])) d := dice_new x b c
      generalize upd (upd H1 l (.lst (signV "abz+ 0-A1\n_"))) d (.lst [.int x, .int b, .int c]) = H2 at sx2 hd2
      refine ⟨_, rfl, d, _, rfl, hd2, by decide, by decide, fun m x b c m0 m1 => ?_⟩
      obtain ⟨m, rfl⟩ := Int.eq_ofNat_of_zero_le m0
      exact ⟨_, _, _, rfl, k, m, ch, rfl, by omega, hch, sx2.atd, dice_new x b c⟩
    rintro σ' G ⟨r, m, ch, rfl, hr0, hch, sx, hdG⟩
    have lt : (cutS z none (some ((r : Nat) : Int))).length ≤ z.length := by
      show (cutS z none (some ((r : Nat) : Int))).cps.size ≤ z.cps.size
      rw [← Array.length_toList, cut_to, ← Array.length_toList, List.length_take]
      omega
    have lf : ∀ k : Nat, (cutS z (some ((k : Nat) : Int)) none).length ≤ z.length := fun k => by
      show (cutS z (some ((k : Nat) : Int)) none).cps.size ≤ z.cps.size
      rw [← Array.length_toList, cut_from, ← Array.length_toList, List.length_drop]
      omega
    have l1c : (one ch).length = 1 := rfl
    have r1 : ((r : Nat) : Int) + 1 = ((r + 1 : Nat) : Int) := by omega
    have out : ∀ (k : Nat) {G' : Hp}, r ≤ k → SameX d H G' → DiceAt G' d → Q (.str (cutS z none (some ((r : Nat) : Int)) ++ cutS z (some ((k : Nat) : Int)) none)) G' := fun k {G'} hk s1 d1 =>
      q _ _ (tx_bend (s := []) hz hk (Nat.zero_le _) nofun (by rw [cps_app', cut_to, cut_from, List.append_nil])) s1 d1
    have put : ∀ (k : Nat) {G' : Hp}, r ≤ k → SameX d H G' → DiceAt G' d → Q (.str (cutS z none (some ((r : Nat) : Int)) ++ one ch ++ cutS z (some ((k : Nat) : Int)) none)) G' := fun k {G'} hk s1 d1 =>
      q _ _ (tx_bend (s := [ch]) hz hk (Nat.le_refl _) (fun c hc => by rw [List.mem_singleton.mp hc]; exact hch) (by rw [cps_app', cps_app', cut_to, cut_from])) s1 d1
    have lt2 := lt
    refine ⟨_, rfl, rfl, _, rfl, ite2 (fun c => ?_) (fun c => ?_)⟩
    · have o := out (r + 1) (by omega) sx hdG
      have lf1 := lf (r + 1)
      rw [← r1] at o lf1
      exact ⟨_, rfl, _, rfl, _, rfl, z, rfl, hzs, _, rfl, _, rfl, _, _, rfl, rfl, _, rfl, z, rfl, hzs, _, _, rfl, rfl, by omega, o⟩
    refine ⟨_, rfl, rfl, _, rfl, ite2 (fun c2 => ?_) (fun c2 => ?_)⟩
    · have o := put (r + 1) (by omega) sx hdG
      have lf1 := lf (r + 1)
      rw [← r1] at o lf1
      exact ⟨_, rfl, _, rfl, _, rfl, z, rfl, hzs, _, rfl, _, _, rfl, rfl, by rw [l1c]; omega, _, rfl, _, rfl, _, _, rfl, rfl, _, rfl, z, rfl, hzs, _, _, rfl, rfl, by rw [Str.length_append, l1c]; omega, o⟩
    refine ⟨_, rfl, _, rfl, z, rfl, hzs, _, _, rfl, rfl, d, _, rfl, hdG, by omega, by rw [l1]; exact log2_small (by omega), fun e x b c h0 h1 => ?_⟩
    obtain ⟨e, rfl⟩ := Int.eq_ofNat_of_zero_le h0
    have sx3 : SameX d H (upd G d (.lst [.int x, .int b, .int c])) := sx.atd
    have hd3 : DiceAt (upd G d (.lst [.int x, .int b, .int c])) d := dice_new x b c
    generalize upd G d (.lst [.int x, .int b, .int c]) = G3 at sx3 hd3
    refine ⟨_, rfl, rfl, _, rfl, ite2 (fun c3 => ?_) (fun c3 => ?_)⟩
    · have o := put r (Nat.le_refl _) sx3 hd3
      have lf1 := lf r
      exact ⟨_, rfl, _, rfl, _, rfl, z, rfl, hzs, _, rfl, _, _, rfl, rfl, by rw [l1c]; omega, _, rfl, _, rfl, _, rfl, z, rfl, hzs, _, _, rfl, rfl, by rw [Str.length_append, l1c]; omega, o⟩
    · obtain ⟨k, ek, hk⟩ : ∃ k : Nat, (if ((e : Nat) : Int) > ((r : Nat) : Int) then ((e : Nat) : Int) else ((r : Nat) : Int)) = ((k : Nat) : Int) ∧ r ≤ k := by
        split
        · exact ⟨e, rfl, by omega⟩
        · exact ⟨r, rfl, Nat.le_refl _⟩
      have o := out k hk sx3 hd3
      have lf1 := lf k
      rw [← ek] at o lf1
      exact ⟨_, rfl, _, rfl, _, rfl, z, rfl, hzs, _, rfl, _, rfl, _, rfl, _, _, rfl, _, rfl, z, rfl, hzs, _, _, rfl, rfl, by omega, o⟩
end
end Kl


set_option maxRecDepth 100000
set_option maxHeartbeats 4000000
namespace Kl
open PySem PySem.Spec PyProof.Rows L2 Gx Mx
/-! ### data that are small -/
theorem ok_app (a b : Str) : PyData.strOk (a ++ b) = (PyData.strOk a && PyData.strOk b) := by
  show (a.cps ++ b.cps).all _ = (a.cps.all _ && b.cps.all _)
  rw [Array.all_append]
structure Sm (B k : Nat) (d : PyData) : Prop where
  lay : d.canLay0 = true
  dp : d.depth ≤ k
  wt : d.weight ≤ B
  sh : d.showable = true
  is : d.intsShort 13 = true
theorem Sm.str {B k : Nat} {s : Str} (h : PyData.strOk s = true) (hl : s.length ≤ B) : Sm B k (.str s) := ⟨h, Nat.zero_le _, hl, rfl, rfl⟩
theorem Sm.up {B B' k k' : Nat} {d : PyData} (h : Sm B k d) (hB : B ≤ B') (hk : k ≤ k') : Sm B' k' d := ⟨h.lay, Nat.le_trans h.dp hk, Nat.le_trans h.wt hB, h.sh, h.is⟩
theorem Sm.all {B k : Nat} : ∀ {ds : List PyData}, (∀ d ∈ ds, Sm B k d) → PyData.canLayAll0 ds = true ∧ PyData.depthAll ds ≤ k ∧ PyData.weightAll ds ≤ ds.length * (B + 1) ∧ PyData.showableAll ds = true ∧ PyData.intsShortAll 13 ds = true
  | [], _ => ⟨rfl, Nat.zero_le _, Nat.zero_le _, rfl, rfl⟩
  | d :: ds, h => by
    obtain ⟨h1, h2, h3, h4, h5⟩ := h d List.mem_cons_self
    obtain ⟨i1, i2, i3, i4, i5⟩ := Sm.all (ds := ds) fun x hx => h x (List.mem_cons_of_mem _ hx)
    refine ⟨?_, ?_, ?_, ?_, ?_⟩
    · rw [PyData.canLayAll0, h1, i1]; rfl
    · rw [PyData.depthAll]; exact Nat.max_le.mpr ⟨h2, i2⟩
    · rw [PyData.weightAll, List.length_cons, Nat.succ_mul]
      omega
    · rw [PyData.showableAll, h4, i4]; rfl
    · rw [PyData.intsShortAll, h5, i5]; rfl
theorem Sm.tup {B k n B' k' : Nat} {ds : List PyData} (h : ∀ d ∈ ds, Sm B k d) (hn : ds.length ≤ n) (hB : n * (B + 1) ≤ B') (hk : k + 1 ≤ k') : Sm B' k' (.tuple ds) := by
  obtain ⟨i1, i2, i3, i4, i5⟩ := Sm.all h
  have hm : ds.length * (B + 1) ≤ n * (B + 1) := Nat.mul_le_mul_right _ hn
  exact ⟨i1, by rw [PyData.depth]; omega, by rw [PyData.weight]; omega, i4, i5⟩
theorem Sm.lst {B k n B' k' : Nat} {ds : List PyData} (h : ∀ d ∈ ds, Sm B k d) (hn : ds.length ≤ n) (hB : n * (B + 1) ≤ B') (hk : k + 1 ≤ k') : Sm B' k' (.list ds) := by
  obtain ⟨i1, i2, i3, i4, i5⟩ := Sm.all h
  have hm : ds.length * (B + 1) ≤ n * (B + 1) := Nat.mul_le_mul_right _ hn
  exact ⟨i1, by rw [PyData.depth]; omega, by rw [PyData.weight]; omega, i4, i5⟩
theorem Sm.int {B k n : Nat} (h : n ≤ 6) (hB : 3 ≤ B) : Sm B k (.int (n : Int)) := by
  have e : (List.range 7).all (fun n => decide (PyData.weight (.int (n : Int)) ≤ 3) && PyData.showable (.int (n : Int)) && PyData.intsShort 13 (.int (n : Int))) = true := by decide +kernel
  have e2 := List.all_eq_true.mp e n (List.mem_range.mpr (by omega))
  rw [Bool.and_eq_true, Bool.and_eq_true] at e2
  exact ⟨rfl, Nat.zero_le _, Nat.le_trans (of_decide_eq_true e2.1.1) hB, e2.1.2, e2.2⟩
/-- what repr asks of data -/
theorem Sm.repr {B k : Nat} {d : PyData} (h : Sm B k d) (hB : B ≤ 1000000) (hk : k ≤ 60) : d.showable = true ∧ d.hasDict = false ∧ d.depth ≤ 60 ∧ d.shown.length ≤ sizeLine := by
  have hl : PyData.layable0 d = true := by
    show (PyData.canLay0 d && decide (PyData.depth d ≤ 64) && decide (PyData.weight d ≤ 2 ^ 20)) = true
    rw [h.lay, decide_eq_true (show d.depth ≤ 64 from Nat.le_trans h.dp (by omega)), decide_eq_true (show d.weight ≤ 2 ^ 20 from Nat.le_trans h.wt (Nat.le_trans hB (by decide)))]
    rfl
  refine ⟨h.sh, PyData.hasDict_of_layable hl, Nat.le_trans h.dp hk, Nat.le_trans (shown_le13 hl h.is) (by decide)⟩
/-- texts -/
theorem sm_texts {B n : Nat} {zs : List Str} (h : ∀ z ∈ zs, PyData.strOk z = true ∧ z.length ≤ B) (hn : zs.length ≤ n) : Sm (n * (B + 1)) 1 (.tuple (tD zs)) := by
  refine Sm.tup (k := 0) (n := n) (fun d hd => ?_) (by unfold tD; rw [List.length_map]; exact hn) (Nat.le_refl _) (Nat.le_refl _)
  obtain ⟨z, hz, rfl⟩ := List.mem_map.mp hd
  exact Sm.str (h z hz).1 (h z hz).2
theorem sm_row {qs : List (List Str)} (h : looseB qs = true) : Sm 72762 2 (rD qs) := by
  obtain ⟨m1, g1, _⟩ := loose_facts h
  refine Sm.tup (B := 180) (k := 1) (n := 402) (fun d hd => ?_) (by rw [List.length_map]; exact m1) (by decide) (by decide)
  obtain ⟨q, hq, rfl⟩ := List.mem_map.mp hd
  have hg := g1 q hq
  have ho := good_ok hg
  unfold goodB at hg
  rw [Bool.and_eq_true, Bool.and_eq_true] at hg
  exact sm_texts (B := 8) (n := 20) (fun z hz => ⟨ho z hz, name_len (List.all_eq_true.mp hg.2.1 z hz)⟩) (of_decide_eq_true hg.1)
/-! ### sums of rows: the mathematics -/
theorem dg_none {qs : List (List Str)} {i : Nat} (h : qs.length ≤ i) : dg qs i = [] := by
  unfold dg
  rw [List.getElem?_eq_none h]
  rfl
theorem loose_srt {qs : List (List Str)} (h : looseB qs = true) (i : Nat) : sortedS (dg qs i) = true := by
  obtain ⟨_, g1, _⟩ := loose_facts h
  unfold dg
  cases e : qs[i]? with
  | none => rfl
  | some q =>
    have hg := g1 q (List.mem_of_getElem? e)
    unfold goodB at hg
    rw [Bool.and_eq_true, Bool.and_eq_true] at hg
    exact hg.2.2
end Kl

set_option maxRecDepth 100000
set_option maxHeartbeats 4000000
namespace Kl
open PySem PySem.Spec PyProof.Rows L2 Gx Mx
theorem RowAt.sx {K : PySem.W.Frag} {G G' : Hp} {d p : Addr} {LL : List (Addr × List Str)} (h : RowAt K G p LL) (hd : DiceAt G d) (s : SameX d G G') : RowAt K G' p LL := ⟨sqT_sx hd s h.e, fun q hq => sqT_sx hd s (h.t q hq)⟩
theorem RowAt.lst {K : PySem.W.Frag} {G : Hp} {D p : Addr} {LL : List (Addr × List Str)} {xs : List V} {o : HO} (h : RowAt K G p LL) (e : G D = some (.lst xs)) : RowAt K (upd G D o) p LL := ⟨sqT_lst e h.e, fun q hq => sqT_lst e (h.t q hq)⟩
theorem dice_sm {H H' : Hp} {d : Addr} (s : Same H H') (q : DiceAt H d) : DiceAt H' d := by
  obtain ⟨x, b, c, h⟩ := q
  exact ⟨x, b, c, s _ _ h⟩
theorem loose_shaped {qs : List (List Str)} (h : looseB qs = true) : SeqAt.shaped (rD qs) = true := row_shaped fun q hq => good_ok ((loose_facts h).2.1 q hq)
theorem loose_nil : looseB [] = true := by decide +kernel
section
variable {P : Program} {w : World} {K : PySem.W.Frag} {mg : Str → Option Value} {base : Heap}
/-! ### _law_names_right -/
end
end Kl

set_option maxRecDepth 100000
set_option maxHeartbeats 4000000
/-! several clauses, some with a name for the error (one name for all), some without -/
namespace Gx
open PySem PySem.Spec PyProof.Rows L2
/-- what the clauses (all of one name, slot i) wish of an error of the body -/
def wMX (K : PySem.W.Frag) (i : Nat) (Wo : WX) (D : Ends) : List (Value × Bool × (Addr → Value → Option Addr → TS)) → WX
  | [] => Wo
  | (c, true, ts) :: r => fun ec ed σ H => ∃ b, PySem.W.exmOne K ec c = some b ∧ (b = true → ∀ ea, H ea = none → ts ea ec ed { nx := fun σ1 H1 => D.nx (σ1.set i none) H1, rt := D.rt, bk := fun σ1 H1 => D.bk (σ1.set i none) H1, ct := fun σ1 H1 => D.ct (σ1.set i none) H1 } (σ.set i (some (.ref ea))) H) ∧ (b = false → wMX K i Wo D r ec ed σ H)
  | (c, false, ts) :: r => fun ec ed σ H => ∃ b, PySem.W.exmOne K ec c = some b ∧ (b = true → ∀ ea, H ea = none → ts ea ec ed D σ H) ∧ (b = false → wMX K i Wo D r ec ed σ H)
inductive HdsX (X : Cx) (n : Str) : List ExceptHandler → List (Value × Bool × (Addr → Value → Option Addr → TS)) → Prop
  | nil : HdsX X n [] []
  | asn {x : Str} {c : Value} {ts : Addr → Value → Option Addr → TS} {b₀ : Stmt} {bs : List Stmt} {np ps : Pos} {hds : List ExceptHandler} {l : List (Value × Bool × (Addr → Value → Option Addr → TS))} (nm : Names X x c)
      (su : ∀ (ea : Addr) (eo : Obj) (ec : Value) (ed : Option Addr) (pn : List (Addr × Obj)), Zc ec ed eo → (∃ vs, eo.data = .fields vs) → PSs (X.suite ea ((ea, eo) :: pn)) (b₀ :: bs) (ts ea ec ed)) (r : HdsX X n hds l) :
      HdsX X n (.ExceptHandler (some (.Name x np)) (some n) (b₀ :: bs) ps :: hds) ((c, true, ts) :: l)
  | bare {x : Str} {c : Value} {ts : Addr → Value → Option Addr → TS} {b₀ : Stmt} {bs : List Stmt} {np ps : Pos} {hds : List ExceptHandler} {l : List (Value × Bool × (Addr → Value → Option Addr → TS))} (nm : Names X x c)
      (su : ∀ (ea : Addr) (eo : Obj) (ec : Value) (ed : Option Addr) (pn : List (Addr × Obj)), Zc ec ed eo → (∃ vs, eo.data = .fields vs) → PSs (X.suite ea ((ea, eo) :: pn)) (b₀ :: bs) (ts ea ec ed)) (r : HdsX X n hds l) :
      HdsX X n (.ExceptHandler (some (.Name x np)) none (b₀ :: bs) ps :: hds) ((c, false, ts) :: l)
section
variable {X : Cx} {n : Str} {i : Nat} {body : List Stmt} {h0 : ExceptHandler} {hds : List ExceptHandler} {l : List (Value × Bool × (Addr → Value → Option Addr → TS))} {pos : Pos} {tb : WX → TS} {Wo : WX}
theorem ps_try_mx (st : X.stack = X.env :: X.outer) (fr : X.env.frame = some X.env.locals) (nd : X.N.Nodup) (at_ : X.N[i]? = some n) (kl : X.env.kindOf n = some .local) (tk : Takes X Wo)
    (hb : ∀ (W : WX) (pn : List (Addr × Obj)) (xe : Value → Shared → Prop), Takes (X.tr pn xe) W → PassesOwn (model X.prog X.w) X.A X.env xe → PSs (X.tr pn xe) body (tb W))
    (hh : HdsX X n (h0 :: hds) l) : PS X (.Try body (h0 :: hds) [] [] pos) (fun D σ H => tb (wMX X.K i Wo D l) D σ H) := by
  refine ⟨fun pn0 s σ H D I0 wish => ?_⟩
  have okX := I0.ok
  have frs0 : X.A.frames = some (X.env :: X.outer) := by rw [okX.frames, st]
  have lc : Loc X.env.scope n := .inl kl
  refine wpAny_Try_except ?_
  refine wpAny_mono ((hb (wMX X.K i Wo D l) (X.pn ++ pn0) (fun e sa => wpAny (model X.prog X.w) X.A (noteFrame e X.env) (fun _ sb => wpAny (model X.prog X.w) X.A (setFlight e none) (fun _ sc =>
    wpAny (model X.prog X.w) X.A (handleBy e X.env (h0 :: hds)) (SP X pn0 D) X.xe sc) X.xe sb) X.xe sa) (fun u sz fly => ?_) PassesOwn.looking).run [] s σ H D (I0.toTry _) wish) (fun fl sz got => ?_) (fun _ _ z => z)
  · obtain ⟨ea, gb, si, pn1, σ1, H1, ec, ed, rfl, J0, nb, up, sky, na, eos, bare, w⟩ := fly
    have J1 : Inv X pn0 σ1 H1 si := J0.ofTry okX
    have sky1 : Sky gb (X.env :: X.outer) ea (Zc ec ed) X.env.locals sz.heap := by rw [← st]; exact sky
    show wpAny (model X.prog X.w) X.A (noteFrame (.ref ea) X.env) _ _ _
    refine Sky.land Zc.steady frs0 fr sky1 fun ha fa upa => ?_
    have Ja : Inv X pn0 σ1 H1 { sz with heap := ha } := J1.landed nb fa.1 (up.trans upa) eos bare
    obtain ⟨eo, ev, there, ze, de⟩ := fa.there
    have noFrame : ∀ {h : Heap} {o : Obj} {vs : Array Value}, h.FunFrames gb (X.env :: X.outer) → h.get? ea = some o → o.data = .fields vs → ea ∉ frs (X.env :: X.outer) := fun {h o vs} ff e dd hm => by
      obtain ⟨_, o1, e1, z⟩ := ff.mem hm
      rw [e] at e1
      cases e1
      exact z _ dd
    have nf := noFrame fa.2.2.1 there de
    have nL : ea ≠ X.env.locals := fun z => nf (List.mem_filterMap.mpr ⟨X.env, List.mem_cons_self, by rw [fr, z]⟩)
    have nF : ea ∉ X.fs := fun hm => by
      obtain ⟨e1, m1, q1⟩ := List.mem_filterMap.mp hm
      exact nf (List.mem_filterMap.mpr ⟨e1, List.mem_cons_of_mem _ m1, q1⟩)
    have Sa := Ja.suite there de na nL nF
    have each : ∀ {hs1 : List ExceptHandler} {l1 : List (Value × Bool × (Addr → Value → Option Addr → TS))}, HdsX X n hs1 l1 → wMX X.K i Wo D l1 ec ed σ1 H1 →
        wpAny (model X.prog X.w) X.A (handleBy (.ref ea) X.env hs1) (SP X pn0 D) X.xe { sz with heap := ha } := by
      intro hs1 l1 hk
      induction hk with
      | nil =>
        intro w1
        refine wpAny_handleBy_nil ?_
        obtain ⟨_, _, _, oe, vs, T, oT, ts1, he, hz, hd, h1, hr⟩ := id fa
        unfold PySem.passOn
        refine wpAny_bind (wpAny_field he hd h1 ?_)
        rw [if_neg (by simp : ¬ ((Value.ref T == Value.none) = true))]
        have on : wpAny (model X.prog X.w) X.A (setFlight (.ref ea) X.env.frame) (fun _ sd => wpAny (model X.prog X.w) X.A (throw (.ref ea) : Sem Flow) (SP X pn0 D) X.xe sd) X.xe { sz with heap := ha } := by
          rw [fr]
          refine HandSPX.setFlight_upZ fa fun hc fc upc => wpAny_throw (tk _ _ ?_)
          exact ⟨ea, gb, si, pn0, σ1, H1, ec, ed, rfl, J1, nb, (up.trans upa).trans upc, .inr (.inr (by rw [st]; exact fc)), na, eos, bare, w1⟩
        first | exact wpAny_bind (wpAny_pure (wpAny_bind on)) | exact wpAny_bind on
      | @asn x c ts b₀ bs np ps hds2 l2 nm su r ih =>
        intro w1
        obtain ⟨b, eb, yes, no⟩ := w1
        refine wpAny_handleBy_cons (codeAny_handlers_test ?_) (by intro q; cases q)
        have ty : PySem.W.Looks (model X.prog X.w) ha (typeOf (.ref ea)) ec := fun A Q E s k q => wpAny_typeOf_ref (k _ _ there) (by rw [ze.1]; exact q)
        have fits := PySem.W.exm_one (M := model X.prog X.w) (Ja.kIn) ty eb
        have named : ∀ {Q : Value → Shared → Prop} {E : Value → Shared → Prop}, Q c { sz with heap := ha } → wpAny (model X.prog X.w) (X.A.mark (some (.ref ea))) (eval (.Name x np) X.env) Q E { sz with heap := ha } := fun {Q E} q => by
          obtain ⟨g1, g2, m1 | ⟨m1, m2, m3⟩⟩ := nm
          · exact ld_glob (X := X.suite ea ((ea, eo) :: (X.pn ++ pn0))) Sa g1 m1 q g2
          · exact ld_blt (X := X.suite ea ((ea, eo) :: (X.pn ++ pn0))) Sa g1 m1 m2 q m3 g2
        refine named (fits.here ?_)
        cases b with
        | false =>
          show wpAny _ X.A (handleBy (.ref ea) X.env hds2) _ _ _
          exact ih (no rfl)
        | true =>
          refine codeAny_handlers_suite_as ?_
          refine HandSPX.lands_againZ fa fun hc fc upc => ?_
          have Jc : Inv X pn0 σ1 H1 { sz with heap := hc } := J1.landed nb fc.1 ((up.trans upa).trans upc) eos bare
          obtain ⟨eo2, ev2, there2, ze2, de2⟩ := fc.there
          have Sc := Jc.suite there2 de2 na nL nF
          refine store_ok (X := X.suite ea ((ea, eo2) :: (X.pn ++ pn0))) (v := .ref ea) Sc nd at_ lc rfl (fun se Se => ?_) (.inr kl)
          refine wpAny_mono ((su ea eo2 ec ed (X.pn ++ pn0) ze2 ⟨_, de2⟩).run [] se _ H1 _ Se (yes rfl ea na)) (fun fl sg got => ?_) (fun _ _ z => False.elim z)
          have gone : ∀ {σ6 : L2.St} {H6 : Hp} {Q : Shared → Prop}, Inv (X.suite ea ((ea, eo2) :: (X.pn ++ pn0))) [] σ6 H6 sg → (∀ s7, Inv X pn0 (σ6.set i none) H6 s7 → Q s7) →
              wpAny (model X.prog X.w) X.A (do bindName X.env n .none; unbindBehindTheSuite X.env n ps) (fun _ s7 => Q s7) X.xe sg := fun {σ6 H6 Q} S6 hq => gone_ok (S6.unsuite okX) nd at_ kl hq
          cases fl with
          | ret u =>
            obtain ⟨v6, σ6, H6, S6, r6, q6⟩ := got
            exact gone S6 fun _ J7 => ⟨_, _, _, J7, r6, q6⟩
          | next =>
            obtain ⟨σ6, H6, S6, q6⟩ := got
            exact gone S6 fun _ J7 => ⟨_, _, J7, q6⟩
          | brk =>
            obtain ⟨σ6, H6, S6, q6⟩ := got
            exact gone S6 fun _ J7 => ⟨_, _, J7, q6⟩
          | cont =>
            obtain ⟨σ6, H6, S6, q6⟩ := got
            exact gone S6 fun _ J7 => ⟨_, _, J7, q6⟩
      | @bare x c ts b₀ bs np ps hds2 l2 nm su r ih =>
        intro w1
        obtain ⟨b, eb, yes, no⟩ := w1
        refine wpAny_handleBy_cons (codeAny_handlers_test ?_) (by intro q; cases q)
        have ty : PySem.W.Looks (model X.prog X.w) ha (typeOf (.ref ea)) ec := fun A Q E s k q => wpAny_typeOf_ref (k _ _ there) (by rw [ze.1]; exact q)
        have fits := PySem.W.exm_one (M := model X.prog X.w) (Ja.kIn) ty eb
        have named : ∀ {Q : Value → Shared → Prop} {E : Value → Shared → Prop}, Q c { sz with heap := ha } → wpAny (model X.prog X.w) (X.A.mark (some (.ref ea))) (eval (.Name x np) X.env) Q E { sz with heap := ha } := fun {Q E} q => by
          obtain ⟨g1, g2, m1 | ⟨m1, m2, m3⟩⟩ := nm
          · exact ld_glob (X := X.suite ea ((ea, eo) :: (X.pn ++ pn0))) Sa g1 m1 q g2
          · exact ld_blt (X := X.suite ea ((ea, eo) :: (X.pn ++ pn0))) Sa g1 m1 m2 q m3 g2
        refine named (fits.here ?_)
        cases b with
        | false =>
          show wpAny _ X.A (handleBy (.ref ea) X.env hds2) _ _ _
          exact ih (no rfl)
        | true =>
          refine codeAny_handlers_suite ?_
          refine HandSPX.lands_againZ fa fun hc fc upc => ?_
          have Jc : Inv X pn0 σ1 H1 { sz with heap := hc } := J1.landed nb fc.1 ((up.trans upa).trans upc) eos bare
          obtain ⟨eo2, ev2, there2, ze2, de2⟩ := fc.there
          have Sc := Jc.suite there2 de2 na nL nF
          refine wpAny_mono ((su ea eo2 ec ed (X.pn ++ pn0) ze2 ⟨_, de2⟩).run [] _ _ H1 _ Sc (yes rfl ea na)) (fun fl sg got => ?_) (fun _ _ z => False.elim z)
          cases fl with
          | ret u =>
            obtain ⟨v6, σ6, H6, S6, r6, q6⟩ := got
            exact ⟨_, _, _, S6.unsuite okX, r6, q6⟩
          | next =>
            obtain ⟨σ6, H6, S6, q6⟩ := got
            exact ⟨_, _, S6.unsuite okX, q6⟩
          | brk =>
            obtain ⟨σ6, H6, S6, q6⟩ := got
            exact ⟨_, _, S6.unsuite okX, q6⟩
          | cont =>
            obtain ⟨σ6, H6, S6, q6⟩ := got
            exact ⟨_, _, S6.unsuite okX, q6⟩
    exact each hh w
  · cases fl with
    | ret u =>
      obtain ⟨v, σ1, H1, J1, r, q⟩ := got
      exact ⟨v, σ1, H1, J1.ofTry okX, r, q⟩
    | next =>
      obtain ⟨σ1, H1, J1, q⟩ := got
      exact wpAny_execs_nil ⟨σ1, H1, J1.ofTry okX, q⟩
    | brk =>
      obtain ⟨σ1, H1, J1, q⟩ := got
      exact ⟨σ1, H1, J1.ofTry okX, q⟩
    | cont =>
      obtain ⟨σ1, H1, J1, q⟩ := got
      exact ⟨σ1, H1, J1.ofTry okX, q⟩
end
end Gx

set_option maxRecDepth 100000
set_option maxHeartbeats 4000000
namespace Kl
open PySem PySem.Spec PyProof.Rows L2 Gx Mx LamX
section
variable {K : PySem.W.Frag}
/-! ### _law_told -/
/-- an error is caught with as many slots as there are names -/
theorem takes_len {X : Cx} {W : WX} (tk : Takes X W) : Takes X (fun cls d σ H => σ.length = X.N.length → W cls d σ H) := fun u s' h => by
  obtain ⟨a, B, si, p1, σ1, H1, ec, ed, e, J, nb, up, sky, na, os, bare, w⟩ := h
  exact tk u s' ⟨a, B, si, p1, σ1, H1, ec, ed, e, J, nb, up, sky, na, os, bare, w J.len⟩
/-- what it makes of the reading of the lambda -/
def TTold13 (CP : Addr) : (XK → Hp → VK → Prop) → Hp → VK → Prop := fun tl H Q =>
  tl (fun cls d H' => cls = .ref CP ∧ ∃ dd : Addr, d = some dd ∧ H' dd = some (.xd [("number", .non)]) ∧ ∀ l, H' l = none → Q (.ref l) (upd H' l (.lst [.str "parse", .non]))) H Q
theorem told_gives13 {X : Cx} {CP fI g : Addr} {cdg : Value} {q : Str} {k : Nat} (T : Top X.K X.mg) (TX : XT_ParseError X.K X.mg CP fI) (hr : Room (k + 1) X.A) :
    GivesTo X ["_law_call", "e"] "_law_told" (defScope s_law_told) g cdg (defBody s_law_told) "_law_call" q (TTold13 CP) := by
  intro f c' s H Q tl act hc h
  refine ⟨_, pss_one (ps_try_mx (X := (cxOf C8.CX0 X.prog X.w X.K X.mg X.base ["_law_call", "e"] "_law_told" (defScope s_law_told) g cdg X.A X.stack s H C8.E0).nox) (i := 1) (n := "e")
      (tb := fun W D σ H => ∃ Ech : XK, (∀ cls d σ' H', Ech cls d H' → σ'.length = 2 → W cls d σ' H') ∧ σ[0]? = some (some (.ref f)) ∧ H c' = some (CodeO c' q) ∧ tl Ech H fun v H' => D.rt v H')
      rfl rfl sc_law_told.nd rfl rfl takes_none5 (fun W pn xe tk _ => ?_)
      (.asn (c := .ref CP) ⟨by rfl, by decide, .inl TX.gC⟩ (fun a oe cls d pn hz hf => pss_one (ps_ret (pe_lst (pa_cons pe_str (pa_cons (pe_byX TX hz hf (pv 1)) pa_nil))))) .nil)), ?_⟩
  · refine ⟨fun pins s' σ H' D I h' => ?_⟩
    obtain ⟨Ech, hW, h1, h2, h3⟩ := h'
    exact (pss_one (ps_ret (act _ pn xe Ech _ _ (takes_len tk) hW))).run pins s' σ H' D I ⟨h1, h2, h3⟩
  · refine ⟨_, fun cls d σ' H' he hl => ?_, rfl, hc, h⟩
    obtain ⟨v0, v1, rfl⟩ : ∃ v0 v1, σ' = [v0, v1] := by
      match σ', hl with
      | [v0, v1], _ => exact ⟨v0, v1, rfl⟩
    obtain ⟨rfl, dd, rfl, e1, hq⟩ := he
    refine ⟨true, TX.te, fun _ ea na => ?_, fun h => by cases h⟩
    refine ⟨_, rfl, rfl, rfl, dd, .non, rfl, e1, by show 2 ≤ sizeLine; decide, fun l nl => hq l nl⟩
end
section
variable {X : Cx}
/-- _law_told(lambda: body) -/
theorem pe_tl13 {Tb : List (Addr × Str)} {c P CP fI : Addr} {k : Nat} {params : Arguments} {body : Expr} {scope : Scope} {t : XK → TE} {p lpos pos : Pos} (T : Top X.K X.mg) (TX : XT_ParseError X.K X.mg CP fI) (hgl : Gl X "_law_told") (hr : Room (k + 2) X.A)
    (TB : TabB X.base X.mg c P) (hcode : X.env.code = .ref c) (hmT : (P, X.env.qual ++ "<lambda>") ∈ Tb) (hu : ∀ p ∈ Tb, p.1 = P → p.2 = X.env.qual ++ "<lambda>") (L : LamS X.env.scope scope) (hdef : defaultsOf params X.env = ([], []))
    (hbind : ∀ (q : Str) (cl : List (Str × Addr)) (pm cv ctv : Value), bindArgs (PySem.W.kla_fn "<lambda>" q params body scope cl pm cv ctv) ⟨[], []⟩ = pure [])
    (hbody : ∀ (A : Around) (outer : List Env) (s : Shared) (H : Hp) (E : XK) (f c' : Addr), Room k (A.deeper (lamEnv X scope s.heap.objs.size f c')) → PE (lamCx X A outer s H E scope f c') body (t E)) :
    PE X (.Call (.Name "_law_told" p) [.Lambda params body scope lpos] [] pos) (tLam Tb (TTold13 CP) t) := by
  obtain ⟨g, fd, F, b, hm⟩ := T.d_law_told
  have kp := F.kp
  obtain ⟨oc, od, kV, doc, pm, an, cdv, ct, osl, rfl, lk, hcd⟩ := F.ex
  exact pe_lamcall (Ng := ["_law_call", "e"]) hgl hm kp lk hcd b sc_law_told rfl (.inl rfl) (told_gives13 T TX hr) TB hcode hmT hu hr L hdef hbind hbody
end
end Kl

set_option maxRecDepth 100000
set_option maxHeartbeats 4000000
/-! ### what stays while lambdas are made -/
namespace Gx
open PySem PySem.Spec PyProof.Rows L2
/-- all but the object at d and the tables stay -/
def ExtX (d : Addr) (H H' : Hp) : Prop := ∀ b o, b ≠ d → H b = some o → (∀ ps, o ≠ .tbl ps) → H' b = some o
theorem ExtX.refl (d : Addr) (H : Hp) : ExtX d H H := fun _ _ _ e _ => e
theorem ExtX.trans {d : Addr} {H H1 H2 : Hp} (a : ExtX d H H1) (b : ExtX d H1 H2) : ExtX d H H2 := fun c o n e t => b c o n (a c o n e t) t
theorem ExtX.ofN {d : Addr} {H H' : Hp} (s : LamX.ExtN H H') : ExtX d H H' := fun b o _ e t => s b o e t
theorem ExtX.of {d : Addr} {H H' : Hp} (s : Same H H') : ExtX d H H' := fun b o _ e _ => s b o e
end Gx
namespace Kl
open PySem PySem.Spec PyProof.Rows L2 Gx Mx LamX
theorem dice_exN {H H' : Hp} {d : Addr} (s : ExtN H H') (h : DiceAt H d) : DiceAt H' d := by
  obtain ⟨a, b, c, e⟩ := h
  exact ⟨a, b, c, s _ _ e fun _ => nofun⟩
theorem tabs_dice {Tb : List (Addr × Str)} {H H' : Hp} {d : Addr} (t : Tabs Tb H) (hd : DiceAt H d) (s : SameX d H H') : Tabs Tb H' := fun p hp => by
  obtain ⟨ps, h1, h2, h3⟩ := t p hp
  obtain ⟨a, b, c, e⟩ := hd
  refine ⟨ps, s _ _ (fun w => by rw [w, e] at h1; cases h1) h1, h2, fun pos cv hc => ?_⟩
  obtain ⟨c1, e1, e2⟩ := h3 pos cv hc
  exact ⟨c1, e1, s _ _ (fun w => by rw [w, e] at e2; cases (Option.some.inj e2)) e2⟩
theorem ext_ofX {d : Addr} {H H' : Hp} (s : SameX d H H') : ExtX d H H' := fun b o n e _ => s b o n e
/-- p is new since H (as far as what is no table tells) -/
def NewN (H : Hp) (p : Addr) : Prop := ∀ o, H p = some o → ¬ ∀ ps, o ≠ .tbl ps
theorem new_n {H H' : Hp} {p : Addr} (s : ExtN H H') (n : H' p = none) : NewN H p := fun o e t => by
  rw [s _ _ e t] at n
  cases n
theorem ext_lst {H G : Hp} {p : Addr} {o : HO} (s : ExtN H G) (n : NewN H p) : ExtN H (upd G p o) := fun b u e t => by
  by_cases c : b = p
  · rw [c] at e
    exact (n u e t).elim
  · rw [upd_ne c]
    exact s b u e t
theorem tabs_lst {Tb : List (Addr × Str)} {G : Hp} {p : Addr} {xs : List V} {o : HO} (t : Tabs Tb G) (e : G p = some (.lst xs)) : Tabs Tb (upd G p o) := fun q hq => by
  obtain ⟨ps, h1, h2, h3⟩ := t q hq
  refine ⟨ps, by rw [upd_ne (fun w => by rw [w, e] at h1; cases h1)]; exact h1, h2, fun pos cv hc => ?_⟩
  obtain ⟨c1, e1, e2⟩ := h3 pos cv hc
  exact ⟨c1, e1, by rw [upd_ne (fun w => by rw [w, e] at e2; cases (Option.some.inj e2))]; exact e2⟩
theorem ext_sm {H G G' : Hp} (a : ExtN H G) (s : Same G G') : ExtN H G' := a.trans (.of s)
theorem sqT_exN {K : PySem.W.Frag} {G G' : Hp} {a : Addr} {xs : List V} (s : ExtN G G') (h : SqT K G a xs) : SqT K G' a xs := by
  rcases h with (h | ⟨o, h⟩) | h
  · exact .inl (.inl (s _ _ h fun _ => nofun))
  · exact .inl (.inr ⟨o, s _ _ h fun _ => nofun⟩)
  · exact .inr h
theorem sqT_exX {K : PySem.W.Frag} {G G' : Hp} {d a : Addr} {xs : List V} (hd : DiceAt G d) (s : ExtX d G G') (h : SqT K G a xs) : SqT K G' a xs := by
  obtain ⟨p, q, r, e⟩ := hd
  rcases h with (h | ⟨o, h⟩) | h
  · exact .inl (.inl (s _ _ (fun z => by rw [z, e] at h; cases h) h fun _ => nofun))
  · exact .inl (.inr ⟨o, s _ _ (fun z => by rw [z, e] at h; cases h) h fun _ => nofun⟩)
  · exact .inr h
end Kl

set_option maxRecDepth 100000
set_option maxHeartbeats 4000000
/-! ### repr of data, the text named: no two long texts are ever compared -/
namespace Gx
open PySem PySem.Spec PyProof.Rows L2
section
variable {X : Cx}
def rReprE (K : PySem.W.Frag) : List V → Hp → VK → Prop := fun xs H Q => ∃ (x : V) (d : PyData) (S : Str), xs = [x] ∧ Dp K H x d ∧ (d.showable = true ∧ d.hasDict = false ∧ d.depth ≤ 60 ∧ d.shown.length ≤ sizeLine) ∧ d.shown = S ∧ Q (.str S) H
theorem call_reprE (g : Gd X.A) (hu : X.A.units + 64 < cLine) : CallR X (.builtin "repr") (rReprE X.K) := by
  intro pins s σ H xs us Q I r h
  obtain ⟨x, d, S, e, hd, ⟨h1, h2, h3, h4⟩, rfl, q⟩ := h
  exact call_reprD g hu pins s σ H xs us Q I r ⟨x, d, e, hd, h1, h2, h3, h4, q⟩
end
end Gx

set_option maxRecDepth 100000
set_option maxHeartbeats 4000000
namespace Kl
open PySem PySem.Spec PyProof.Rows L2 Gx Mx LamX
theorem RowAt.exN {K : PySem.W.Frag} {G G' : Hp} {p : Addr} {LL : List (Addr × List Str)} (h : RowAt K G p LL) (s : ExtN G G') : RowAt K G' p LL := ⟨sqT_exN s h.e, fun q hq => sqT_exN s (h.t q hq)⟩
theorem RowAt.exX {K : PySem.W.Frag} {G G' : Hp} {d p : Addr} {LL : List (Addr × List Str)} (h : RowAt K G p LL) (hd : DiceAt G d) (s : ExtX d G G') : RowAt K G' p LL := ⟨sqT_exX hd s h.e, fun q hq => sqT_exX hd s (h.t q hq)⟩
theorem Tx.up {n m : Nat} {z : Str} (h : Tx n z) (hm : n ≤ m) : Tx m z := ⟨by have := h.len; omega, by have := h.few; omega, h.low⟩
/-- what reading a row gave -/
def DueR (K : PySem.W.Frag) (G : Hp) (z : Str) (v : V) : Prop := (∃ p LL, v = .ref p ∧ parseR z = some (LL.map (·.2)) ∧ RowAt K G p LL) ∨ (v = .non ∧ parseR z = none)
def DueD (K : PySem.W.Frag) (G : Hp) (z : Str) (v : V) : Prop := (∃ p q, v = .ref p ∧ parseD z = some q ∧ SqT K G p (q.map V.str)) ∨ (v = .non ∧ parseD z = none)
theorem DueR.exN {K : PySem.W.Frag} {G G' : Hp} {z : Str} {v : V} (h : DueR K G z v) (s : ExtN G G') : DueR K G' z v := by
  rcases h with ⟨p, LL, e, h1, h2⟩ | h
  · exact .inl ⟨p, LL, e, h1, h2.exN s⟩
  · exact .inr h
theorem DueD.exN {K : PySem.W.Frag} {G G' : Hp} {z : Str} {v : V} (h : DueD K G z v) (s : ExtN G G') : DueD K G' z v := by
  rcases h with ⟨p, q, e, h1, h2⟩ | h
  · exact .inl ⟨p, q, e, h1, sqT_exN s h2⟩
  · exact .inr h
theorem no_ne13 {z : Str} {Q R : Prop} (r : R) : if (!decide (V.str z = V.str z)) = true then Q else R := by
  rw [decide_eq_true rfl, if_neg (by decide)]
  exact r
abbrev noneD : PyData := .list [.str "parse", .none]
theorem none_rp : noneD.showable = true ∧ noneD.hasDict = false ∧ noneD.depth ≤ 60 ∧ noneD.shown.length ≤ sizeLine := ⟨by decide +kernel, by decide +kernel, by decide +kernel, by decide +kernel⟩
section
variable {P : Program} {w : World} {K : PySem.W.Frag} {mg : Str → Option Value} {base : Heap}
/-! ### _law_texts_right -/
def spXR (K : PySem.W.Frag) (Tb : List (Addr × Str)) : Sp := fun vs H Q _ => ∃ (d : Addr) (z : Str), vs = [V.ref d, V.str z] ∧ DiceAt H d ∧ Tabs Tb H ∧ Tx 0 z ∧ ∀ H', ExtX d H H' → Tabs Tb H' → DiceAt H' d → Q (.bl true) H'
theorem ok_xr {f c Pt CP fI : Addr} {fd fdI : FuncData} {Tb : List (Addr × Str)} (F : Fun K "_law_texts_right" "_law_texts_right" s_law_texts_right f fd) (hc : fd.code = .ref c) (TB : TabB base mg c Pt) (hm : (Pt, ln "_law_texts_right") ∈ Tb) (hu0 : ∀ p ∈ Tb, p.1 = Pt → p.2 = ln "_law_texts_right")
    (T : Top K mg) (TX : XT_ParseError K mg CP fI) (FX : Fun K "__init__" "ParseError.__init__" s_ParseError_init fI fdI) : FnG P w K mg base CX0 10 f fd ["_law_dice_here", "_law_text"] (spXR K Tb) := by
  have cr : Cal P w K mg base 9 "_law_roll" ["_law_dice_here", "_law_total"] spRoll := (T.d_law_roll.cal fun f fd F => ok_roll F T).mono (by decide)
  have cb : Cal P w K mg base 9 "_law_bent" ["_law_dice_here", "_law_text"] spBent := (T.d_law_bent.cal fun f fd F => ok_bent F T).mono (by decide)
  have ct : Cal P w K mg base 9 "_law_text_read" ["_law_text"] (spTR K) := (T.d_law_text_read.cal fun f fd F => ok_tr F T).mono (by decide)
  have cw : Cal P w K mg base 9 "_law_word_read" ["_law_word"] (spWo K) := (T.d_law_word_read.cal fun f fd F => ok_wo F T).mono (by decide)
  have cy : CalY P w K mg base 7 "read_row" ["text"] (spRR K CP) := T.d_read_row.calY fun f fd F => ok_rr F T TX FX
  have cz : CalY P w K mg base 7 "read_digit" ["text"] (spRD CP) := (T.d_read_digit.calY fun f fd F => ok_rd F T TX FX).up (by decide)
  have cwr : Cal P w K mg base 9 "write_row" ["row"] (spWR K) := (T.d_write_row.cal fun f fd F => ok_wr F T).mono (by decide)
  have cwd : Cal P w K mg base 9 "write_digit" ["digit"] (spWD K) := (T.d_write_digit.cal fun f fd F => ok_wd F T).mono (by decide)
  refine okGL F hc sc_law_texts_right (fun vs H Q E h => ?_) (fun A outer s H vs Q E hg hr h => ?_)
  · obtain ⟨d, z, rfl, _⟩ := h
    rfl
  · obtain ⟨d, z, rfl, hd, hTb, hz, q⟩ := h
    have hu64 := hr.units
    refine ⟨_, pss_cut (ps_for PassesOwn.never rfl (pi_range1 (by rfl) T.b_range (pa_cons pe_int pa_nil)) (pg_name (i := 2) sc_law_texts_right.nd rfl (.inl rfl))
      (pss_cut (ps_set (i := 3) sc_law_texts_right.nd rfl (.inr rfl) (pe_cal cb hr (by rfl) (pa_cons (pv 0) (pa_cons (pv 1) pa_nil))))
      (pss_cut (ps_set (i := 3) sc_law_texts_right.nd rfl (.inr rfl) (pe_ifExp (pt_cmpR op_eq (pe_cal cr hr (by rfl) (pa_cons (pv 0) (pa_cons pe_int pa_nil))) pe_int (by rfl)) (pe_cal cb hr (by rfl) (pa_cons (pv 0) (pa_cons (pv 3) pa_nil))) (pv 3)))
      (pss_cut (ps_par (i := 4) (j := 5) rfl sc_law_texts_right.nd rfl rfl (by decide) rfl rfl (pa_cons (pe_cal ct hr (by rfl) (pa_cons (pv 3) pa_nil)) (pa_cons (pe_cal cw hr (by rfl) (pa_cons (pv 3) pa_nil)) pa_nil)) (by kernel_rfl))
      (pss_cut (ps_if (pt_cmpR op_ne (pe_callB (call_reprE hg hr.units) (by rfl) T.b_repr (by decide +kernel) (pa_cons (pe_tl13 (k := 7) T TX (by rfl) (hr.mono (by decide)) TB rfl hm hu0 (lamS_by (sc := defScope s_law_texts_right) (by decide +kernel)) rfl (fun _ _ _ _ _ => rfl)
              (fun A outer s H E f c' hr' => pe_calY cy (hr'.mono (by decide)) (by rfl) (fun σ => passAt (takes_of rfl rfl rfl rfl) σ) (pa_cons (pv 3) pa_nil))) pa_nil))
            (pe_callB (call_reprE hg hr.units) (by rfl) T.b_repr (by decide +kernel) (pa_cons (pe_ifExp (pt_cmpR op_isN (pv 4) pe_non (nomark _)) (pe_lst (pa_cons pe_str (pa_cons pe_non pa_nil))) (pv 4)) pa_nil)) (by rfl)) (pss_one (ps_ret pe_bl)) pss_nil)
      (pss_cut (ps_if (pt_cmpR op_ne (pe_callB (call_reprE hg hr.units) (by rfl) T.b_repr (by decide +kernel) (pa_cons (pe_tl13 (k := 7) T TX (by rfl) (hr.mono (by decide)) TB rfl hm hu0 (lamS_by (sc := defScope s_law_texts_right) (by decide +kernel)) rfl (fun _ _ _ _ _ => rfl)
              (fun A outer s H E f c' hr' => pe_calY cz (hr'.mono (by decide)) (by rfl) (fun σ => passAt (takes_of rfl rfl rfl rfl) σ) (pa_cons (pv 3) pa_nil))) pa_nil))
            (pe_callB (call_reprE hg hr.units) (by rfl) T.b_repr (by decide +kernel) (pa_cons (pe_ifExp (pt_cmpR op_isN (pv 5) pe_non (nomark _)) (pe_lst (pa_cons pe_str (pa_cons pe_non pa_nil))) (pv 5)) pa_nil)) (by rfl)) (pss_one (ps_ret pe_bl)) pss_nil)
      (pss_one (ps_if (PW.pt (pw_or (PW.pt (pw_and (pt_cmpR op_notN (pv 4) pe_non (nomark _)) (pw_and1 (pt_cmpR op_ne (pe_cal cwr hr (by rfl) (pa_cons (pv 4) pa_nil)) (pv 3) (by rfl)))))
          (pw_or1 (PW.pt (pw_and (pt_cmpR op_notN (pv 5) pe_non (nomark _)) (pw_and1 (pt_cmpR op_ne (pe_cal cwd hr (by rfl) (pa_cons (pv 5) pa_nil)) (pv 3) (by rfl)))))))) (pss_one (ps_ret pe_bl)) pss_nil))))))))
      (pss_one (ps_ret pe_bl)), ?_⟩
    have big : 100000 ≤ sizeLine := by decide
    refine ⟨fun σ' G => (∃ (y2 y3 y4 y5 : Option V), σ' = [some (.ref d), some (.str z), y2, y3, y4, y5]) ∧ ExtX d H G ∧ Tabs Tb G ∧ DiceAt G d, ?_, ?_⟩
    rotate_left
    · rintro σ' G ⟨_, x, t, hdG⟩
      exact q G x t hdG
    refine ⟨_, rfl, by decide, by decide, ?_⟩
    refine for_range (lo := 0) (fun j σ' G => (∃ (y2 y3 y4 y5 : Option V), σ' = [some (.ref d), some (.str z), y2, y3, y4, y5]) ∧ ExtX d H G ∧ Tabs Tb G ∧ DiceAt G d) ⟨⟨_, _, _, _, rfl⟩, .refl d H, hTb, hd⟩ (fun j σ' G _ hP => ?_) (fun σ' G hP => hP)
    obtain ⟨⟨y2, y3, y4, y5, rfl⟩, x0, t0, hd0⟩ := hP
    -- bent once
    refine ⟨fun σ' G' => ∃ (y2 : Option V) (z1 : Str), σ' = [some (.ref d), some (.str z), y2, some (.str z1), y4, y5] ∧ Tx 1 z1 ∧ ExtX d H G' ∧ Tabs Tb G' ∧ DiceAt G' d, ?_, ?_⟩
    · exact ⟨_, rfl, _, rfl, d, z, 0, rfl, hd0, hz, by decide, fun z' H' hz' sx hd' => ⟨_, z', rfl, hz', x0.trans (ext_ofX sx), tabs_dice t0 hd0 sx, hd'⟩⟩
    clear x0 t0 hd0 y2 y3
    rintro σ' G1 ⟨y2, z1, rfl, hz1, x0, t0, hd0⟩
    -- .. or twice
    refine ⟨fun σ' G' => ∃ (z1 : Str), σ' = [some (.ref d), some (.str z), y2, some (.str z1), y4, y5] ∧ Tx 2 z1 ∧ ExtX d H G' ∧ Tabs Tb G' ∧ DiceAt G' d, ?_, ?_⟩
    · refine ⟨_, rfl, d, 3, rfl, hd0, by decide, by decide, fun r x b c _ _ => ⟨rfl, _, rfl, ?_⟩⟩
      have sx1 : SameX d G1 (upd G1 d (.lst [.int x, .int b, .int c])) := (SameX.refl d G1).atd
      have hd1 : DiceAt (upd G1 d (.lst [.int x, .int b, .int c])) d := dice_new x b c
      have t1 := tabs_dice t0 hd0 sx1
      generalize upd G1 d (.lst [.int x, .int b, .int c]) = G2 at sx1 hd1 t1
      refine ite2 (fun _ => ?_) (fun _ => ?_)
      · exact ⟨_, rfl, _, rfl, d, z1, 1, rfl, hd1, hz1, by decide, fun z' H' hz' sx hd' => ⟨z', rfl, hz', (x0.trans (ext_ofX sx1)).trans (ext_ofX sx), tabs_dice t1 hd1 sx, hd'⟩⟩
      · exact ⟨_, rfl, z1, rfl, hz1.up (by decide), x0.trans (ext_ofX sx1), t1, hd1⟩
    clear x0 t0 hd0 hz1 z1
    rintro σ' G2 ⟨z1, rfl, hz1, x0, t0, hd0⟩
    have hz4 : z1.length ≤ 4000 := by have := hz1.len; omega
    -- read by the law
    refine ⟨fun σ' G' => ∃ (v1 v2 : V), σ' = [some (.ref d), some (.str z), y2, some (.str z1), some v1, some v2] ∧ DueR K G' z1 v1 ∧ DueD K G' z1 v2 ∧ Same G2 G', ?_, ?_⟩
    · refine ⟨_, rfl, z1, 2, rfl, hz1, by decide, fun p LL H' hp s hR => ?_, fun H' hp s => ?_⟩
      · refine ⟨_, rfl, z1, rfl, hz1.low, hz4, fun p2 q2 H2 hp2 s2 e2 => ?_, fun H2 hp2 s2 => ?_⟩
        · exact ⟨_, _, rfl, _, _, rfl, .inl ⟨p, LL, rfl, hp, hR.same s2⟩, .inl ⟨p2, q2, rfl, hp2, .inl (.inl e2)⟩, fun b o e => s2 _ _ (s _ _ e)⟩
        · exact ⟨_, _, rfl, _, _, rfl, .inl ⟨p, LL, rfl, hp, hR.same s2⟩, .inr ⟨rfl, hp2⟩, fun b o e => s2 _ _ (s _ _ e)⟩
      · refine ⟨_, rfl, z1, rfl, hz1.low, hz4, fun p2 q2 H2 hp2 s2 e2 => ?_, fun H2 hp2 s2 => ?_⟩
        · exact ⟨_, _, rfl, _, _, rfl, .inr ⟨rfl, hp⟩, .inl ⟨p2, q2, rfl, hp2, .inl (.inl e2)⟩, fun b o e => s2 _ _ (s _ _ e)⟩
        · exact ⟨_, _, rfl, _, _, rfl, .inr ⟨rfl, hp⟩, .inr ⟨rfl, hp2⟩, fun b o e => s2 _ _ (s _ _ e)⟩
    rintro σ' G3 ⟨v1, v2, rfl, d1, d2, s23⟩
    have hd3 := dice_exN (.of s23) hd0
    have t3 := t0.ext s23
    have x3 := x0.trans (.of s23)
    clear x0 t0 hd0 s23
    have l402 := tx_split hz1 (by decide)
    -- the program's row
    refine ⟨fun σ' G' => σ' = [some (.ref d), some (.str z), y2, some (.str z1), some v1, some v2] ∧ ExtN G3 G' ∧ Tabs Tb G', ?_, ?_⟩
    · refine ⟨t3, fun G4 eN t4 => ?_⟩
      have d14 := d1.exN eN
      refine ⟨_, rfl, z1, 2, rfl, hz1, by decide, fun p LL H' hp s hR => ?_, fun dd H' hp s e => ?_⟩
      · rcases d14 with ⟨p', LL', rfl, h1, h2⟩ | ⟨rfl, h1⟩
        · rw [hp] at h1
          have eq := Option.some.inj h1
          have hL := (parseR_text hp l402).2
          have rp := (sm_row hL).repr (by decide) (by decide)
          obtain ⟨S, hS⟩ : ∃ S, (rD (LL.map (·.2))).shown = S := ⟨_, rfl⟩
          refine ⟨.ref p, _, S, rfl, hR.dp, rp, hS, _, rfl, rfl, _, rfl, ?_⟩
          show (if decide (V.ref p' = V.non) = true then _ else _)
          rw [decide_eq_false (fun h => nomatch h), if_neg (by decide)]
          have hd : Dp K H' (.ref p') (rD (LL.map (·.2))) := by
            rw [eq]
            exact (h2.same s).dp
          exact ⟨_, rfl, .ref p', _, S, rfl, hd, rp, hS, rfl, _, rfl, no_ne13 ⟨rfl, ext_sm eN s, t4.ext s⟩⟩
        · rw [hp] at h1
          cases h1
      · rcases d14 with ⟨p', LL', rfl, h1, h2⟩ | ⟨rfl, h1⟩
        · rw [hp] at h1
          cases h1
        refine ⟨rfl, dd, rfl, e, fun l nl => ?_⟩
        obtain ⟨S, hS⟩ : ∃ S, noneD.shown = S := ⟨_, rfl⟩
        have s5 := same_new (o := .lst [.str "parse", .non]) (Same.refl H') nl
        have dl : Dp K (upd H' l (.lst [.str "parse", .non])) (.ref l) noneD := .lst (.inl (.inl upd_same)) (.cons (.str "parse") (.cons .non .nil))
        generalize upd H' l (.lst [.str "parse", .non]) = H5 at s5 dl
        refine ⟨.ref l, _, S, rfl, dl, none_rp, hS, _, rfl, rfl, _, rfl, ?_⟩
        show (if decide (V.non = V.non) = true then _ else _)
        rw [decide_eq_true rfl, if_pos rfl]
        refine ⟨by show 2 ≤ sizeLine; omega, fun l2 nl2 => ?_⟩
        have s6 := same_new (o := .lst [.str "parse", .non]) (Same.refl H5) nl2
        have dl2 : Dp K (upd H5 l2 (.lst [.str "parse", .non])) (.ref l2) noneD := .lst (.inl (.inl upd_same)) (.cons (.str "parse") (.cons .non .nil))
        have s7 : Same H' (upd H5 l2 (.lst [.str "parse", .non])) := fun b o e => s6 _ _ (s5 _ _ e)
        exact ⟨.ref l2, _, S, rfl, dl2, none_rp, hS, rfl, _, rfl, no_ne13 ⟨rfl, ext_sm (ext_sm eN s) s7, (t4.ext s).ext s7⟩⟩
    rintro σ' G4 ⟨rfl, e4, t4⟩
    -- the program's digit
    refine ⟨fun σ' G' => σ' = [some (.ref d), some (.str z), y2, some (.str z1), some v1, some v2] ∧ ExtN G3 G' ∧ Tabs Tb G', ?_, ?_⟩
    · refine ⟨t4, fun G5 eN t5 => ?_⟩
      have d24 := d2.exN (e4.trans eN)
      refine ⟨_, rfl, z1, rfl, hz4, fun p qq H' hp s ep => ?_, fun dd H' hp s e => ?_⟩
      · rcases d24 with ⟨p', q', rfl, h1, h2⟩ | ⟨rfl, h1⟩
        · rw [hp] at h1
          have eq := Option.some.inj h1
          have hg := (parse_text hp).2
          have rp := (sm_texts (B := 8) (n := 20) (zs := qq) (fun z hz => ⟨names_low (good_names hg z hz), name_len (good_names hg z hz)⟩) (good20 hg)).repr (by decide) (by decide)
          obtain ⟨S, hS⟩ : ∃ S, (PyData.tuple (tD qq)).shown = S := ⟨_, rfl⟩
          have hd1 : Dp K H' (.ref p) (.tuple (tD qq)) := .tup (.inl (.inl ep)) (dp_texts qq)
          have hd : Dp K H' (.ref p') (.tuple (tD qq)) := by
            rw [eq]
            exact .tup (sqT_sm s h2) (dp_texts q')
          refine ⟨.ref p, _, S, rfl, hd1, rp, hS, _, rfl, rfl, _, rfl, ?_⟩
          show (if decide (V.ref p' = V.non) = true then _ else _)
          rw [decide_eq_false (fun h => nomatch h), if_neg (by decide)]
          exact ⟨_, rfl, .ref p', _, S, rfl, hd, rp, hS, rfl, _, rfl, no_ne13 ⟨rfl, ext_sm (e4.trans eN) s, t5.ext s⟩⟩
        · rw [hp] at h1
          cases h1
      · rcases d24 with ⟨p', q', rfl, h1, h2⟩ | ⟨rfl, h1⟩
        · rw [hp] at h1
          cases h1
        refine ⟨rfl, dd, rfl, e, fun l nl => ?_⟩
        obtain ⟨S, hS⟩ : ∃ S, noneD.shown = S := ⟨_, rfl⟩
        have s5 := same_new (o := .lst [.str "parse", .non]) (Same.refl H') nl
        have dl : Dp K (upd H' l (.lst [.str "parse", .non])) (.ref l) noneD := .lst (.inl (.inl upd_same)) (.cons (.str "parse") (.cons .non .nil))
        generalize upd H' l (.lst [.str "parse", .non]) = H5 at s5 dl
        refine ⟨.ref l, _, S, rfl, dl, none_rp, hS, _, rfl, rfl, _, rfl, ?_⟩
        show (if decide (V.non = V.non) = true then _ else _)
        rw [decide_eq_true rfl, if_pos rfl]
        refine ⟨by show 2 ≤ sizeLine; omega, fun l2 nl2 => ?_⟩
        have s6 := same_new (o := .lst [.str "parse", .non]) (Same.refl H5) nl2
        have dl2 : Dp K (upd H5 l2 (.lst [.str "parse", .non])) (.ref l2) noneD := .lst (.inl (.inl upd_same)) (.cons (.str "parse") (.cons .non .nil))
        have s7 : Same H' (upd H5 l2 (.lst [.str "parse", .non])) := fun b o e => s6 _ _ (s5 _ _ e)
        exact ⟨.ref l2, _, S, rfl, dl2, none_rp, hS, rfl, _, rfl, no_ne13 ⟨rfl, ext_sm (ext_sm (e4.trans eN) s) s7, (t5.ext s).ext s7⟩⟩
    clear e4 t4
    rintro σ' G5 ⟨rfl, e5, t5⟩
    have d15 := d1.exN e5
    have d25 := d2.exN e5
    have fin : ∀ {G' : Hp}, Same G5 G' → (∃ (a2 a3 a4 a5 : Option V), ([some (.ref d), some (.str z), y2, some (.str z1), some v1, some v2] : L2.St) = [some (.ref d), some (.str z), a2, a3, a4, a5]) ∧ ExtX d H G' ∧ Tabs Tb G' ∧ DiceAt G' d := fun {G'} s =>
      ⟨⟨_, _, _, _, rfl⟩, (x3.trans (.ofN e5)).trans (.of s), t5.ext s, dice_exN (.of s) (dice_exN e5 hd3)⟩
    refine ⟨_, rfl, rfl, _, rfl, ?_⟩
    rcases d15 with ⟨p1, LL, rfl, h1, h2⟩ | ⟨rfl, h1⟩
    · show (if (!decide (V.ref p1 = V.non)) = true then _ else _)
      rw [decide_eq_false (fun h => nomatch h), if_pos (by decide)]
      obtain ⟨ht, hL⟩ := parseR_text h1 l402
      refine ⟨_, rfl, p1, LL, rfl, h2, hL, fun H1 s => ⟨_, rfl, rfl, _, rfl, ?_⟩⟩
      rw [ht]
      refine no_ne13 ?_
      refine ⟨_, rfl, rfl, _, rfl, ?_⟩
      rcases d25 with ⟨p2, q2, rfl, k1, k2⟩ | ⟨rfl, k1⟩
      · show (if (!decide (V.ref p2 = V.non)) = true then _ else _)
        rw [decide_eq_false (fun h => nomatch h), if_pos (by decide)]
        refine ⟨_, rfl, p2, q2, rfl, sqT_sm s k2, (parse_text k1).2, fun H2 s2 => ⟨_, rfl, rfl, _, rfl, ?_⟩⟩
        rw [(parse_text k1).1]
        exact no_ne13 (fin fun b o e => s2 _ _ (s _ _ e))
      · show (if (!decide (V.non = V.non)) = true then _ else _)
        rw [decide_eq_true rfl, if_neg (by decide)]
        exact fin s
    · show (if (!decide (V.non = V.non)) = true then _ else _)
      rw [decide_eq_true rfl, if_neg (by decide)]
      have s := Same.refl G5
      refine ⟨_, rfl, rfl, _, rfl, ?_⟩
      rcases d25 with ⟨p2, q2, rfl, k1, k2⟩ | ⟨rfl, k1⟩
      · show (if (!decide (V.ref p2 = V.non)) = true then _ else _)
        rw [decide_eq_false (fun h => nomatch h), if_pos (by decide)]
        refine ⟨_, rfl, p2, q2, rfl, sqT_sm s k2, (parse_text k1).2, fun H2 s2 => ⟨_, rfl, rfl, _, rfl, ?_⟩⟩
        rw [(parse_text k1).1]
        exact no_ne13 (fin fun b o e => s2 _ _ (s _ _ e))
      · show (if (!decide (V.non = V.non)) = true then _ else _)
        rw [decide_eq_true rfl, if_neg (by decide)]
        exact fin s
end
end Kl

set_option maxRecDepth 100000
set_option maxHeartbeats 4000000
namespace Kl
open PySem PySem.Spec PyProof.Rows L2 Gx Mx LamX
theorem few13 {qs : List (List Str)} (h : looseB qs = true) : Few qs := by
  obtain ⟨h1, h2, _⟩ := loose_facts h
  exact ⟨by omega, fun x hx => ⟨Nat.le_trans (good20 (h2 x hx)) (by decide), fun z hz => Nat.le_trans (name_len (good_names (h2 x hx) z hz)) (by decide)⟩⟩
section
variable {P : Program} {w : World} {K : PySem.W.Frag} {mg : Str → Option Value} {base : Heap}
/-! ### _law_right -/
def spRt (K : PySem.W.Frag) (Tb : List (Addr × Str)) : Sp := fun vs H Q _ => ∃ (d : Addr), vs = [V.ref d] ∧ DiceAt H d ∧ Tabs Tb H ∧ ∀ H', ExtX d H H' → Tabs Tb H' → DiceAt H' d → Q (.bl true) H'
abbrev NRI : List Str := ["_law_dice_here", "_law_names", "_law_one", "_law_other", "_law_row", "_law_text", "_law_digit", "_law_word", "_law_turn"]
theorem ok_right {f c1 P1 CP fI : Addr} {fd fdI : FuncData} {Tb : List (Addr × Str)} (F : Fun K "_law_right" "_law_right" s_law_right f fd) (Lx : Lam K mg base Tb "_law_texts_right" c1 P1)
    (T : Top K mg) (TX : XT_ParseError K mg CP fI) (FX : Fun K "__init__" "ParseError.__init__" s_ParseError_init fI fdI) : FnG P w K mg base CX0 11 f fd ["_law_dice_here"] (spRt K Tb) := by
  have cr : Cal P w K mg base 10 "_law_roll" ["_law_dice_here", "_law_total"] spRoll := (T.d_law_roll.cal fun f fd F => ok_roll F T).mono (by decide)
  have ca : Cal P w K mg base 10 "_law_any_name" ["_law_dice_here"] spAN := (T.d_law_any_name.cal fun f fd F => ok_an F T).mono (by decide)
  have cpn : Cal P w K mg base 10 "_law_pool_names" ["_law_dice_here", "_law_many"] spPN := (T.d_law_pool_names.cal fun f fd F => ok_pn F T).mono (by decide)
  have cdl : Cal P w K mg base 10 "_law_drawn_loose" ["_law_dice_here", "_law_names", "_law_ranks", "_law_most"] (spDL K) := (T.d_law_drawn_loose.cal fun f fd F => ok_dl F T).mono (by decide)
  have crt : Cal P w K mg base 10 "_law_row_text" ["_law_row"] (spRT K) := (T.d_law_row_text.cal fun f fd F => ok_rt F T).mono (by decide)
  have cdt : Cal P w K mg base 10 "_law_digit_text" ["_law_digit"] (spDT K) := (T.d_law_digit_text.cal fun f fd F => ok_dt F T).mono (by decide)
  have cwr : Cal P w K mg base 10 "write_row" ["row"] (spWR K) := (T.d_write_row.cal fun f fd F => ok_wr F T).mono (by decide)
  have cwd : Cal P w K mg base 10 "write_digit" ["digit"] (spWD K) := (T.d_write_digit.cal fun f fd F => ok_wd F T).mono (by decide)
  have cl : Cal P w K mg base 10 "is_loose" ["value"] (spLooseA K) := (T.d_is_loose.cal fun f fd F => ok_looseA F T).mono (by decide)
  have cd : Cal P w K mg base 10 "is_digit" ["value"] (spDigitA K) := (T.d_is_digit.cal fun f fd F => ok_digitA F T).mono (by decide)
  have cy : CalY P w K mg base 10 "read_row" ["text"] (spRR K CP) := (T.d_read_row.calY fun f fd F => ok_rr F T TX FX).up (by decide)
  have cz : CalY P w K mg base 10 "read_digit" ["text"] (spRD CP) := (T.d_read_digit.calY fun f fd F => ok_rd F T TX FX).up (by decide)
  have cx : CalG P w K mg base 10 "_law_texts_right" ["_law_dice_here", "_law_text"] (spXR K Tb) := Def.calGL T.d_law_texts_right fun f fd g F => ok_xr F (Lx.of g F) Lx.tb Lx.mem Lx.one T TX FX
  refine okG F sc_law_right (fun vs H Q E h => ?_) (fun cdv A outer s H vs Q E hg hr h => ?_)
  · obtain ⟨d, rfl, _⟩ := h
    rfl
  · obtain ⟨d, rfl, hd, hTb, q⟩ := h
    refine ⟨_, pss_cut (ps_set (i := 1) sc_law_right.nd rfl (.inl rfl) (pe_op op_cat (pe_lc (own := [("_law_turn", 8)]) (g := gName 8) (tt := tYes) rfl sc_law_right.nd (pi_range1 (by rfl) T.b_range (pa_cons (pe_op op_add pe_int (pe_cal cr hr (by rfl) (pa_cons (pv 0) (pa_cons pe_int pa_nil)))) pa_nil))
          (blkOk_by (N := NRI) (sc := defScope s_law_right) (by decide +kernel)) (fun _ _ _ _ _ => pg_name (i := 8) sc_law_right.nd rfl (.inl rfl)) (fun _ _ _ _ _ => pts_nil) (fun _ _ _ _ _ => pe_cal ca hr (by rfl) (pa_cons (pv 0) pa_nil)))
          (pe_cal cpn hr (by rfl) (pa_cons (pv 0) (pa_cons pe_int pa_nil)))))
      (pss_cut (ps_par (i := 2) (j := 3) rfl sc_law_right.nd rfl rfl (by decide) rfl rfl (pa_cons (pe_cal cdl hr (by rfl) (pa_cons (pv 0) (pa_cons (pv 1) (pa_cons pe_int (pa_cons pe_int pa_nil))))) (pa_cons (pe_cal cdl hr (by rfl) (pa_cons (pv 0) (pa_cons (pv 1) (pa_cons pe_int (pa_cons pe_int pa_nil))))) pa_nil)) (by kernel_rfl))
      (pss_cut (ps_for PassesOwn.never rfl (pi_tup (pe_tup (pa_cons (pv 2) (pa_cons (pv 3) pa_nil)))) (pg_name (i := 4) sc_law_right.nd rfl (.inl rfl))
        (pss_cut (ps_set (i := 5) sc_law_right.nd rfl (.inl rfl) (pe_cal crt hr (by rfl) (pa_cons (pv 4) pa_nil)))
        (pss_cut (ps_if (PW.pt (pw_or (pt_cmpR op_ne (pe_cal cwr hr (by rfl) (pa_cons (pv 4) pa_nil)) (pv 5) (by rfl))
            (pw_or (pt_cmpR op_ne (pe_callB (call_reprE hg hr.units) (by rfl) T.b_repr (by decide +kernel) (pa_cons (pe_calY (E := fun _ => E0) cy hr (by rfl) (fun σ => neverAt σ) (pa_cons (pv 5) pa_nil)) pa_nil)) (pe_callB (call_reprE hg hr.units) (by rfl) T.b_repr (by decide +kernel) (pa_cons (pv 4) pa_nil)) (by rfl))
            (pw_or1 (pt_cmpR op_notBl (pe_cal cl hr (by rfl) (pa_cons (pv 4) pa_nil)) pe_bl (by rfl)))))) (pss_one (ps_ret pe_bl)) pss_nil)
        (pss_one (ps_for PassesOwn.never rfl (pi_tup (pv 4)) (pg_name (i := 6) sc_law_right.nd rfl (.inl rfl))
          (pss_cut (ps_set (i := 7) sc_law_right.nd rfl (.inl rfl) (pe_cal cdt hr (by rfl) (pa_cons (pv 6) pa_nil)))
          (pss_cut (ps_if (PW.pt (pw_or (pt_cmpR op_ne (pe_cal cwd hr (by rfl) (pa_cons (pv 6) pa_nil)) (pv 7) (by rfl))
            (pw_or1 (pt_cmpR op_ne (pe_callB (call_reprE hg hr.units) (by rfl) T.b_repr (by decide +kernel) (pa_cons (pe_calY (E := fun _ => E0) cz hr (by rfl) (fun σ => neverAt σ) (pa_cons (pv 7) pa_nil)) pa_nil)) (pe_callB (call_reprE hg hr.units) (by rfl) T.b_repr (by decide +kernel) (pa_cons (pv 6) pa_nil)) (by rfl))))) (pss_one (ps_ret pe_bl)) pss_nil)
          (pss_one (ps_if (pt_cmpR op_ne (pe_callB (call_reprE hg hr.units) (by rfl) T.b_repr (by decide +kernel) (pa_cons (pe_cal cd hr (by rfl) (pa_cons (pv 6) pa_nil)) pa_nil))
              (pe_callB (call_reprE hg hr.units) (by rfl) T.b_repr (by decide +kernel) (pa_cons (pe_cmpR op_le (pe_callB call_len_seq (by rfl) T.b_len PySem.boot_len (pa_cons (pv 6) pa_nil)) pe_int (nomark _)) pa_nil)) (by rfl)) (pss_one (ps_ret pe_bl)) pss_nil)))))))))
      (pss_cut (ps_if (pt_cmpR op_ne (pe_cmpR op_eq (pe_cal cwr hr (by rfl) (pa_cons (pv 2) pa_nil)) (pe_cal cwr hr (by rfl) (pa_cons (pv 3) pa_nil)) (by rfl)) (pe_cmpR (op_eqD hr.units) (pv 2) (pv 3) (by rfl)) (by rfl)) (pss_one (ps_ret pe_bl)) pss_nil)
      (pss_one (ps_ret (pe_and (pe_calG cx hg hr (by rfl) (pa_cons (pv 0) (pa_cons (pe_cal crt hr (by rfl) (pa_cons (pv 2) pa_nil)) pa_nil))) (pe_one (pe_calG cx hg hr (by rfl) (pa_cons (pv 0) (pa_cons (pe_cal crt hr (by rfl) (pa_cons (pv 3) pa_nil)) pa_nil)))))))))), ?_⟩
    have big : 100000 ≤ sizeLine := by decide
    -- names
    refine ⟨fun σ' G => ∃ (nl : Addr) (ns : List Str), σ' = [some (.ref d), some (.ref nl), none, none, none, none, none, none, none] ∧ G nl = some (.lst (ns.map V.str)) ∧ ns ≠ [] ∧ ns.length ≤ 100 ∧ (∀ z ∈ ns, nameB z = true) ∧ SameX d H G ∧ DiceAt G d, ?_, ?_⟩
    · refine ⟨_, rfl, d, 3, rfl, hd, by decide, by decide, fun r x b c h0 h1 => ⟨_, _, rfl, rfl, _, rfl, ?_, ?_, fun D nD => ?_⟩⟩
      · omega
      · omega
      obtain ⟨k, rfl⟩ := Int.eq_ofNat_of_zero_le h0
      have ek : (1 + ((k : Nat) : Int)).toNat = k + 1 := by omega
      rw [ek]
      have hd1 : DiceAt (upd H d (.lst [.int x, .int b, .int c])) d := dice_new x b c
      have sx1 : SameX d H (upd H d (.lst [.int x, .int b, .int c])) := (SameX.refl d H).atd
      generalize upd H d (.lst [.int x, .int b, .int c]) = H1 at nD hd1 sx1
      have hDd : D ≠ d := dice_ne hd1 nD
      refine lc_range (lo := 0) (fun j G => ∃ fs : List Str, G D = some (.lst (fs.map V.str)) ∧ fs.length = j ∧ (∀ p ∈ fs, nameB p = true) ∧ SameX d H1 G ∧ DiceAt G d)
        ⟨[], upd_same, rfl, nofun, (SameX.refl d _).new nD, dice_upd hd1 hDd⟩ (fun j G hj hP => ?_) (fun G hP => ?_)
      · obtain ⟨fs, eD, lf, hf, sx, hdG⟩ := hP
        refine ⟨rfl, _, rfl, d, rfl, hdG, fun z H' hz sx' hd' => ?_⟩
        have eD' := sx' _ _ hDd eD
        refine ⟨fs.map V.str, eD', ?_, fs ++ [z], ?_, by rw [List.length_append, lf]; rfl, fun y hy => ?_, (sx.trans sx').at nD, dice_upd hd' hDd⟩
        · rw [List.length_map]
          omega
        · rw [upd_same, List.map_append]
          rfl
        · rw [List.mem_append, List.mem_singleton] at hy
          rcases hy with hy | rfl
          · exact hf y hy
          · exact hz
      · obtain ⟨fs, eD, lf, hf, sx, hdG⟩ := hP
        refine ⟨_, rfl, d, 1, rfl, by decide, hdG, fun p zs H' sx' hd' np ep _ hin hl => ?_⟩
        have eD' := sx' _ _ hDd eD
        refine ⟨D, p, _, _, rfl, rfl, eD', ep, by rw [List.length_map, List.length_map]; omega, fun q nq => ?_⟩
        have hqd : q ≠ d := dice_ne hd' nq
        refine ⟨q, fs ++ zs, rfl, by rw [upd_same, List.map_append], fun h => ?_, by rw [List.length_append]; omega, fun z hz => ?_, ((sx1.trans sx).trans sx').new nq, dice_upd hd' hqd⟩
        · have := congrArg List.length h
          rw [List.length_append, hl] at this
          cases this
        · rcases List.mem_append.mp hz with h | h
          · exact hf z h
          · exact List.all_eq_true.mp eight_ok z (hin z h)
    rintro σ' G0 ⟨nl, ns, rfl, enl, hne, hns, hnm, sx0, hd0⟩
    -- two rows
    refine ⟨fun σ' G => ∃ (p1 p2 : Addr) (LL MM : List (Addr × List Str)), σ' = [some (.ref d), some (.ref nl), some (.ref p1), some (.ref p2), none, none, none, none, none] ∧ RowAt K G p1 LL ∧ RowAt K G p2 MM ∧ looseB (LL.map (·.2)) = true ∧ looseB (MM.map (·.2)) = true ∧ LL.length ≤ 10 ∧ MM.length ≤ 10 ∧ SameX d H G ∧ DiceAt G d, ?_, ?_⟩
    · refine ⟨_, rfl, _, rfl, d, nl, ns, 10, 20, rfl, by decide, by decide, by decide, hd0, enl, hne, hns, hnm, fun p1 LL H1 sx1 hd1 r1 l1 _ n1 => ?_⟩
      have nld : nl ≠ d := fun z => by
        obtain ⟨a, b, c, e⟩ := hd0
        rw [z, e] at enl
        have h2 := HO.lst.inj (Option.some.inj enl)
        cases ns with
        | nil => cases h2
        | cons y l => cases (List.cons.inj h2).1
      refine ⟨_, rfl, _, rfl, d, nl, ns, 4, 3, rfl, by decide, by decide, by decide, hd1, sx1 _ _ nld enl, hne, hns, hnm, fun p2 MM H2 sx2 hd2 r2 l2 _ n2 => ?_⟩
      exact ⟨_, _, rfl, p1, p2, LL, MM, rfl, r1.sx hd1 sx2, r2, l1, l2, n1, Nat.le_trans n2 (by decide), (sx0.trans sx1).trans sx2, hd2⟩
    clear enl hne hns hnm hd0 sx0
    rintro σ' G1 ⟨p1, p2, LL, MM, rfl, r1, r2, l1, l2, n1, n2, sx1, hd1⟩
    have t1 := tabs_dice hTb hd sx1
    -- the rows are written and read
    refine ⟨fun σ' G => (∃ (y4 y5 y6 y7 : Option V), σ' = [some (.ref d), some (.ref nl), some (.ref p1), some (.ref p2), y4, y5, y6, y7, none]) ∧ Same G1 G, ?_, ?_⟩
    · refine ⟨_, rfl, _, rfl, by show 2 ≤ sizeLine; omega, fun t nt => ?_⟩
      have s0 := same_new (o := .tup [.ref p1, .ref p2]) (Same.refl G1) nt
      have et : (upd G1 t (.tup [.ref p1, .ref p2])) t = some (.tup [.ref p1, .ref p2]) := upd_same
      generalize upd G1 t (.tup [.ref p1, .ref p2]) = Gt at s0 et
      refine ⟨t, rfl, ⟨_, .inl (.inl et)⟩, ?_⟩
      refine for_it (walk_tup (K := K) (a := t) (xs := [V.ref p1, V.ref p2])) (fun j σ' G => (∃ (y4 y5 y6 y7 : Option V), σ' = [some (.ref d), some (.ref nl), some (.ref p1), some (.ref p2), y4, y5, y6, y7, none]) ∧ Same Gt G)
        ⟨⟨_, _, _, _, rfl⟩, .refl Gt⟩ (fun j σ' G _ h => .inl (.inl (h.2 _ _ et))) (fun j u σ' Gx G hj h hy => ?_) (fun σ' G h => ⟨h.1, fun b o e => h.2 _ _ (s0 _ _ e)⟩)
      obtain ⟨⟨y4, y5, y6, y7, rfl⟩, sm⟩ := h
      obtain ⟨rfl, hu⟩ := hy
      have hu : [V.ref p1, V.ref p2][j]? = some u := hu
      obtain ⟨p, QQ, rfl, rG, lQ, nQ⟩ : ∃ p QQ, u = .ref p ∧ RowAt K Gt p QQ ∧ looseB (QQ.map (·.2)) = true ∧ QQ.length ≤ 10 := by
        have hm := List.mem_of_getElem? hu
        rcases List.mem_cons.mp hm with rfl | hm
        · exact ⟨p1, LL, rfl, r1.same s0, l1, n1⟩
        · rw [List.mem_singleton.mp hm]
          exact ⟨p2, MM, rfl, r2.same s0, l2, n2⟩
      have hgq : ∀ q ∈ QQ, goodB q.2 = true := fun q hq => (loose_facts lQ).2.1 _ (List.mem_map.mpr ⟨q, hq, rfl⟩)
      have hTx : Tx 0 (textR (QQ.map (·.2))) := tx_row (fun q hq => (loose_facts lQ).2.1 q hq) (by rw [List.length_map]; exact nQ)
      have hRP := textR_parse lQ
      -- its text
      refine ⟨fun σ' G' => ∃ (y6 y7 : Option V), σ' = [some (.ref d), some (.ref nl), some (.ref p1), some (.ref p2), some (.ref p), some (.str (textR (QQ.map (·.2)))), y6, y7, none] ∧ Same Gt G', ?_, ?_⟩
      · exact ⟨_, rfl, p, QQ, rfl, rG.same sm, hgq, by omega, fun H' s => ⟨_, _, rfl, fun b o e => s _ _ (sm b o e)⟩⟩
      clear sm
      rintro σ' G2 ⟨y6, y7, rfl, sm⟩
      generalize hZ : textR (QQ.map (·.2)) = Z at hTx hRP
      have rG2 := rG.same sm
      refine ⟨fun σ' G' => σ' = [some (.ref d), some (.ref nl), some (.ref p1), some (.ref p2), some (.ref p), some (.str Z), y6, y7, none] ∧ Same Gt G', ?_, ?_⟩
      · refine ⟨_, rfl, p, QQ, rfl, rG2, lQ, fun H3 s3 => ⟨_, rfl, rfl, _, rfl, ?_⟩⟩
        rw [hZ]
        refine no_ne13 ?_
        refine ⟨_, rfl, Z, 0, rfl, hTx, by decide, fun pr RR H4 hpr s4 rR => ?_, fun dd H4 hpr => by rw [hRP] at hpr; cases hpr⟩
        rw [hRP] at hpr
        have eq := Option.some.inj hpr
        have rp := (sm_row lQ).repr (by decide) (by decide)
        obtain ⟨S, hS⟩ : ∃ S, (rD (QQ.map (·.2))).shown = S := ⟨_, rfl⟩
        have dR : Dp K H4 (.ref pr) (rD (QQ.map (·.2))) := by
          rw [eq]
          exact rR.dp
        have rG4 := (rG2.same s3).same s4
        refine ⟨.ref pr, _, S, rfl, dR, rp, hS, _, rfl, .ref p, _, S, rfl, rG4.dp, rp, hS, rfl, _, rfl, no_ne13 ?_⟩
        refine ⟨_, rfl, .inr ⟨p, QQ, rfl, rG4, few13 lQ, fun H5 s5 => ⟨_, _, rfl, rfl, _, rfl, ?_⟩⟩⟩
        rw [lQ]
        show (if (!decide (true = true)) = true then _ else _)
        rw [decide_eq_true rfl, if_neg (by decide)]
        exact ⟨rfl, fun b o e => s5 _ _ (s4 _ _ (s3 _ _ (sm b o e)))⟩
      clear sm rG2
      rintro σ' G3 ⟨rfl, sm⟩
      -- its digits
      refine ⟨_, rfl, p, rfl, ⟨_, (rG.same sm).e⟩, ?_⟩
      refine for_it (walk_tup (K := K) (a := p) (xs := QQ.map fun q => V.ref q.1)) (fun j σ' G => (∃ (y6 y7 : Option V), σ' = [some (.ref d), some (.ref nl), some (.ref p1), some (.ref p2), some (.ref p), some (.str Z), y6, y7, none]) ∧ Same Gt G)
        ⟨⟨_, _, rfl⟩, sm⟩ (fun j σ' G _ h => (rG.same h.2).e) (fun j u σ' Gx G hj h hy => ?_) (fun σ' G h => ?_)
      rotate_left
      · obtain ⟨⟨y6, y7, rfl⟩, sm⟩ := h
        exact ⟨⟨_, _, _, _, rfl⟩, sm⟩
      clear sm y6 y7
      obtain ⟨⟨y6, y7, rfl⟩, sm⟩ := h
      obtain ⟨rfl, hu⟩ := hy
      have hu : (QQ.map fun q => V.ref q.1)[j]? = some u := hu
      rw [List.getElem?_map] at hu
      obtain ⟨q, hq, rfl⟩ := Option.map_eq_some_iff.mp hu
      have hqm := List.mem_of_getElem? hq
      have gq := hgq q hqm
      have eq0 := rG.t q hqm
      refine ⟨fun σ' G' => σ' = [some (.ref d), some (.ref nl), some (.ref p1), some (.ref p2), some (.ref p), some (.str Z), some (.ref q.1), some (.str (textD q.2)), none] ∧ Same Gt G', ?_, ?_⟩
      · exact ⟨_, rfl, q.1, q.2, rfl, sqT_sm sm eq0, gq, fun H' s => ⟨rfl, fun b o e => s _ _ (sm b o e)⟩⟩
      clear sm y6 y7
      rintro σ' G4 ⟨rfl, sm⟩
      have hDL := textD_len gq
      have hDP := text_parse gq
      generalize hZ2 : textD q.2 = Z2 at hDL hDP
      have rpd := (sm_texts (B := 8) (n := 20) (zs := q.2) (fun z hz => ⟨names_low (good_names gq z hz), name_len (good_names gq z hz)⟩) (good20 gq)).repr (by decide) (by decide)
      refine ⟨fun σ' G' => σ' = [some (.ref d), some (.ref nl), some (.ref p1), some (.ref p2), some (.ref p), some (.str Z), some (.ref q.1), some (.str Z2), none] ∧ Same Gt G', ?_, ?_⟩
      · refine ⟨_, rfl, q.1, q.2, rfl, sqT_sm sm eq0, gq, fun H3 s3 => ⟨_, rfl, rfl, _, rfl, ?_⟩⟩
        rw [hZ2]
        refine no_ne13 ?_
        refine ⟨_, rfl, Z2, rfl, by omega, fun pd qd H4 hpr s4 ed => ?_, fun dd H4 hpr => by rw [hDP] at hpr; cases hpr⟩
        rw [hDP] at hpr
        have eq := Option.some.inj hpr
        obtain ⟨S, hS⟩ : ∃ S, (PyData.tuple (tD q.2)).shown = S := ⟨_, rfl⟩
        have dR : Dp K H4 (.ref pd) (.tuple (tD q.2)) := by
          rw [eq]
          exact .tup (.inl (.inl ed)) (dp_texts qd)
        have s34 : Same Gt H4 := fun b o e => s4 _ _ (s3 _ _ (sm b o e))
        exact ⟨.ref pd, _, S, rfl, dR, rpd, hS, _, rfl, .ref q.1, _, S, rfl, .tup (sqT_sm s34 eq0) (dp_texts q.2), rpd, hS, rfl, _, rfl, no_ne13 ⟨rfl, s34⟩⟩
      clear sm
      rintro σ' G5 ⟨rfl, sm⟩
      -- is_digit
      have e5 := sqT_sm sm eq0
      have hsa : SortArg K G5 (.ref q.1) 3 (decide (q.2.length ≤ 3)) := by
        have g0 := gq
        unfold goodB at g0
        rw [Bool.and_eq_true] at g0
        have s := sortArg_texts (n := 3) e5 (by have := good20 gq; omega) (fun z hz => Nat.le_trans (name_len (good_names gq z hz)) (by decide))
        rw [g0.2, Bool.and_true] at s
        exact s
      have rb : ∀ b : Bool, (PyData.bool b).showable = true ∧ (PyData.bool b).hasDict = false ∧ (PyData.bool b).depth ≤ 60 ∧ (PyData.bool b).shown.length ≤ sizeLine := fun b => by cases b <;> exact ⟨by decide +kernel, by decide +kernel, by decide +kernel, by decide +kernel⟩
      refine ⟨_, rfl, _, _, rfl, hsa, fun H6 s6 => ?_⟩
      obtain ⟨S, hS⟩ : ∃ S, (PyData.bool (decide (q.2.length ≤ 3))).shown = S := ⟨_, rfl⟩
      refine ⟨_, _, S, rfl, .bl _, rb _, hS, _, rfl, q.1, _, rfl, .inr (sqT_sm s6 e5), _, _, rfl, rfl, _, _, S, rfl, .bl _, rb _, ?_, rfl, _, rfl, no_ne13 ⟨⟨_, _, rfl⟩, fun b o e => s6 _ _ (sm b o e)⟩⟩
      rw [← hS, List.length_map]
      congr 2
      exact decide_eq_decide.mpr (by omega)
    rintro σ' G2 ⟨⟨y4, y5, y6, y7, rfl⟩, s12⟩
    have r1' := r1.same s12
    have r2' := r2.same s12
    have hd2 := dice_exN (.of s12) hd1
    have t2 := t1.ext s12
    have sx2 : ExtX d H G2 := (ext_ofX sx1).trans (.of s12)
    clear sx1 hd1 t1 r1 r2 s12
    have shL : SeqAt.shaped (rD (LL.map (·.2))) = true := loose_shaped l1
    have shM : SeqAt.shaped (rD (MM.map (·.2))) = true := loose_shaped l2
    refine ⟨fun σ' G => σ' = [some (.ref d), some (.ref nl), some (.ref p1), some (.ref p2), y4, y5, y6, y7, none] ∧ Same G2 G, ?_, ?_⟩
    · refine ⟨_, rfl, p1, LL, rfl, r1', l1, fun H3 s3 => ⟨_, rfl, p2, MM, rfl, r2'.same s3, l2, fun H4 s4 => ⟨rfl, _, rfl, _, rfl, ?_⟩⟩⟩
      have s24 : Same G2 H4 := fun b o e => s4 _ _ (s3 _ _ e)
      refine ⟨_, _, (r1'.same s24).dp, (r2'.same s24).dp, shL, shM, ?_⟩
      rw [eqv_row]
      have ee : decide (V.str (textR (LL.map (·.2))) = V.str (textR (MM.map (·.2)))) = decide (LL.map (·.2) = MM.map (·.2)) := by
        refine decide_eq_decide.mpr ⟨fun h => ?_, fun h => by rw [h]⟩
        have := congrArg parseR (V.str.inj h)
        rw [textR_parse l1, textR_parse l2] at this
        exact Option.some.inj this
      rw [ee]
      refine ⟨rfl, _, rfl, ?_⟩
      show (if (!decide (V.bl _ = V.bl _)) = true then _ else _)
      rw [decide_eq_true rfl, if_neg (by decide)]
      exact ⟨rfl, s24⟩
    rintro σ' G3 ⟨rfl, s23⟩
    have hTx : ∀ {QQ : List (Addr × List Str)}, looseB (QQ.map (·.2)) = true → QQ.length ≤ 10 → Tx 0 (textR (QQ.map (·.2))) := fun {QQ} lQ nQ => tx_row (fun q hq => (loose_facts lQ).2.1 q hq) (by rw [List.length_map]; exact nQ)
    have hgq : ∀ {QQ : List (Addr × List Str)}, looseB (QQ.map (·.2)) = true → ∀ q ∈ QQ, goodB q.2 = true := fun {QQ} lQ q hq => (loose_facts lQ).2.1 _ (List.mem_map.mpr ⟨q, hq, rfl⟩)
    -- near texts
    refine ⟨_, rfl, _, rfl, p1, LL, rfl, r1'.same s23, hgq l1, by omega, fun H4 s4 => ?_⟩
    have s24 : Same G2 H4 := fun b o e => s4 _ _ (s23 _ _ e)
    refine ⟨d, _, rfl, dice_exN (.of s24) hd2, t2.ext s24, hTx l1 n1, fun H5 x5 t5 hd5 => ?_⟩
    have hd4 := dice_exN (.of s24) hd2
    refine ⟨_, rfl, _, rfl, _, rfl, p2, MM, rfl, (r2'.same s24).exX hd4 x5, hgq l2, by omega, fun H6 s6 => ?_⟩
    refine ⟨d, _, rfl, dice_exN (.of s6) hd5, t5.ext s6, hTx l2 n2, fun H7 x7 t7 hd7 => ?_⟩
    exact q H7 (((sx2.trans (.of s24)).trans x5).trans ((ExtX.of s6).trans x7)) t7 hd7
end
end Kl

set_option maxRecDepth 100000
set_option maxHeartbeats 4000000
namespace Gx
open PySem PySem.Spec PyProof.Rows L2
/-! data stay while nothing is changed -/
theorem sqT_st {K : PySem.W.Frag} {H H' : Hp} {a : Addr} {xs : List V} (s : ∀ b o, H b = some o → H' b = some o) (h : SqT K H a xs) : SqT K H' a xs := by
  rcases h with (h | ⟨o, h⟩) | h
  · exact .inl (.inl (s _ _ h))
  · exact .inl (.inr ⟨o, s _ _ h⟩)
  · exact .inr h
theorem sqL_st {K : PySem.W.Frag} {H H' : Hp} {a : Addr} {xs : List V} (s : ∀ b o, H b = some o → H' b = some o) (h : SqL K H a xs) : SqL K H' a xs := by
  rcases h with (h | ⟨o, h⟩) | h
  · exact .inl (.inl (s _ _ h))
  · exact .inl (.inr ⟨o, s _ _ h⟩)
  · exact .inr h
mutual
theorem dp_st {K : PySem.W.Frag} {H H' : Hp} (s : ∀ b o, H b = some o → H' b = some o) : ∀ (d : PyData) (v : V), Dp K H v d → Dp K H' v d
  | .none, _, h => by cases h; exact .non
  | .bool _, _, h => by cases h; exact .bl _
  | .int _, _, h => by cases h; exact .int _
  | .str _, _, h => by cases h; exact .str _
  | .list ds, _, h => by
    cases h with
    | lst e r => exact .lst (sqL_st s e) (dpAll_st s ds _ r)
  | .tuple ds, _, h => by
    cases h with
    | tup e r => exact .tup (sqT_st s e) (dpAll_st s ds _ r)
  | .dict _, _, h => by cases h
theorem dpAll_st {K : PySem.W.Frag} {H H' : Hp} (s : ∀ b o, H b = some o → H' b = some o) : ∀ (ds : List PyData) (vs : List V), DpAll K H vs ds → DpAll K H' vs ds
  | [], _, h => by cases h; exact .nil
  | d :: ds, _, h => by
    cases h with
    | cons a r => exact .cons (dp_st s d _ a) (dpAll_st s ds _ r)
end
theorem _root_.L2.Dp.st {K : PySem.W.Frag} {H H' : Hp} {v : V} {d : PyData} (h : Dp K H v d) (s : ∀ b o, H b = some o → H' b = some o) : Dp K H' v d := dp_st s d v h
theorem _root_.L2.DpAll.st {K : PySem.W.Frag} {H H' : Hp} {vs : List V} {ds : List PyData} (h : DpAll K H vs ds) (s : ∀ b o, H b = some o → H' b = some o) : DpAll K H' vs ds := dpAll_st s ds vs h
end Gx

set_option maxRecDepth 100000
set_option maxHeartbeats 4000000
namespace Gx
open PySem PySem.Spec PyProof.Rows L2
theorem op_neDK {X : Cx} {K : PySem.W.Frag} (hk : X.K = K) (hu : X.A.units + 64 < cLine) : OpR X (compareOp .NotEq) (rNeD K) := by
  subst hk
  exact op_neD hu
theorem look_hit {x n : Str} {k : NameKind} {l : List (Str × NameKind)} (h : (x == n) = true) : List.lookup x ((n, k) :: l) = some k := by rw [List.lookup_cons, h]
theorem relab_cell {env : Env} : ∀ {names : List (Str × NameKind)} {x : Str}, names.lookup x = some .cell →
    (names.map fun (n, k) => if (k == NameKind.free && env.scope.kind == .function && env.kindOf n == some .cell) then (n, NameKind.cell) else (n, k)).lookup x = some .cell
  | [], _, h => by simp at h
  | (n, k) :: r, x, h => by
    have ih := @relab_cell env r x
    show List.lookup x ((if (k == NameKind.free && env.scope.kind == .function && env.kindOf n == some .cell) = true then (n, NameKind.cell) else (n, k)) :: _) = _
    cases hx : x == n with
    | true =>
      simp only [List.lookup_cons, hx] at h
      cases h
      split
      · exact look_hit hx
      · exact look_hit hx
    | false =>
      simp only [List.lookup_cons, hx] at h
      split <;> simp only [List.lookup_cons, hx] <;> exact ih h
theorem relab_free {env : Env} : ∀ {names : List (Str × NameKind)} {x : Str}, names.lookup x = some .free →
    (names.map fun (n, k) => if (k == NameKind.free && env.scope.kind == .function && env.kindOf n == some .cell) then (n, NameKind.cell) else (n, k)).lookup x = some .cell ∨ (names.map fun (n, k) => if (k == NameKind.free && env.scope.kind == .function && env.kindOf n == some .cell) then (n, NameKind.cell) else (n, k)).lookup x = some .free
  | [], _, h => by simp at h
  | (n, k) :: r, x, h => by
    have ih := @relab_free env r x
    show List.lookup x ((if (k == NameKind.free && env.scope.kind == .function && env.kindOf n == some .cell) = true then (n, NameKind.cell) else (n, k)) :: _) = _ ∨ List.lookup x ((if (k == NameKind.free && env.scope.kind == .function && env.kindOf n == some .cell) = true then (n, NameKind.cell) else (n, k)) :: _) = _
    cases hx : x == n with
    | true =>
      simp only [List.lookup_cons, hx] at h
      cases h
      split
      · exact .inl (look_hit hx)
      · exact .inr (look_hit hx)
    | false =>
      simp only [List.lookup_cons, hx] at h
      split <;> simp only [List.lookup_cons, hx] <;> exact ih h
/-- a lambda within a comprehension -/
theorem lamS_in {sc scope : Scope} {env : Env} (h : LamX.LamS sc scope) : LamX.LamS (relabel sc env) scope :=
  ⟨h.kind, h.co, h.gen, h.own, fun y hy e => (h.free y hy e).elim (fun k => .inl (relab_cell k)) relab_free⟩
end Gx
namespace Kl
open PySem PySem.Spec PyProof.Rows L2 Gx Mx LamX
section
variable {P : Program} {w : World} {K : PySem.W.Frag} {mg : Str → Option Value} {base : Heap}
theorem blk_qual {X : Cx} {scope : Scope} {s : Shared} {H : Hp} {C : Addr} {cl : List (Str × Addr)} {fp : List Addr} : (X.blk s H scope (compEnvC scope cl C X.env) fp).env.qual = X.env.qual := rfl
/-- .. in a comprehension -/
theorem pe_tl13c {X : Cx} {q : Str} {Tb : List (Addr × Str)} {c P CP fI : Addr} {k : Nat} {params : Arguments} {body : Expr} {scope : Scope} {t : XK → TE} {p lpos pos : Pos} (T : Top X.K X.mg) (TX : XT_ParseError X.K X.mg CP fI) (hgl : Gl X "_law_told") (hr : Room (k + 2) X.A)
    (TB : TabB X.base X.mg c P) (hcode : X.env.code = .ref c) (hmT : (P, q ++ "<lambda>") ∈ Tb) (hu : ∀ p ∈ Tb, p.1 = P → p.2 = q ++ "<lambda>") (hq : X.env.qual = q) (L : LamS X.env.scope scope) (hdef : defaultsOf params X.env = ([], []))
    (hbind : ∀ (q : Str) (cl : List (Str × Addr)) (pm cv ctv : Value), bindArgs (PySem.W.kla_fn "<lambda>" q params body scope cl pm cv ctv) ⟨[], []⟩ = pure [])
    (hbody : ∀ (A : Around) (outer : List Env) (s : Shared) (H : Hp) (E : XK) (f c' : Addr), Room k (A.deeper (lamEnv X scope s.heap.objs.size f c')) → PE (lamCx X A outer s H E scope f c') body (t E)) :
    PE X (.Call (.Name "_law_told" p) [.Lambda params body scope lpos] [] pos) (tLam Tb (TTold13 CP) t) := by
  subst hq
  exact pe_tl13 T TX hgl hr TB hcode hmT hu L hdef hbind hbody
theorem sqL_xnew {K : PySem.W.Frag} {G G' : Hp} {d a : Addr} {xs : List V} (nd : G d = none) (x : ExtX d G G') (h : SqL K G a xs) : SqL K G' a xs := by
  rcases h with (h | ⟨o, h⟩) | h
  · exact .inl (.inl (x _ _ (ne_of_none h nd) h (fun _ z => by cases z)))
  · exact .inl (.inr ⟨o, x _ _ (ne_of_none h nd) h (fun _ z => by cases z)⟩)
  · exact .inr h
abbrev BAD : List Str := ["", "0", "a 0", "- a", "a  b", " a", "a ", "a+", "+a", "b+a", "a+b+a", "A", "a+0", "00", "a\nb", "a -", "--"]
abbrev SOM : List Str := ["", "-", "a b", "a+", "b+a", "00", "0+a", " 0", "ninelette", "a++b"]
theorem bad_tx : ∀ z ∈ BAD, Tx 0 z := fun z hz => by
  have h : ∀ z ∈ BAD, z.length ≤ 2100 ∧ z.cps.toList.count 32 ≤ 20 ∧ ∀ c ∈ z.cps.toList, c < 128 := by decide +kernel
  obtain ⟨h1, h2, h3⟩ := h z hz
  exact ⟨h1, h2, h3⟩
theorem bad_none : ∀ z ∈ BAD, parseR z = none := by decide +kernel
theorem som_none : ∀ z ∈ SOM, parseD z = none ∧ z.length ≤ 4000 := by decide +kernel
theorem rd_1 : parseR ("-" : Str) = some [] := by decide +kernel
abbrev ROW3 : List (List Str) := [[], [], ["a"]]
theorem rd_2 : parseR ("0 0 a" : Str) = some ROW3 := by decide +kernel
theorem rd_3 : parseD ("0" : Str) = some [] := by decide +kernel
abbrev endD : PyData := .list [.tuple [], .str "-", .tuple [.tuple [], .tuple [], .tuple [.str "a"]], .tuple [], .str "0", .bool true, .bool true]
theorem end_shaped : SeqAt.shaped endD = true := by decide +kernel
theorem end_eqv : PyData.eqv endD endD = true := by decide +kernel
/-! ### the law -/
def spLaw (K : PySem.W.Frag) (Tb : List (Addr × Str)) : Sp := fun vs H Q _ => ∃ (a : Addr) (ns : List Int), vs = [.ref a] ∧ SqL K H a (ns.map V.int) ∧ ns.length ≤ 63 ∧ Tabs Tb H ∧ ∀ H', Q (.bl true) H'
abbrev NLW : List Str := ["_law_script", "_law_spot", "_law_dice_here", "_law_turn", "_law_bad", "_law_some", "_law_told_here", "_law_text"]
theorem ok_law {f c1 P1 c2 P2 : Addr} {fd : FuncData} {Tb : List (Addr × Str)} (F : Fun K "law" "law" s_law f fd) (gl : mg "law" = some (.ref f)) (Lx : Lam K mg base Tb "_law_texts_right" c1 P1) (Ll : Lam K mg base Tb "law" c2 P2)
    (T : Top K mg) : FnG P w K mg base CX0 12 f fd ["_law_script"] (spLaw K Tb) := by
  obtain ⟨CP, fI, fdI, TX, FX⟩ := T.x_ParseError
  have ci : Cal P w K mg base 11 "_law_dice" ["_law_script", "_law_spot"] (spDice K) := (T.d_law_dice.cal fun f fd F => ok_dice F T).mono (by decide)
  have crt : CalG P w K mg base 11 "_law_right" ["_law_dice_here"] (spRt K Tb) := T.d_law_right.calG fun f fd F => ok_right F Lx T TX FX
  have cwr : Cal P w K mg base 11 "write_row" ["row"] (spWR K) := (T.d_write_row.cal fun f fd F => ok_wr F T).mono (by decide)
  have cwd : Cal P w K mg base 11 "write_digit" ["digit"] (spWD K) := (T.d_write_digit.cal fun f fd F => ok_wd F T).mono (by decide)
  have cl : Cal P w K mg base 11 "is_loose" ["value"] (spLooseA K) := (T.d_is_loose.cal fun f fd F => ok_looseA F T).mono (by decide)
  have cd : Cal P w K mg base 11 "is_digit" ["value"] (spDigitA K) := (T.d_is_digit.cal fun f fd F => ok_digitA F T).mono (by decide)
  have cy : CalY P w K mg base 7 "read_row" ["text"] (spRR K CP) := T.d_read_row.calY fun f fd F => ok_rr F T TX FX
  have cz : CalY P w K mg base 7 "read_digit" ["text"] (spRD CP) := (T.d_read_digit.calY fun f fd F => ok_rd F T TX FX).up (by decide)
  refine okGL F (Ll.of gl F) sc_law (fun vs H Q E h => ?_) (fun A outer s H vs Q E hg hr h => ?_)
  · obtain ⟨a, ns, rfl, _⟩ := h
    rfl
  · obtain ⟨a, ns, rfl, hS, hlen, hTb, q⟩ := h
    refine ⟨_, pss_cut (ps_for PassesOwn.never rfl (pi_range1 (by rfl) T.b_range (pa_cons (pe_callB (call_max2 rfl) (by rfl) T.b_max (by decide +kernel) (pa_cons pe_int (pa_cons
          (pe_callB (call_min2 rfl) (by rfl) T.b_min (by decide +kernel) (pa_cons pe_int (pa_cons (pe_callB call_len_seq (by rfl) T.b_len PySem.boot_len (pa_cons (pv 0) pa_nil)) pa_nil))) pa_nil))) pa_nil))
          (pg_name (i := 1) sc_law.nd rfl (.inl rfl))
        (pss_cut (ps_set (i := 2) sc_law.nd rfl (.inl rfl) (pe_cal ci hr (by rfl) (pa_cons (pv 0) (pa_cons (pv 1) pa_nil))))
        (pss_one (ps_for PassesOwn.never rfl (pi_range1 (by rfl) T.b_range (pa_cons pe_int pa_nil)) (pg_name (i := 3) sc_law.nd rfl (.inl rfl))
          (pss_one (ps_if (pt_not (pt_val (pe_calG crt hg hr (by rfl) (pa_cons (pv 2) pa_nil)))) (pss_one (ps_ret pe_bl)) pss_nil))))))
      (pss_cut (ps_set (i := 4) sc_law.nd rfl (.inl rfl) (pe_lst (pa_cons pe_str (pa_cons pe_str (pa_cons pe_str (pa_cons pe_str (pa_cons pe_str (pa_cons pe_str (pa_cons pe_str (pa_cons pe_str (pa_cons pe_str (pa_cons pe_str (pa_cons pe_str (pa_cons pe_str (pa_cons pe_str (pa_cons pe_str (pa_cons pe_str (pa_cons pe_str (pa_cons pe_str pa_nil)))))))))))))))))))
      (pss_cut (ps_if (pt_cmpR (op_neD hr.units) (pe_lc (own := [("_law_text", 7)]) (g := gName 7) rfl sc_law.nd (pi_list (pv 4)) (blkOk_by (N := NLW) (sc := defScope s_law) (by decide +kernel))
          (fun _ _ _ _ _ => pg_name (i := 7) sc_law.nd rfl (.inr rfl))
          (fun _ _ _ _ _ => pts_one (pt_cmpR (op_neDK (K := K) (by exact rfl) hr.units) (pe_tl13c (k := 7) T TX (by rfl) (hr.mono (by decide)) Ll.tb (by exact rfl) Ll.mem Ll.one (blk_qual.trans rfl) (lamS_in (lamS_by (by decide +kernel))) rfl (fun _ _ _ _ _ => rfl)
              (fun A outer s H E f c' hr' => pe_calY cy (hr'.mono (by decide)) (by rfl) (fun σ => passAt (takes_of rfl rfl rfl rfl) σ) (pa_cons (pv 7) pa_nil))) (pe_lst (pa_cons pe_str (pa_cons pe_non pa_nil))) (by rfl)))
          (fun _ _ _ _ _ => pv 7)) (pe_lst pa_nil) (by rfl)) (pss_one (ps_ret pe_bl)) pss_nil)
      (pss_cut (ps_set (i := 5) sc_law.nd rfl (.inl rfl) (pe_lst (pa_cons pe_str (pa_cons pe_str (pa_cons pe_str (pa_cons pe_str (pa_cons pe_str (pa_cons pe_str (pa_cons pe_str (pa_cons pe_str (pa_cons pe_str (pa_cons pe_str pa_nil))))))))))))
      (pss_cut (ps_if (pt_cmpR (op_neD hr.units) (pe_lc (own := [("_law_text", 7)]) (g := gName 7) rfl sc_law.nd (pi_list (pv 5)) (blkOk_by (N := NLW) (sc := defScope s_law) (by decide +kernel))
          (fun _ _ _ _ _ => pg_name (i := 7) sc_law.nd rfl (.inr rfl))
          (fun _ _ _ _ _ => pts_one (pt_cmpR (op_neDK (K := K) (by exact rfl) hr.units) (pe_tl13c (k := 7) T TX (by rfl) (hr.mono (by decide)) Ll.tb (by exact rfl) Ll.mem Ll.one (blk_qual.trans rfl) (lamS_in (lamS_by (by decide +kernel))) rfl (fun _ _ _ _ _ => rfl)
              (fun A outer s H E f c' hr' => pe_calY cz (hr'.mono (by decide)) (by rfl) (fun σ => passAt (takes_of rfl rfl rfl rfl) σ) (pa_cons (pv 7) pa_nil))) (pe_lst (pa_cons pe_str (pa_cons pe_non pa_nil))) (by rfl)))
          (fun _ _ _ _ _ => pv 7)) (pe_lst pa_nil) (by rfl)) (pss_one (ps_ret pe_bl)) pss_nil)
      (pss_cut (ps_set (i := 6) sc_law.nd rfl (.inl rfl) (pe_lst (pa_cons (pe_calY (E := fun _ => E0) (cy.up (by decide : 7 ≤ 11)) hr (by rfl) (fun σ => neverAt σ) (pa_cons pe_str pa_nil)) (pa_cons (pe_cal cwr hr (by rfl) (pa_cons (pe_tup pa_nil) pa_nil)) (pa_cons (pe_calY (E := fun _ => E0) (cy.up (by decide : 7 ≤ 11)) hr (by rfl) (fun σ => neverAt σ) (pa_cons pe_str pa_nil))
          (pa_cons (pe_calY (E := fun _ => E0) (cz.up (by decide : 7 ≤ 11)) hr (by rfl) (fun σ => neverAt σ) (pa_cons pe_str pa_nil)) (pa_cons (pe_cal cwd hr (by rfl) (pa_cons (pe_tup pa_nil) pa_nil)) pa_nil)))))))
      (pss_one (ps_ret (pe_cmpR (op_eqD hr.units) (pe_op op_cat (pv 6) (pe_lst (pa_cons (pe_cal cl hr (by rfl) (pa_cons (pe_tup pa_nil) pa_nil)) (pa_cons (pe_cal cd hr (by rfl) (pa_cons (pe_tup pa_nil) pa_nil)) pa_nil))))
          (pe_lst (pa_cons (pe_tup pa_nil) (pa_cons pe_str (pa_cons (pe_tup (pa_cons (pe_tup pa_nil) (pa_cons (pe_tup pa_nil) (pa_cons (pe_tup (pa_cons pe_str pa_nil)) pa_nil)))) (pa_cons (pe_tup pa_nil) (pa_cons pe_str (pa_cons pe_bl (pa_cons pe_bl pa_nil)))))))) (by rfl))))))))), ?_⟩
    have big : 100000 ≤ sizeLine := by decide
    refine ⟨fun σ' G => (∃ (y1 y2 y3 : Option V), σ' = [some (.ref a), y1, y2, y3, none, none, none, none]) ∧ Tabs Tb G, ?_, ?_⟩
    · refine ⟨_, rfl, a, _, rfl, .inl hS, _, _, rfl, _, _, rfl, _, rfl, ?_, ?_, ?_⟩
      · split <;> split <;> omega
      · split <;> split <;> omega
      refine for_range (lo := 0) (fun i σ' G => (∃ (y1 y2 y3 : Option V), σ' = [some (.ref a), y1, y2, y3, none, none, none, none]) ∧ SqL K G a (ns.map V.int) ∧ Tabs Tb G) ⟨⟨_, _, _, rfl⟩, hS, hTb⟩ (fun i σ' G hi hP => ?_) (fun σ' G hP => ⟨hP.1, hP.2.2⟩)
      obtain ⟨⟨y1, y2, y3, rfl⟩, hSG, t0⟩ := hP
      -- the dice
      refine ⟨fun σ' G' => ∃ (y1 : Option V) (d : Addr), σ' = [some (.ref a), y1, some (.ref d), y3, none, none, none, none] ∧ DiceAt G' d ∧ G d = none ∧ ExtX d G G' ∧ Tabs Tb G', ?_, ?_⟩
      · refine ⟨_, rfl, _, rfl, a, ns, i, ?_, hSG, hlen, ?_, fun d x0 b0 nd => ⟨_, d, rfl, ⟨x0, b0, 0, upd_same⟩, nd, .of (same_new (Same.refl G) nd), t0.ext (same_new (Same.refl G) nd)⟩⟩
        · show [V.ref a, V.int (0 + (i : Int))] = _
          rw [Int.zero_add]
        · have : i < 6 := by
            revert hi
            split <;> split <;> omega
          omega
      rintro σ' G1 ⟨y1, d, rfl, hd, nd, x1, t1⟩
      refine ⟨_, rfl, by decide, by decide, ?_⟩
      refine for_range (lo := 0) (fun j σ' G' => (∃ (y3 : Option V), σ' = [some (.ref a), y1, some (.ref d), y3, none, none, none, none]) ∧ DiceAt G' d ∧ ExtX d G G' ∧ Tabs Tb G') ⟨⟨_, rfl⟩, hd, x1, t1⟩ (fun j σ' G2 hj hP => ?_) (fun σ' G2 hP => ?_)
      · obtain ⟨⟨y3, rfl⟩, hd2, x2, t2⟩ := hP
        refine ⟨_, rfl, d, rfl, hd2, t2, fun G3 x3 t3 hd3 => ⟨_, rfl, ?_⟩⟩
        show (if (!true) = true then _ else _)
        rw [if_neg (by decide)]
        exact ⟨⟨_, rfl⟩, hd3, x2.trans x3, t3⟩
      · obtain ⟨⟨y3, rfl⟩, _, x2, t2⟩ := hP
        exact ⟨⟨_, _, _, rfl⟩, sqL_xnew nd x2 hSG, t2⟩
    rintro σ' G1 ⟨⟨y1, y2, y3, rfl⟩, t1⟩
    -- texts that are no rows
    refine ⟨fun σ' G => ∃ l : Addr, σ' = [some (.ref a), y1, y2, y3, some (.ref l), none, none, none] ∧ G l = some (.lst (BAD.map V.str)) ∧ Tabs Tb G, ?_, ?_⟩
    · exact ⟨by show 17 ≤ sizeLine; omega, fun l nl => ⟨l, rfl, upd_same, t1.ext (same_new (Same.refl G1) nl)⟩⟩
    clear t1
    rintro σ' G2 ⟨l, rfl, el, t2⟩
    refine ⟨fun σ' G => σ' = [some (.ref a), y1, y2, y3, some (.ref l), none, none, none] ∧ Tabs Tb G, ?_, ?_⟩
    · refine ⟨_, rfl, l, rfl, ⟨_, .inl (.inl el)⟩, fun D hD => ?_⟩
      refine lc_it (g := gName 7) (vs := [7]) (walk_list (K := K) (a := l) (xs := BAD.map V.str)) (fun j G' => G' D = some (.lst []) ∧ ExtN G2 G' ∧ Tabs Tb G')
        ⟨upd_same, .of (same_new (Same.refl G2) hD), t2.ext (same_new (Same.refl G2) hD)⟩ (fun j G' _ h => .inl (.inl (h.2.1 _ _ el (fun _ z => by cases z)))) (fun j u Gx G' hj h hy => ?_) (fun G' h => ?_)
      · obtain ⟨eD, eN, tt⟩ := h
        obtain ⟨rfl, hu⟩ := hy
        have hu : (BAD.map V.str)[j]? = some u := hu
        rw [List.getElem?_map] at hu
        obtain ⟨z, hz, rfl⟩ := Option.map_eq_some_iff.mp hu
        have hm := List.mem_of_getElem? hz
        have hpn := bad_none z hm
        refine ⟨rfl, tt, fun G4 eN4 t4 => ⟨_, rfl, z, 0, rfl, bad_tx z hm, by decide, (fun p LL H' hp s hR => by rw [hpn] at hp; cases hp), fun dd H' _ s e => ?_⟩⟩
        refine ⟨rfl, dd, rfl, e, fun l1 nl1 => ⟨by show 2 ≤ sizeLine; omega, fun l2 nl2 => ?_⟩⟩
        have s5 := same_new (o := .lst [.str "parse", .non]) (Same.refl H') nl1
        have dl : Dp K (upd H' l1 (.lst [.str "parse", .non])) (.ref l1) noneD := .lst (.inl (.inl upd_same)) (.cons (.str "parse") (.cons .non .nil))
        generalize upd H' l1 (.lst [.str "parse", .non]) = H5 at s5 dl nl2
        have s6 := same_new (o := .lst [.str "parse", .non]) (Same.refl H5) nl2
        have dl2 : Dp K (upd H5 l2 (.lst [.str "parse", .non])) (.ref l2) noneD := .lst (.inl (.inl upd_same)) (.cons (.str "parse") (.cons .non .nil))
        have s7 : Same H' (upd H5 l2 (.lst [.str "parse", .non])) := fun b o e => s6 _ _ (s5 _ _ e)
        refine ⟨noneD, noneD, dl.st s6, dl2, by decide +kernel, by decide +kernel, ?_⟩
        rw [show PyData.eqv noneD noneD = true by decide +kernel]
        refine ⟨_, rfl, ?_⟩
        show (if (!true) = true then _ else _)
        rw [if_neg (by decide)]
        have eN5 : ExtN G' (upd H5 l2 (.lst [.str "parse", .non])) := ext_sm (ext_sm eN4 s) s7
        exact ⟨eN5 _ _ eD (fun _ z => by cases z), eN.trans eN5, (t4.ext s).ext s7⟩
      · obtain ⟨eD, eN, tt⟩ := h
        refine ⟨Nat.zero_le _, fun l2 nl2 => ?_⟩
        have s2 := same_new (o := .lst []) (Same.refl G') nl2
        refine ⟨.list [], .list [], .lst (.inl (.inl (s2 _ _ eD))) .nil, .lst (.inl (.inl upd_same)) .nil, rfl, rfl, ?_⟩
        rw [show PyData.eqv (.list []) (.list []) = true from rfl]
        refine ⟨_, rfl, ?_⟩
        show (if (!true) = true then _ else _)
        rw [if_neg (by decide)]
        exact ⟨rfl, tt.ext s2⟩
    clear el t2
    rintro σ' G3 ⟨rfl, t3⟩
    -- texts that are no digits
    refine ⟨fun σ' G => ∃ l2 : Addr, σ' = [some (.ref a), y1, y2, y3, some (.ref l), some (.ref l2), none, none] ∧ G l2 = some (.lst (SOM.map V.str)) ∧ Tabs Tb G, ?_, ?_⟩
    · exact ⟨by show 10 ≤ sizeLine; omega, fun l nl => ⟨l, rfl, upd_same, t3.ext (same_new (Same.refl G3) nl)⟩⟩
    clear t3
    rintro σ' G2 ⟨l2, rfl, el, t2⟩
    refine ⟨fun σ' G => σ' = [some (.ref a), y1, y2, y3, some (.ref l), some (.ref l2), none, none], ?_, ?_⟩
    · refine ⟨_, rfl, l2, rfl, ⟨_, .inl (.inl el)⟩, fun D hD => ?_⟩
      refine lc_it (g := gName 7) (vs := [7]) (walk_list (K := K) (a := l2) (xs := SOM.map V.str)) (fun j G' => G' D = some (.lst []) ∧ ExtN G2 G' ∧ Tabs Tb G')
        ⟨upd_same, .of (same_new (Same.refl G2) hD), t2.ext (same_new (Same.refl G2) hD)⟩ (fun j G' _ h => .inl (.inl (h.2.1 _ _ el (fun _ z => by cases z)))) (fun j u Gx G' hj h hy => ?_) (fun G' h => ?_)
      · obtain ⟨eD, eN, tt⟩ := h
        obtain ⟨rfl, hu⟩ := hy
        have hu : (SOM.map V.str)[j]? = some u := hu
        rw [List.getElem?_map] at hu
        obtain ⟨z, hz, rfl⟩ := Option.map_eq_some_iff.mp hu
        have hm := List.mem_of_getElem? hz
        obtain ⟨hpn, hl4⟩ := som_none z hm
        refine ⟨rfl, tt, fun G4 eN4 t4 => ⟨_, rfl, z, rfl, hl4, (fun p LL H' hp s hR => by rw [hpn] at hp; cases hp), fun dd H' _ s e => ?_⟩⟩
        refine ⟨rfl, dd, rfl, e, fun l1 nl1 => ⟨by show 2 ≤ sizeLine; omega, fun l2 nl2 => ?_⟩⟩
        have s5 := same_new (o := .lst [.str "parse", .non]) (Same.refl H') nl1
        have dl : Dp K (upd H' l1 (.lst [.str "parse", .non])) (.ref l1) noneD := .lst (.inl (.inl upd_same)) (.cons (.str "parse") (.cons .non .nil))
        generalize upd H' l1 (.lst [.str "parse", .non]) = H5 at s5 dl nl2
        have s6 := same_new (o := .lst [.str "parse", .non]) (Same.refl H5) nl2
        have dl2 : Dp K (upd H5 l2 (.lst [.str "parse", .non])) (.ref l2) noneD := .lst (.inl (.inl upd_same)) (.cons (.str "parse") (.cons .non .nil))
        have s7 : Same H' (upd H5 l2 (.lst [.str "parse", .non])) := fun b o e => s6 _ _ (s5 _ _ e)
        refine ⟨noneD, noneD, dl.st s6, dl2, by decide +kernel, by decide +kernel, ?_⟩
        rw [show PyData.eqv noneD noneD = true by decide +kernel]
        refine ⟨_, rfl, ?_⟩
        show (if (!true) = true then _ else _)
        rw [if_neg (by decide)]
        have eN5 : ExtN G' (upd H5 l2 (.lst [.str "parse", .non])) := ext_sm (ext_sm eN4 s) s7
        exact ⟨eN5 _ _ eD (fun _ z => by cases z), eN.trans eN5, (t4.ext s).ext s7⟩
      · obtain ⟨eD, eN, tt⟩ := h
        refine ⟨Nat.zero_le _, fun l2 nl2 => ?_⟩
        have s2 := same_new (o := .lst []) (Same.refl G') nl2
        refine ⟨.list [], .list [], .lst (.inl (.inl (s2 _ _ eD))) .nil, .lst (.inl (.inl upd_same)) .nil, rfl, rfl, ?_⟩
        rw [show PyData.eqv (.list []) (.list []) = true from rfl]
        refine ⟨_, rfl, ?_⟩
        show (if (!true) = true then _ else _)
        rw [if_neg (by decide)]
        exact rfl
    clear el t2
    rintro σ' G4 rfl
    -- written ones
    refine ⟨fun σ' G => ∃ r1 r3 r4 l6 : Addr, σ' = [some (.ref a), y1, y2, y3, some (.ref l), some (.ref l2), some (.ref l6), none] ∧ G l6 = some (.lst [.ref r1, .str "-", .ref r3, .ref r4, .str "0"]) ∧ Dp K G (.ref r1) (.tuple []) ∧ Dp K G (.ref r3) (.tuple [.tuple [], .tuple [], .tuple [.str "a"]]) ∧ Dp K G (.ref r4) (.tuple []), ?_, ?_⟩
    · refine ⟨"-", 0, rfl, ⟨by decide +kernel, by decide +kernel, by decide +kernel⟩, by decide, fun r1 L1 J1 hp1 s1 R1 => ?_, (fun dd H' hp => by rw [rd_1] at hp; cases hp)⟩
      rw [rd_1] at hp1
      have D1 := R1.dp
      rw [← Option.some.inj hp1] at D1
      refine ⟨Nat.zero_le _, fun e1 n1 => ⟨e1, [], rfl, ⟨.inl (.inl upd_same), nofun⟩, by decide +kernel, fun J2 s2 => ?_⟩⟩
      have D1 := (D1.st (same_new (o := .tup []) (Same.refl J1) n1)).st s2
      clear s2 R1 hp1
      refine ⟨"0 0 a", 0, rfl, ⟨by decide +kernel, by decide +kernel, by decide +kernel⟩, by decide, fun r3 L3 J3 hp3 s3 R3 => ?_, fun dd H' hp => by rw [rd_2] at hp; cases hp⟩
      rw [rd_2] at hp3
      have D3 := R3.dp
      rw [← Option.some.inj hp3] at D3
      have D1 := D1.st s3
      clear s3 R3 hp3
      refine ⟨"0", rfl, by decide +kernel, fun r4 q4 J4 hp4 s4 e4 => ?_, fun dd H' hp => by rw [rd_3] at hp; cases hp⟩
      rw [rd_3] at hp4
      rw [← Option.some.inj hp4] at e4
      have D4 : Dp K J4 (.ref r4) (.tuple []) := .tup (.inl (.inl e4)) .nil
      have D1 := D1.st s4
      have D3 := D3.st s4
      clear s4 e4
      refine ⟨Nat.zero_le _, fun e5 n5 => ⟨e5, [], rfl, .inl (.inl upd_same), by decide +kernel, fun J6 s6 => ?_⟩⟩
      have s5 : Same J4 J6 := fun b o e => s6 _ _ (same_new (o := .tup []) (Same.refl J4) n5 _ _ e)
      refine ⟨by show 5 ≤ sizeLine; omega, fun l6 n6 => ?_⟩
      have s7 := same_new (o := .lst [.ref r1, .str "-", .ref r3, .ref r4, .str "0"]) s5 n6
      exact ⟨r1, r3, r4, l6, rfl, upd_same, D1.st s7, D3.st s7, D4.st s7⟩
    rintro σ' G5 ⟨r1, r3, r4, l6, rfl, e6, D1, D3, D4⟩
    refine ⟨_, rfl, Nat.zero_le _, fun e7 n7 => ?_⟩
    have s7 := same_new (o := .tup []) (Same.refl G5) n7
    refine .inr ⟨e7, [], rfl, ⟨.inl (.inl upd_same), nofun⟩, few13 (by decide +kernel), fun J8 s8 => ?_⟩
    rw [show looseB (([] : List (Addr × List Str)).map (·.2)) = true from by decide +kernel]
    refine ⟨Nat.zero_le _, fun e9 n9 => ?_⟩
    have s9 := same_new (o := .tup []) (Same.refl J8) n9
    refine ⟨_, true, rfl, .inr ⟨e9, [], rfl, .inl (.inl upd_same), by decide, nofun, by decide +kernel⟩, fun J10 s10 => ?_⟩
    have s70 : Same G5 J10 := fun b o e => s10 _ _ (s9 _ _ (s8 _ _ (s7 _ _ e)))
    refine ⟨by show 2 ≤ sizeLine; omega, fun l11 n11 => ?_⟩
    have s71 := same_new (o := .lst [.bl true, .bl true]) s70 n11
    have e6' := s71 _ _ e6
    have D1 := D1.st s71
    have D3 := D3.st s71
    have D4 := D4.st s71
    have e11 : (upd J10 l11 (.lst [.bl true, .bl true])) l11 = some (.lst [.bl true, .bl true]) := upd_same
    generalize upd J10 l11 (.lst [.bl true, .bl true]) = J12 at e6' e11 D1 D3 D4 s71
    refine ⟨l6, l11, _, _, rfl, rfl, e6', e11, by show 5 + 2 ≤ sizeLine; omega, fun l12 n12 => ?_⟩
    have s12 := same_new (o := .lst [.ref r1, .str "-", .ref r3, .ref r4, .str "0", .bl true, .bl true]) (Same.refl J12) n12
    have eL : (upd J12 l12 (.lst [.ref r1, .str "-", .ref r3, .ref r4, .str "0", .bl true, .bl true])) l12 = some (.lst [.ref r1, .str "-", .ref r3, .ref r4, .str "0", .bl true, .bl true]) := upd_same
    have el2 : ([V.ref r1, .str "-", .ref r3, .ref r4, .str "0"] ++ [V.bl true, .bl true] : List V) = [.ref r1, .str "-", .ref r3, .ref r4, .str "0", .bl true, .bl true] := rfl
    rw [el2]
    have D1 := D1.st s12
    have D3 := D3.st s12
    have D4 := D4.st s12
    generalize upd J12 l12 (.lst [.ref r1, .str "-", .ref r3, .ref r4, .str "0", .bl true, .bl true]) = J13 at eL D1 D3 D4
    have dL : Dp K J13 (.ref l12) endD := .lst (.inl (.inl eL)) (.cons D1 (.cons (.str "-") (.cons D3 (.cons D4 (.cons (.str "0") (.cons (.bl true) (.cons (.bl true) .nil)))))))
    -- the written list
    have st : ∀ {G : Hp} {p : Addr} {o : HO}, G p = none → ∀ b u, G b = some u → (upd G p o) b = some u := fun {G p o} n => same_new (Same.refl G) n
    refine ⟨Nat.zero_le _, fun a1 m1 => ?_⟩
    have f1 : Dp K (upd J13 a1 (.tup [])) (.ref a1) (.tuple []) := .tup (.inl (.inl upd_same)) .nil
    have dL := dL.st (st (o := .tup []) m1)
    generalize upd J13 a1 (.tup []) = K1 at f1 dL
    refine ⟨Nat.zero_le _, fun a2 m2 => ?_⟩
    have f2 : Dp K (upd K1 a2 (.tup [])) (.ref a2) (.tuple []) := .tup (.inl (.inl upd_same)) .nil
    have dL := dL.st (st (o := .tup []) m2)
    have f1 := f1.st (st (o := .tup []) m2)
    generalize upd K1 a2 (.tup []) = K2 at f1 f2 dL
    refine ⟨Nat.zero_le _, fun a3 m3 => ?_⟩
    have f3 : Dp K (upd K2 a3 (.tup [])) (.ref a3) (.tuple []) := .tup (.inl (.inl upd_same)) .nil
    have dL := dL.st (st (o := .tup []) m3)
    have f1 := f1.st (st (o := .tup []) m3)
    have f2 := f2.st (st (o := .tup []) m3)
    generalize upd K2 a3 (.tup []) = K3 at f1 f2 f3 dL
    refine ⟨by show 1 ≤ sizeLine; omega, fun a4 m4 => ?_⟩
    have f4 : Dp K (upd K3 a4 (.tup [.str "a"])) (.ref a4) (.tuple [.str "a"]) := .tup (.inl (.inl upd_same)) (.cons (.str "a") .nil)
    have dL := dL.st (st (o := .tup [.str "a"]) m4)
    have f1 := f1.st (st (o := .tup [.str "a"]) m4)
    have f2 := f2.st (st (o := .tup [.str "a"]) m4)
    have f3 := f3.st (st (o := .tup [.str "a"]) m4)
    generalize upd K3 a4 (.tup [.str "a"]) = K4 at f1 f2 f3 f4 dL
    refine ⟨by show 3 ≤ sizeLine; omega, fun a5 m5 => ?_⟩
    have f5 : Dp K (upd K4 a5 (.tup [.ref a2, .ref a3, .ref a4])) (.ref a5) (.tuple [.tuple [], .tuple [], .tuple [.str "a"]]) := .tup (.inl (.inl upd_same)) (.cons (f2.st (st m5)) (.cons (f3.st (st m5)) (.cons (f4.st (st m5)) .nil)))
    have dL := dL.st (st (o := .tup [.ref a2, .ref a3, .ref a4]) m5)
    have f1 := f1.st (st (o := .tup [.ref a2, .ref a3, .ref a4]) m5)
    generalize upd K4 a5 (.tup [.ref a2, .ref a3, .ref a4]) = K5 at f1 f5 dL
    refine ⟨Nat.zero_le _, fun a6 m6 => ?_⟩
    have f6 : Dp K (upd K5 a6 (.tup [])) (.ref a6) (.tuple []) := .tup (.inl (.inl upd_same)) .nil
    have dL := dL.st (st (o := .tup []) m6)
    have f1 := f1.st (st (o := .tup []) m6)
    have f5 := f5.st (st (o := .tup []) m6)
    generalize upd K5 a6 (.tup []) = K6 at f1 f5 f6 dL
    refine ⟨by show 7 ≤ sizeLine; omega, fun a7 m7 => ?_⟩
    refine ⟨endD, endD, dL.st (st m7), .lst (.inl (.inl upd_same)) (.cons (f1.st (st m7)) (.cons (.str "-") (.cons (f5.st (st m7)) (.cons (f6.st (st m7)) (.cons (.str "0") (.cons (.bl true) (.cons (.bl true) .nil))))))), end_shaped, end_shaped, ?_⟩
    rw [end_eqv]
    exact q _
end
end Kl

set_option maxRecDepth 100000
set_option maxHeartbeats 4000000
namespace Kl
open PySem PySem.Spec PyProof.Rows L2 Gx LamX
/-! ### the end -/
theorem all_mk {l : PySem.W.OpenLaw} {w : World} {K : PySem.W.Frag} {h : Heap} {mg : Str → Option Value} {fa : Addr} (X : K.In h) (G : h.Ns mainGlobals mg) (hfa : mg "law" = some (.ref fa))
    {Ce0 fe0 : Addr} {ode0 ane0 : Option Addr} {sle0 : Array (Option Value)} {oce0 kVe0 dce0 pme0 cde0 cte0 : Value}
    {nme0 qne0 : Str} {Ne0 : Addr} {bse0 bme0 : List Value} {sne0 : List Str} {sube0 : List Value} {abe0 : Bool} {cole0 : Option Bool} {dde0 : Option Addr} {k0e0 k1e0 k2e0 k3e0 k5e0 : Option Value}
    {Ce1 fe1 : Addr} {ode1 ane1 : Option Addr} {sle1 : Array (Option Value)} {oce1 kVe1 dce1 pme1 cde1 cte1 : Value}
    {nme1 qne1 : Str} {Ne1 : Addr} {bse1 bme1 : List Value} {sne1 : List Str} {sube1 : List Value} {abe1 : Bool} {cole1 : Option Bool} {dde1 : Option Addr} {k0e1 k1e1 k2e1 k3e1 k5e1 : Option Value}
    {Cy0 : Addr} {nmy0 qny0 : Str} {Ny0 : Addr} {bsy0 bmy0 : List Value} {hdy0 : Bool} {sny0 : List Str} {suby0 : List Value} {aby0 : Bool} {coly0 : Option Bool} {ddy0 : Option Addr} {k0y0 k1y0 k2y0 k3y0 k5y0 : Option Value}
    {f0 : Addr} {od0 an0 : Option Addr} {sl0 : Array (Option Value)} {oc0 kV0 dc0 pm0 cd0 ct0 : Value}
    {f1 : Addr} {od1 an1 : Option Addr} {sl1 : Array (Option Value)} {oc1 kV1 dc1 pm1 cd1 ct1 : Value}
    {f2 : Addr} {od2 an2 : Option Addr} {sl2 : Array (Option Value)} {oc2 kV2 dc2 pm2 cd2 ct2 : Value}
    {f3 : Addr} {od3 an3 : Option Addr} {sl3 : Array (Option Value)} {oc3 kV3 dc3 pm3 cd3 ct3 : Value}
    {f4 : Addr} {od4 an4 : Option Addr} {sl4 : Array (Option Value)} {oc4 kV4 dc4 pm4 cd4 ct4 : Value}
    {f5 : Addr} {od5 an5 : Option Addr} {sl5 : Array (Option Value)} {oc5 kV5 dc5 pm5 cd5 ct5 : Value}
    {f6 : Addr} {od6 an6 : Option Addr} {sl6 : Array (Option Value)} {oc6 kV6 dc6 pm6 cd6 ct6 : Value}
    {f7 : Addr} {od7 an7 : Option Addr} {sl7 : Array (Option Value)} {oc7 kV7 dc7 pm7 cd7 ct7 : Value}
    {f8 : Addr} {od8 an8 : Option Addr} {sl8 : Array (Option Value)} {oc8 kV8 dc8 pm8 cd8 ct8 : Value}
    {f9 : Addr} {od9 an9 : Option Addr} {sl9 : Array (Option Value)} {oc9 kV9 dc9 pm9 cd9 ct9 : Value}
    {f10 : Addr} {od10 an10 : Option Addr} {sl10 : Array (Option Value)} {oc10 kV10 dc10 pm10 cd10 ct10 : Value}
    {f11 : Addr} {od11 an11 : Option Addr} {sl11 : Array (Option Value)} {oc11 kV11 dc11 pm11 cd11 ct11 : Value}
    {f12 : Addr} {od12 an12 : Option Addr} {sl12 : Array (Option Value)} {oc12 kV12 dc12 pm12 cd12 ct12 : Value}
    {f13 : Addr} {od13 an13 : Option Addr} {sl13 : Array (Option Value)} {oc13 kV13 dc13 pm13 cd13 ct13 : Value}
    {f14 : Addr} {od14 an14 : Option Addr} {sl14 : Array (Option Value)} {oc14 kV14 dc14 pm14 cd14 ct14 : Value}
    {f15 : Addr} {od15 an15 : Option Addr} {sl15 : Array (Option Value)} {oc15 kV15 dc15 pm15 cd15 ct15 : Value}
    {f16 : Addr} {od16 an16 : Option Addr} {sl16 : Array (Option Value)} {oc16 kV16 dc16 pm16 cd16 ct16 : Value}
    {f17 : Addr} {od17 an17 : Option Addr} {sl17 : Array (Option Value)} {oc17 kV17 dc17 pm17 cd17 ct17 : Value}
    {f18 : Addr} {od18 an18 : Option Addr} {sl18 : Array (Option Value)} {oc18 kV18 dc18 pm18 cd18 ct18 : Value}
    {f19 : Addr} {od19 an19 : Option Addr} {sl19 : Array (Option Value)} {oc19 kV19 dc19 pm19 cd19 ct19 : Value}
    {f20 : Addr} {od20 an20 : Option Addr} {sl20 : Array (Option Value)} {oc20 kV20 dc20 pm20 cd20 ct20 : Value}
    {f21 : Addr} {od21 an21 : Option Addr} {sl21 : Array (Option Value)} {oc21 kV21 dc21 pm21 cd21 ct21 : Value}
    {f22 : Addr} {od22 an22 : Option Addr} {sl22 : Array (Option Value)} {oc22 kV22 dc22 pm22 cd22 ct22 : Value}
    {f23 : Addr} {od23 an23 : Option Addr} {sl23 : Array (Option Value)} {oc23 kV23 dc23 pm23 cd23 ct23 : Value}
    {f24 : Addr} {od24 an24 : Option Addr} {sl24 : Array (Option Value)} {oc24 kV24 dc24 pm24 cd24 ct24 : Value}
    {f25 : Addr} {od25 an25 : Option Addr} {sl25 : Array (Option Value)} {oc25 kV25 dc25 pm25 cd25 ct25 : Value}
    {f26 : Addr} {od26 an26 : Option Addr} {sl26 : Array (Option Value)} {oc26 kV26 dc26 pm26 cd26 ct26 : Value}
    {f27 : Addr} {od27 an27 : Option Addr} {sl27 : Array (Option Value)} {oc27 kV27 dc27 pm27 cd27 ct27 : Value}
    {f28 : Addr} {od28 an28 : Option Addr} {sl28 : Array (Option Value)} {oc28 kV28 dc28 pm28 cd28 ct28 : Value}
    {f29 : Addr} {od29 an29 : Option Addr} {sl29 : Array (Option Value)} {oc29 kV29 dc29 pm29 cd29 ct29 : Value}
    {f30 : Addr} {od30 an30 : Option Addr} {sl30 : Array (Option Value)} {oc30 kV30 dc30 pm30 cd30 ct30 : Value}
    {f31 : Addr} {od31 an31 : Option Addr} {sl31 : Array (Option Value)} {oc31 kV31 dc31 pm31 cd31 ct31 : Value}
    {f32 : Addr} {od32 an32 : Option Addr} {sl32 : Array (Option Value)} {oc32 kV32 dc32 pm32 cd32 ct32 : Value}
    {f33 : Addr} {od33 an33 : Option Addr} {sl33 : Array (Option Value)} {oc33 kV33 dc33 pm33 cd33 ct33 : Value}
    {t0 : Tok}
    {t1 : Tok}
    {t2 : Tok}
    {t3 : Tok}
    {t4 : Tok}
    {q : Program}
    {cT0 PT0 : Addr} {eT0 : DefRec} {ucT0 : Value} {odT0 : Option Addr} {vsT0 : Array Value} {slT0 : Array (Option Value)}
    {cT1 PT1 : Addr} {eT1 : DefRec} {ucT1 : Value} {odT1 : Option Addr} {vsT1 : Array Value} {slT1 : Array (Option Value)}
    (ge0 : PySem.W.nsIn K mainGlobals "ParseError" = some (some (.ref Ce0))) (he0 : K.lookup Ce0 = some (excClassObj nme0 qne0 Ce0 Ne0 bse0 bme0 true sne0 sube0 abe0 cole0 dde0 k0e0 k1e0 k2e0 k3e0 k5e0 "ValueError.__new__")) (te0 : PySem.W.excTail [.type "ValueError", .type "Exception", .type "BaseException", .type "object"] bme0 = true) (oe0 : PySem.W.excOver K Ce0 [.type "ValueError", .type "Exception", .type "BaseException", .type "object"] = true) (qe0 : PySem.W.takerIn K Ce0 "number" = some none) (de0 : PySem.W.hasDictIn K Ce0 = true) (se0 : PySem.W.findIn K (.ref Ce0) "__setattr__" = some (some (.builtin "object.__setattr__"))) (ue0 : PySem.W.findIn K (.ref Ce0) "__getattribute__" = some (some (.builtin "BaseException.__getattribute__"))) (ve0 : PySem.W.findIn K (.ref Ce0) "__getattr__" = some none) (ne0 : PySem.W.findIn K (.ref Ce0) "number" = some none) (ie0 : PySem.W.findIn K (.ref Ce0) "__init__" = some (some (.ref fe0))) (ye0 : PySem.W.typeIn K (.ref fe0) = some (.type "function")) (ke0 : PySem.W.keepIn K (.ref Ce0) = true) (be0 : PySem.W.subIn K (.ref Ce0) (.type "BaseException") = some true) (we0 : PySem.W.typeIn K (.ref Ce0) = some (.type "type")) (xe0 : PySem.W.isClsIn K Ce0 = true) (re0 : PySem.W.subIn K (.ref Ce0) (.ref Ce0) = some true) (le0 : K.lookup fe0 = some ⟨oce0, ode0, .func (PySem.W.fnOf "__init__" "ParseError.__init__" (defArgs s_ParseError_init) (defBody s_ParseError_init) (defScope s_ParseError_init) .none kVe0 dce0 pme0 ane0 cde0 cte0), sle0⟩) (ce0 : PySem.W.codeIn K cde0 "ParseError.__init__" = true) (pe0 : PySem.W.keepIn K (.ref fe0) = true)
    (ge1 : PySem.W.nsIn K mainGlobals "InvalidNumber" = some (some (.ref Ce1))) (he1 : K.lookup Ce1 = some (excClassObj nme1 qne1 Ce1 Ne1 bse1 bme1 true sne1 sube1 abe1 cole1 dde1 k0e1 k1e1 k2e1 k3e1 k5e1 "IndexError.__new__")) (te1 : PySem.W.excTail [.type "IndexError", .type "LookupError", .type "Exception", .type "BaseException", .type "object"] bme1 = true) (oe1 : PySem.W.excOver K Ce1 [.type "IndexError", .type "LookupError", .type "Exception", .type "BaseException", .type "object"] = true) (qe1 : PySem.W.takerIn K Ce1 "value" = some none) (de1 : PySem.W.hasDictIn K Ce1 = true) (se1 : PySem.W.findIn K (.ref Ce1) "__setattr__" = some (some (.builtin "object.__setattr__"))) (ue1 : PySem.W.findIn K (.ref Ce1) "__getattribute__" = some (some (.builtin "BaseException.__getattribute__"))) (ve1 : PySem.W.findIn K (.ref Ce1) "__getattr__" = some none) (ne1 : PySem.W.findIn K (.ref Ce1) "value" = some none) (ie1 : PySem.W.findIn K (.ref Ce1) "__init__" = some (some (.ref fe1))) (ye1 : PySem.W.typeIn K (.ref fe1) = some (.type "function")) (ke1 : PySem.W.keepIn K (.ref Ce1) = true) (be1 : PySem.W.subIn K (.ref Ce1) (.type "BaseException") = some true) (we1 : PySem.W.typeIn K (.ref Ce1) = some (.type "type")) (xe1 : PySem.W.isClsIn K Ce1 = true) (re1 : PySem.W.subIn K (.ref Ce1) (.ref Ce1) = some true) (le1 : K.lookup fe1 = some ⟨oce1, ode1, .func (PySem.W.fnOf "__init__" "InvalidNumber.__init__" (defArgs s_InvalidNumber_init) (defBody s_InvalidNumber_init) (defScope s_InvalidNumber_init) .none kVe1 dce1 pme1 ane1 cde1 cte1), sle1⟩) (ce1 : PySem.W.codeIn K cde1 "InvalidNumber.__init__" = true) (pe1 : PySem.W.keepIn K (.ref fe1) = true)
    (gy0 : PySem.W.nsIn K mainGlobals "InvalidRow" = some (some (.ref Cy0))) (hy0 : K.lookup Cy0 = some (excClassObj nmy0 qny0 Cy0 Ny0 bsy0 bmy0 hdy0 sny0 suby0 aby0 coly0 ddy0 k0y0 k1y0 k2y0 k3y0 k5y0 "ValueError.__new__")) (ty0 : PySem.W.excTail [.type "ValueError", .type "Exception", .type "BaseException", .type "object"] bmy0 = true) (iy0 : PySem.W.findIn K (.ref Cy0) "__init__" = some (some (.builtin "ValueError.__init__"))) (ky0 : PySem.W.keepIn K (.ref Cy0) = true) (by0 : PySem.W.subIn K (.ref Cy0) (.type "BaseException") = some true) (wy0 : PySem.W.typeIn K (.ref Cy0) = some (.type "type")) (xy0 : PySem.W.isClsIn K Cy0 = true) (ry0 : PySem.W.subIn K (.ref Cy0) (.ref Cy0) = some true) (zy0 : xclsB K Cy0 = true)
    (a0 : PySem.W.nsIn K mainGlobals "is_integer" = some (some (.ref f0))) (l0 : K.lookup f0 = some ⟨oc0, od0, .func (PySem.W.fnOf "is_integer" "is_integer" (defArgs s_is_integer) (defBody s_is_integer) (defScope s_is_integer) .none kV0 dc0 pm0 an0 cd0 ct0), sl0⟩) (c0 : PySem.W.codeIn K cd0 "is_integer" = true) (k0 : PySem.W.keepIn K (.ref f0) = true)
    (a1 : PySem.W.nsIn K mainGlobals "is_count" = some (some (.ref f1))) (l1 : K.lookup f1 = some ⟨oc1, od1, .func (PySem.W.fnOf "is_count" "is_count" (defArgs s_is_count) (defBody s_is_count) (defScope s_is_count) .none kV1 dc1 pm1 an1 cd1 ct1), sl1⟩) (c1 : PySem.W.codeIn K cd1 "is_count" = true) (k1 : PySem.W.keepIn K (.ref f1) = true)
    (a2 : PySem.W.nsIn K mainGlobals "is_name" = some (some (.ref f2))) (l2 : K.lookup f2 = some ⟨oc2, od2, .func (PySem.W.fnOf "is_name" "is_name" (defArgs s_is_name) (defBody s_is_name) (defScope s_is_name) .none kV2 dc2 pm2 an2 cd2 ct2), sl2⟩) (c2 : PySem.W.codeIn K cd2 "is_name" = true) (k2 : PySem.W.keepIn K (.ref f2) = true)
    (a3 : PySem.W.nsIn K mainGlobals "is_sorted" = some (some (.ref f3))) (l3 : K.lookup f3 = some ⟨oc3, od3, .func (PySem.W.fnOf "is_sorted" "is_sorted" (defArgs s_is_sorted) (defBody s_is_sorted) (defScope s_is_sorted) .none kV3 dc3 pm3 an3 cd3 ct3), sl3⟩) (c3 : PySem.W.codeIn K cd3 "is_sorted" = true) (k3 : PySem.W.keepIn K (.ref f3) = true)
    (a4 : PySem.W.nsIn K mainGlobals "words_of" = some (some (.ref f4))) (l4 : K.lookup f4 = some ⟨oc4, od4, .func (PySem.W.fnOf "words_of" "words_of" (defArgs s_words_of) (defBody s_words_of) (defScope s_words_of) .none kV4 dc4 pm4 an4 cd4 ct4), sl4⟩) (c4 : PySem.W.codeIn K cd4 "words_of" = true) (k4 : PySem.W.keepIn K (.ref f4) = true)
    (a5 : PySem.W.nsIn K mainGlobals "names_in" = some (some (.ref f5))) (l5 : K.lookup f5 = some ⟨oc5, od5, .func (PySem.W.fnOf "names_in" "names_in" (defArgs s_names_in) (defBody s_names_in) (defScope s_names_in) .none kV5 dc5 pm5 an5 cd5 ct5), sl5⟩) (c5 : PySem.W.codeIn K cd5 "names_in" = true) (k5 : PySem.W.keepIn K (.ref f5) = true)
    (a6 : PySem.W.nsIn K mainGlobals "text_of" = some (some (.ref f6))) (l6 : K.lookup f6 = some ⟨oc6, od6, .func (PySem.W.fnOf "text_of" "text_of" (defArgs s_text_of) (defBody s_text_of) (defScope s_text_of) .none kV6 dc6 pm6 an6 cd6 ct6), sl6⟩) (c6 : PySem.W.codeIn K cd6 "text_of" = true) (k6 : PySem.W.keepIn K (.ref f6) = true)
    (a7 : PySem.W.nsIn K mainGlobals "are_digits" = some (some (.ref f7))) (l7 : K.lookup f7 = some ⟨oc7, od7, .func (PySem.W.fnOf "are_digits" "are_digits" (defArgs s_are_digits) (defBody s_are_digits) (defScope s_are_digits) .none kV7 dc7 pm7 an7 cd7 ct7), sl7⟩) (c7 : PySem.W.codeIn K cd7 "are_digits" = true) (k7 : PySem.W.keepIn K (.ref f7) = true)
    (a8 : PySem.W.nsIn K mainGlobals "are_loose_digits" = some (some (.ref f8))) (l8 : K.lookup f8 = some ⟨oc8, od8, .func (PySem.W.fnOf "are_loose_digits" "are_loose_digits" (defArgs s_are_loose_digits) (defBody s_are_loose_digits) (defScope s_are_loose_digits) .none kV8 dc8 pm8 an8 cd8 ct8), sl8⟩) (c8 : PySem.W.codeIn K cd8 "are_loose_digits" = true) (k8 : PySem.W.keepIn K (.ref f8) = true)
    (a9 : PySem.W.nsIn K mainGlobals "_check_loose" = some (some (.ref f9))) (l9 : K.lookup f9 = some ⟨oc9, od9, .func (PySem.W.fnOf "_check_loose" "_check_loose" (defArgs s_check_loose) (defBody s_check_loose) (defScope s_check_loose) .none kV9 dc9 pm9 an9 cd9 ct9), sl9⟩) (c9 : PySem.W.codeIn K cd9 "_check_loose" = true) (k9 : PySem.W.keepIn K (.ref f9) = true)
    (a10 : PySem.W.nsIn K mainGlobals "is_digit" = some (some (.ref f10))) (l10 : K.lookup f10 = some ⟨oc10, od10, .func (PySem.W.fnOf "is_digit" "is_digit" (defArgs s_is_digit) (defBody s_is_digit) (defScope s_is_digit) .none kV10 dc10 pm10 an10 cd10 ct10), sl10⟩) (c10 : PySem.W.codeIn K cd10 "is_digit" = true) (k10 : PySem.W.keepIn K (.ref f10) = true)
    (a11 : PySem.W.nsIn K mainGlobals "is_loose" = some (some (.ref f11))) (l11 : K.lookup f11 = some ⟨oc11, od11, .func (PySem.W.fnOf "is_loose" "is_loose" (defArgs s_is_loose) (defBody s_is_loose) (defScope s_is_loose) .none kV11 dc11 pm11 an11 cd11 ct11), sl11⟩) (c11 : PySem.W.codeIn K cd11 "is_loose" = true) (k11 : PySem.W.keepIn K (.ref f11) = true)
    (a12 : PySem.W.nsIn K mainGlobals "write_digit" = some (some (.ref f12))) (l12 : K.lookup f12 = some ⟨oc12, od12, .func (PySem.W.fnOf "write_digit" "write_digit" (defArgs s_write_digit) (defBody s_write_digit) (defScope s_write_digit) .none kV12 dc12 pm12 an12 cd12 ct12), sl12⟩) (c12 : PySem.W.codeIn K cd12 "write_digit" = true) (k12 : PySem.W.keepIn K (.ref f12) = true)
    (a13 : PySem.W.nsIn K mainGlobals "read_digit" = some (some (.ref f13))) (l13 : K.lookup f13 = some ⟨oc13, od13, .func (PySem.W.fnOf "read_digit" "read_digit" (defArgs s_read_digit) (defBody s_read_digit) (defScope s_read_digit) .none kV13 dc13 pm13 an13 cd13 ct13), sl13⟩) (c13 : PySem.W.codeIn K cd13 "read_digit" = true) (k13 : PySem.W.keepIn K (.ref f13) = true)
    (a14 : PySem.W.nsIn K mainGlobals "write_row" = some (some (.ref f14))) (l14 : K.lookup f14 = some ⟨oc14, od14, .func (PySem.W.fnOf "write_row" "write_row" (defArgs s_write_row) (defBody s_write_row) (defScope s_write_row) .none kV14 dc14 pm14 an14 cd14 ct14), sl14⟩) (c14 : PySem.W.codeIn K cd14 "write_row" = true) (k14 : PySem.W.keepIn K (.ref f14) = true)
    (a15 : PySem.W.nsIn K mainGlobals "read_row" = some (some (.ref f15))) (l15 : K.lookup f15 = some ⟨oc15, od15, .func (PySem.W.fnOf "read_row" "read_row" (defArgs s_read_row) (defBody s_read_row) (defScope s_read_row) .none kV15 dc15 pm15 an15 cd15 ct15), sl15⟩) (c15 : PySem.W.codeIn K cd15 "read_row" = true) (k15 : PySem.W.keepIn K (.ref f15) = true)
    (a16 : PySem.W.nsIn K mainGlobals "_law_dice" = some (some (.ref f16))) (l16 : K.lookup f16 = some ⟨oc16, od16, .func (PySem.W.fnOf "_law_dice" "_law_dice" (defArgs s_law_dice) (defBody s_law_dice) (defScope s_law_dice) .none kV16 dc16 pm16 an16 cd16 ct16), sl16⟩) (c16 : PySem.W.codeIn K cd16 "_law_dice" = true) (k16 : PySem.W.keepIn K (.ref f16) = true)
    (a17 : PySem.W.nsIn K mainGlobals "_law_roll" = some (some (.ref f17))) (l17 : K.lookup f17 = some ⟨oc17, od17, .func (PySem.W.fnOf "_law_roll" "_law_roll" (defArgs s_law_roll) (defBody s_law_roll) (defScope s_law_roll) .none kV17 dc17 pm17 an17 cd17 ct17), sl17⟩) (c17 : PySem.W.codeIn K cd17 "_law_roll" = true) (k17 : PySem.W.keepIn K (.ref f17) = true)
    (a18 : PySem.W.nsIn K mainGlobals "_law_pick" = some (some (.ref f18))) (l18 : K.lookup f18 = some ⟨oc18, od18, .func (PySem.W.fnOf "_law_pick" "_law_pick" (defArgs s_law_pick) (defBody s_law_pick) (defScope s_law_pick) .none kV18 dc18 pm18 an18 cd18 ct18), sl18⟩) (c18 : PySem.W.codeIn K cd18 "_law_pick" = true) (k18 : PySem.W.keepIn K (.ref f18) = true)
    (a19 : PySem.W.nsIn K mainGlobals "_law_mixed" = some (some (.ref f19))) (l19 : K.lookup f19 = some ⟨oc19, od19, .func (PySem.W.fnOf "_law_mixed" "_law_mixed" (defArgs s_law_mixed) (defBody s_law_mixed) (defScope s_law_mixed) .none kV19 dc19 pm19 an19 cd19 ct19), sl19⟩) (c19 : PySem.W.codeIn K cd19 "_law_mixed" = true) (k19 : PySem.W.keepIn K (.ref f19) = true)
    (a20 : PySem.W.nsIn K mainGlobals "_law_digit_text" = some (some (.ref f20))) (l20 : K.lookup f20 = some ⟨oc20, od20, .func (PySem.W.fnOf "_law_digit_text" "_law_digit_text" (defArgs s_law_digit_text) (defBody s_law_digit_text) (defScope s_law_digit_text) .none kV20 dc20 pm20 an20 cd20 ct20), sl20⟩) (c20 : PySem.W.codeIn K cd20 "_law_digit_text" = true) (k20 : PySem.W.keepIn K (.ref f20) = true)
    (a21 : PySem.W.nsIn K mainGlobals "_law_row_text" = some (some (.ref f21))) (l21 : K.lookup f21 = some ⟨oc21, od21, .func (PySem.W.fnOf "_law_row_text" "_law_row_text" (defArgs s_law_row_text) (defBody s_law_row_text) (defScope s_law_row_text) .none kV21 dc21 pm21 an21 cd21 ct21), sl21⟩) (c21 : PySem.W.codeIn K cd21 "_law_row_text" = true) (k21 : PySem.W.keepIn K (.ref f21) = true)
    (a22 : PySem.W.nsIn K mainGlobals "_law_any_name" = some (some (.ref f22))) (l22 : K.lookup f22 = some ⟨oc22, od22, .func (PySem.W.fnOf "_law_any_name" "_law_any_name" (defArgs s_law_any_name) (defBody s_law_any_name) (defScope s_law_any_name) .none kV22 dc22 pm22 an22 cd22 ct22), sl22⟩) (c22 : PySem.W.codeIn K cd22 "_law_any_name" = true) (k22 : PySem.W.keepIn K (.ref f22) = true)
    (a23 : PySem.W.nsIn K mainGlobals "_law_pool_names" = some (some (.ref f23))) (l23 : K.lookup f23 = some ⟨oc23, od23, .func (PySem.W.fnOf "_law_pool_names" "_law_pool_names" (defArgs s_law_pool_names) (defBody s_law_pool_names) (defScope s_law_pool_names) .none kV23 dc23 pm23 an23 cd23 ct23), sl23⟩) (c23 : PySem.W.codeIn K cd23 "_law_pool_names" = true) (k23 : PySem.W.keepIn K (.ref f23) = true)
    (a24 : PySem.W.nsIn K mainGlobals "_law_drawn_digit" = some (some (.ref f24))) (l24 : K.lookup f24 = some ⟨oc24, od24, .func (PySem.W.fnOf "_law_drawn_digit" "_law_drawn_digit" (defArgs s_law_drawn_digit) (defBody s_law_drawn_digit) (defScope s_law_drawn_digit) .none kV24 dc24 pm24 an24 cd24 ct24), sl24⟩) (c24 : PySem.W.codeIn K cd24 "_law_drawn_digit" = true) (k24 : PySem.W.keepIn K (.ref f24) = true)
    (a25 : PySem.W.nsIn K mainGlobals "_law_drawn_loose" = some (some (.ref f25))) (l25 : K.lookup f25 = some ⟨oc25, od25, .func (PySem.W.fnOf "_law_drawn_loose" "_law_drawn_loose" (defArgs s_law_drawn_loose) (defBody s_law_drawn_loose) (defScope s_law_drawn_loose) .none kV25 dc25 pm25 an25 cd25 ct25), sl25⟩) (c25 : PySem.W.codeIn K cd25 "_law_drawn_loose" = true) (k25 : PySem.W.keepIn K (.ref f25) = true)
    (a26 : PySem.W.nsIn K mainGlobals "_law_is_name" = some (some (.ref f26))) (l26 : K.lookup f26 = some ⟨oc26, od26, .func (PySem.W.fnOf "_law_is_name" "_law_is_name" (defArgs s_law_is_name) (defBody s_law_is_name) (defScope s_law_is_name) .none kV26 dc26 pm26 an26 cd26 ct26), sl26⟩) (c26 : PySem.W.codeIn K cd26 "_law_is_name" = true) (k26 : PySem.W.keepIn K (.ref f26) = true)
    (a27 : PySem.W.nsIn K mainGlobals "_law_word_read" = some (some (.ref f27))) (l27 : K.lookup f27 = some ⟨oc27, od27, .func (PySem.W.fnOf "_law_word_read" "_law_word_read" (defArgs s_law_word_read) (defBody s_law_word_read) (defScope s_law_word_read) .none kV27 dc27 pm27 an27 cd27 ct27), sl27⟩) (c27 : PySem.W.codeIn K cd27 "_law_word_read" = true) (k27 : PySem.W.keepIn K (.ref f27) = true)
    (a28 : PySem.W.nsIn K mainGlobals "_law_text_read" = some (some (.ref f28))) (l28 : K.lookup f28 = some ⟨oc28, od28, .func (PySem.W.fnOf "_law_text_read" "_law_text_read" (defArgs s_law_text_read) (defBody s_law_text_read) (defScope s_law_text_read) .none kV28 dc28 pm28 an28 cd28 ct28), sl28⟩) (c28 : PySem.W.codeIn K cd28 "_law_text_read" = true) (k28 : PySem.W.keepIn K (.ref f28) = true)
    (a29 : PySem.W.nsIn K mainGlobals "_law_bent" = some (some (.ref f29))) (l29 : K.lookup f29 = some ⟨oc29, od29, .func (PySem.W.fnOf "_law_bent" "_law_bent" (defArgs s_law_bent) (defBody s_law_bent) (defScope s_law_bent) .none kV29 dc29 pm29 an29 cd29 ct29), sl29⟩) (c29 : PySem.W.codeIn K cd29 "_law_bent" = true) (k29 : PySem.W.keepIn K (.ref f29) = true)
    (a30 : PySem.W.nsIn K mainGlobals "_law_told" = some (some (.ref f30))) (l30 : K.lookup f30 = some ⟨oc30, od30, .func (PySem.W.fnOf "_law_told" "_law_told" (defArgs s_law_told) (defBody s_law_told) (defScope s_law_told) .none kV30 dc30 pm30 an30 cd30 ct30), sl30⟩) (c30 : PySem.W.codeIn K cd30 "_law_told" = true) (k30 : PySem.W.keepIn K (.ref f30) = true)
    (a31 : PySem.W.nsIn K mainGlobals "_law_texts_right" = some (some (.ref f31))) (l31 : K.lookup f31 = some ⟨oc31, od31, .func (PySem.W.fnOf "_law_texts_right" "_law_texts_right" (defArgs s_law_texts_right) (defBody s_law_texts_right) (defScope s_law_texts_right) .none kV31 dc31 pm31 an31 cd31 ct31), sl31⟩) (c31 : PySem.W.codeIn K cd31 "_law_texts_right" = true) (k31 : PySem.W.keepIn K (.ref f31) = true)
    (a32 : PySem.W.nsIn K mainGlobals "_law_right" = some (some (.ref f32))) (l32 : K.lookup f32 = some ⟨oc32, od32, .func (PySem.W.fnOf "_law_right" "_law_right" (defArgs s_law_right) (defBody s_law_right) (defScope s_law_right) .none kV32 dc32 pm32 an32 cd32 ct32), sl32⟩) (c32 : PySem.W.codeIn K cd32 "_law_right" = true) (k32 : PySem.W.keepIn K (.ref f32) = true)
    (a33 : PySem.W.nsIn K mainGlobals "law" = some (some (.ref f33))) (l33 : K.lookup f33 = some ⟨oc33, od33, .func (PySem.W.fnOf "law" "law" (defArgs s_law) (defBody s_law) (defScope s_law) .none kV33 dc33 pm33 an33 cd33 ct33), sl33⟩) (c33 : PySem.W.codeIn K cd33 "law" = true) (k33 : PySem.W.keepIn K (.ref f33) = true)
    (m0 : PySem.W.nsIn K mainGlobals "MAX_LETTERS" = some (some (.int 8 t0)))
    (m1 : PySem.W.nsIn K mainGlobals "_TOO_LONG" = some (some (.int 1000000000000000000000000000000000000000000000000000000000000 t1)))
    (m2 : PySem.W.nsIn K mainGlobals "MAX_DIGIT" = some (some (.int 3 t2)))
    (m3 : PySem.W.nsIn K mainGlobals "LOOSE_DIGIT" = some (some (.int 20 t3)))
    (m4 : PySem.W.nsIn K mainGlobals "_LOOSE_RANKS" = some (some (.int 402 t4)))
    (z0 : PySem.W.nsIn K mainGlobals "IndexError" = some none)
    (z1 : PySem.W.nsIn K mainGlobals "ValueError" = some none)
    (z2 : PySem.W.nsIn K mainGlobals "abs" = some none)
    (z3 : PySem.W.nsIn K mainGlobals "all" = some none)
    (z4 : PySem.W.nsIn K mainGlobals "bool" = some none)
    (z5 : PySem.W.nsIn K mainGlobals "int" = some none)
    (z6 : PySem.W.nsIn K mainGlobals "isinstance" = some none)
    (z7 : PySem.W.nsIn K mainGlobals "len" = some none)
    (z8 : PySem.W.nsIn K mainGlobals "list" = some none)
    (z9 : PySem.W.nsIn K mainGlobals "max" = some none)
    (z10 : PySem.W.nsIn K mainGlobals "min" = some none)
    (z11 : PySem.W.nsIn K mainGlobals "range" = some none)
    (z12 : PySem.W.nsIn K mainGlobals "repr" = some none)
    (z13 : PySem.W.nsIn K mainGlobals "sorted" = some none)
    (z14 : PySem.W.nsIn K mainGlobals "str" = some none)
    (z15 : PySem.W.nsIn K mainGlobals "tuple" = some none)
    (tc0 : cd31 = .ref cT0) (tl0 : K.lookup cT0 = some ⟨ucT0, odT0, .fields vsT0, slT0⟩) (tp0 : vsT0[11]? = some (.ref PT0)) (tn0 : K.lookup PT0 = none) (tr0 : (recsOf q).find? (fun r => r.name == ("_law_texts_right" : Str)) = some eT0)
    (tc1 : cd33 = .ref cT1) (tl1 : K.lookup cT1 = some ⟨ucT1, odT1, .fields vsT1, slT1⟩) (tp1 : vsT1[11]? = some (.ref PT1)) (tn1 : K.lookup PT1 = none) (tr1 : (recsOf q).find? (fun r => r.name == ("law" : Str)) = some eT1)
    (tdd : ([PT0, PT1] : List Addr).Nodup) :
    ∃ (fd : FuncData) (cs : List (Addr × Addr)) (sp : Sp), (∀ c ∈ cs, (∃ (y : Str) (e : DefRec), (recsOf q).find? (fun r => r.name == y) = some e ∧ PySem.W.tabIn K y = some c) ∧ K.lookup c.2 = none) ∧ (∀ (s : Shared) (u : Value), BindsTo s fd ⟨[u], []⟩ [("_law_script", u)]) ∧ (∀ (H : Hp) (a : Addr) (ns : List Int), ns.length ≤ 63 → (∀ c ∈ cs, H c.2 = some (.tbl #[])) → SqL K H a (ns.map V.int) → sp [.ref a] H (fun v _ => v = .bl true) fun _ _ _ => False) ∧ ∀ base : Heap, K.In base → base.Ns mainGlobals mg → (∀ c ∈ cs, LamX.TabB base mg c.1 c.2) → FnG l.prog w K mg base CX0 12 fa fd ["_law_script"] sp := by
  have e := hfa.symm.trans (PySem.W.mg_of X G a33)
  cases e
  have T : Top K mg := {
    x_ParseError := ⟨Ce0, fe0, _, ⟨PySem.W.mg_of X G ge0, ⟨_, _, _, _, _, _, _, _, _, _, _, _, _, _, _, he0, te0⟩, oe0, qe0, de0, se0, ue0, ve0, ne0, ie0, ye0, ke0, be0, we0, exm_own be0 xe0 we0 re0⟩, fun_mk le0 ce0 pe0⟩
    x_InvalidNumber := ⟨Ce1, fe1, _, ⟨PySem.W.mg_of X G ge1, ⟨_, _, _, _, _, _, _, _, _, _, _, _, _, _, _, he1, te1⟩, oe1, qe1, de1, se1, ue1, ve1, ne1, ie1, ye1, ke1, be1, we1, exm_own be1 xe1 we1 re1⟩, fun_mk le1 ce1 pe1⟩
    p_InvalidRow := ⟨Cy0, ⟨PySem.W.mg_of X G gy0, ⟨_, _, _, _, _, _, _, _, _, _, _, _, _, _, _, _, hy0, ty0⟩, iy0, ky0⟩, xclsB_ok zy0, exm_own by0 xy0 wy0 ry0⟩
    d_is_integer := ⟨_, _, fun_mk l0 c0 k0, (fun_mk (st := s_is_integer) l0 c0 k0).binds (ps := ["value"]) fun _ _ _ _ _ _ us hl => match us, hl with | [_], _ => rfl, PySem.W.mg_of X G a0⟩
    d_is_count := ⟨_, _, fun_mk l1 c1 k1, (fun_mk (st := s_is_count) l1 c1 k1).binds (ps := ["value"]) fun _ _ _ _ _ _ us hl => match us, hl with | [_], _ => rfl, PySem.W.mg_of X G a1⟩
    d_is_name := ⟨_, _, fun_mk l2 c2 k2, (fun_mk (st := s_is_name) l2 c2 k2).binds (ps := ["value"]) fun _ _ _ _ _ _ us hl => match us, hl with | [_], _ => rfl, PySem.W.mg_of X G a2⟩
    d_is_sorted := ⟨_, _, fun_mk l3 c3 k3, kbn_of fun us ws h1 h2 => match us, ws, h1, h2 with | [_], [_], _, _ => by first | rfl | with_unfolding_all rfl, PySem.W.mg_of X G a3⟩
    d_words_of := ⟨_, _, fun_mk l4 c4 k4, (fun_mk (st := s_words_of) l4 c4 k4).binds (ps := ["line"]) fun _ _ _ _ _ _ us hl => match us, hl with | [_], _ => rfl, PySem.W.mg_of X G a4⟩
    d_names_in := ⟨_, _, fun_mk l5 c5 k5, kbn_of fun us ws h1 h2 => match us, ws, h1, h2 with | [_], [_], _, _ => by first | rfl | with_unfolding_all rfl, PySem.W.mg_of X G a5⟩
    d_text_of := ⟨_, _, fun_mk l6 c6 k6, (fun_mk (st := s_text_of) l6 c6 k6).binds (ps := ["names"]) fun _ _ _ _ _ _ us hl => match us, hl with | [_], _ => rfl, PySem.W.mg_of X G a6⟩
    d_are_digits := ⟨_, _, fun_mk l7 c7 k7, (fun_mk (st := s_are_digits) l7 c7 k7).binds (ps := ["value"]) fun _ _ _ _ _ _ us hl => match us, hl with | [_], _ => rfl, PySem.W.mg_of X G a7⟩
    d_are_loose_digits := ⟨_, _, fun_mk l8 c8 k8, (fun_mk (st := s_are_loose_digits) l8 c8 k8).binds (ps := ["value"]) fun _ _ _ _ _ _ us hl => match us, hl with | [_], _ => rfl, PySem.W.mg_of X G a8⟩
    d_check_loose := ⟨_, _, fun_mk l9 c9 k9, (fun_mk (st := s_check_loose) l9 c9 k9).binds (ps := ["row"]) fun _ _ _ _ _ _ us hl => match us, hl with | [_], _ => rfl, PySem.W.mg_of X G a9⟩
    d_is_digit := ⟨_, _, fun_mk l10 c10 k10, (fun_mk (st := s_is_digit) l10 c10 k10).binds (ps := ["value"]) fun _ _ _ _ _ _ us hl => match us, hl with | [_], _ => rfl, PySem.W.mg_of X G a10⟩
    d_is_loose := ⟨_, _, fun_mk l11 c11 k11, (fun_mk (st := s_is_loose) l11 c11 k11).binds (ps := ["value"]) fun _ _ _ _ _ _ us hl => match us, hl with | [_], _ => rfl, PySem.W.mg_of X G a11⟩
    d_write_digit := ⟨_, _, fun_mk l12 c12 k12, (fun_mk (st := s_write_digit) l12 c12 k12).binds (ps := ["digit"]) fun _ _ _ _ _ _ us hl => match us, hl with | [_], _ => rfl, PySem.W.mg_of X G a12⟩
    d_read_digit := ⟨_, _, fun_mk l13 c13 k13, (fun_mk (st := s_read_digit) l13 c13 k13).binds (ps := ["text"]) fun _ _ _ _ _ _ us hl => match us, hl with | [_], _ => rfl, PySem.W.mg_of X G a13⟩
    d_write_row := ⟨_, _, fun_mk l14 c14 k14, (fun_mk (st := s_write_row) l14 c14 k14).binds (ps := ["row"]) fun _ _ _ _ _ _ us hl => match us, hl with | [_], _ => rfl, PySem.W.mg_of X G a14⟩
    d_read_row := ⟨_, _, fun_mk l15 c15 k15, (fun_mk (st := s_read_row) l15 c15 k15).binds (ps := ["text"]) fun _ _ _ _ _ _ us hl => match us, hl with | [_], _ => rfl, PySem.W.mg_of X G a15⟩
    d_law_dice := ⟨_, _, fun_mk l16 c16 k16, (fun_mk (st := s_law_dice) l16 c16 k16).binds (ps := ["_law_script", "_law_spot"]) fun _ _ _ _ _ _ us hl => match us, hl with | [_, _], _ => rfl, PySem.W.mg_of X G a16⟩
    d_law_roll := ⟨_, _, fun_mk l17 c17 k17, (fun_mk (st := s_law_roll) l17 c17 k17).binds (ps := ["_law_dice_here", "_law_total"]) fun _ _ _ _ _ _ us hl => match us, hl with | [_, _], _ => rfl, PySem.W.mg_of X G a17⟩
    d_law_pick := ⟨_, _, fun_mk l18 c18 k18, (fun_mk (st := s_law_pick) l18 c18 k18).binds (ps := ["_law_dice_here", "_law_items"]) fun _ _ _ _ _ _ us hl => match us, hl with | [_, _], _ => rfl, PySem.W.mg_of X G a18⟩
    d_law_mixed := ⟨_, _, fun_mk l19 c19 k19, (fun_mk (st := s_law_mixed) l19 c19 k19).binds (ps := ["_law_dice_here", "_law_items"]) fun _ _ _ _ _ _ us hl => match us, hl with | [_, _], _ => rfl, PySem.W.mg_of X G a19⟩
    d_law_digit_text := ⟨_, _, fun_mk l20 c20 k20, (fun_mk (st := s_law_digit_text) l20 c20 k20).binds (ps := ["_law_digit"]) fun _ _ _ _ _ _ us hl => match us, hl with | [_], _ => rfl, PySem.W.mg_of X G a20⟩
    d_law_row_text := ⟨_, _, fun_mk l21 c21 k21, (fun_mk (st := s_law_row_text) l21 c21 k21).binds (ps := ["_law_row"]) fun _ _ _ _ _ _ us hl => match us, hl with | [_], _ => rfl, PySem.W.mg_of X G a21⟩
    d_law_any_name := ⟨_, _, fun_mk l22 c22 k22, (fun_mk (st := s_law_any_name) l22 c22 k22).binds (ps := ["_law_dice_here"]) fun _ _ _ _ _ _ us hl => match us, hl with | [_], _ => rfl, PySem.W.mg_of X G a22⟩
    d_law_pool_names := ⟨_, _, fun_mk l23 c23 k23, (fun_mk (st := s_law_pool_names) l23 c23 k23).binds (ps := ["_law_dice_here", "_law_many"]) fun _ _ _ _ _ _ us hl => match us, hl with | [_, _], _ => rfl, PySem.W.mg_of X G a23⟩
    d_law_drawn_digit := ⟨_, _, fun_mk l24 c24 k24, (fun_mk (st := s_law_drawn_digit) l24 c24 k24).binds (ps := ["_law_dice_here", "_law_names", "_law_most"]) fun _ _ _ _ _ _ us hl => match us, hl with | [_, _, _], _ => rfl, PySem.W.mg_of X G a24⟩
    d_law_drawn_loose := ⟨_, _, fun_mk l25 c25 k25, (fun_mk (st := s_law_drawn_loose) l25 c25 k25).binds (ps := ["_law_dice_here", "_law_names", "_law_ranks", "_law_most"]) fun _ _ _ _ _ _ us hl => match us, hl with | [_, _, _, _], _ => rfl, PySem.W.mg_of X G a25⟩
    d_law_is_name := ⟨_, _, fun_mk l26 c26 k26, (fun_mk (st := s_law_is_name) l26 c26 k26).binds (ps := ["_law_word"]) fun _ _ _ _ _ _ us hl => match us, hl with | [_], _ => rfl, PySem.W.mg_of X G a26⟩
    d_law_word_read := ⟨_, _, fun_mk l27 c27 k27, (fun_mk (st := s_law_word_read) l27 c27 k27).binds (ps := ["_law_word"]) fun _ _ _ _ _ _ us hl => match us, hl with | [_], _ => rfl, PySem.W.mg_of X G a27⟩
    d_law_text_read := ⟨_, _, fun_mk l28 c28 k28, (fun_mk (st := s_law_text_read) l28 c28 k28).binds (ps := ["_law_text"]) fun _ _ _ _ _ _ us hl => match us, hl with | [_], _ => rfl, PySem.W.mg_of X G a28⟩
    d_law_bent := ⟨_, _, fun_mk l29 c29 k29, (fun_mk (st := s_law_bent) l29 c29 k29).binds (ps := ["_law_dice_here", "_law_text"]) fun _ _ _ _ _ _ us hl => match us, hl with | [_, _], _ => rfl, PySem.W.mg_of X G a29⟩
    d_law_told := ⟨_, _, fun_mk l30 c30 k30, (fun_mk (st := s_law_told) l30 c30 k30).binds (ps := ["_law_call"]) fun _ _ _ _ _ _ us hl => match us, hl with | [_], _ => rfl, PySem.W.mg_of X G a30⟩
    d_law_texts_right := ⟨_, _, fun_mk l31 c31 k31, (fun_mk (st := s_law_texts_right) l31 c31 k31).binds (ps := ["_law_dice_here", "_law_text"]) fun _ _ _ _ _ _ us hl => match us, hl with | [_, _], _ => rfl, PySem.W.mg_of X G a31⟩
    d_law_right := ⟨_, _, fun_mk l32 c32 k32, (fun_mk (st := s_law_right) l32 c32 k32).binds (ps := ["_law_dice_here"]) fun _ _ _ _ _ _ us hl => match us, hl with | [_], _ => rfl, PySem.W.mg_of X G a32⟩
    g_MAX_LETTERS := ⟨_, PySem.W.mg_of X G m0⟩
    g__TOO_LONG := ⟨_, PySem.W.mg_of X G m1⟩
    g_MAX_DIGIT := ⟨_, PySem.W.mg_of X G m2⟩
    g_LOOSE_DIGIT := ⟨_, PySem.W.mg_of X G m3⟩
    g__LOOSE_RANKS := ⟨_, PySem.W.mg_of X G m4⟩
    b_IndexError := PySem.W.mg_none_of X G z0
    b_ValueError := PySem.W.mg_none_of X G z1
    b_abs := PySem.W.mg_none_of X G z2
    b_all := PySem.W.mg_none_of X G z3
    b_bool := PySem.W.mg_none_of X G z4
    b_int := PySem.W.mg_none_of X G z5
    b_isinstance := PySem.W.mg_none_of X G z6
    b_len := PySem.W.mg_none_of X G z7
    b_list := PySem.W.mg_none_of X G z8
    b_max := PySem.W.mg_none_of X G z9
    b_min := PySem.W.mg_none_of X G z10
    b_range := PySem.W.mg_none_of X G z11
    b_repr := PySem.W.mg_none_of X G z12
    b_sorted := PySem.W.mg_none_of X G z13
    b_str := PySem.W.mg_none_of X G z14
    b_tuple := PySem.W.mg_none_of X G z15 }
  have tt0 : PySem.W.tabIn K "_law_texts_right" = some (cT0, PT0) := Gx.tabIn_of a31 l31 tc0 tl0 tp0
  have tt1 : PySem.W.tabIn K "law" = some (cT1, PT1) := Gx.tabIn_of a33 l33 tc1 tl1 tp1
  have nd : (([(PT0, ln "_law_texts_right"), (PT1, ln "law")] : List (Addr × Str)).map (·.1)).Nodup := tdd
  refine ⟨PySem.W.fnOf "law" "law" (defArgs s_law) (defBody s_law) (defScope s_law) .none kV33 dc33 pm33 an33 cd33 ct33, [(cT0, PT0), (cT1, PT1)], spLaw K [(PT0, ln "_law_texts_right"), (PT1, ln "law")], fun c hc => ?_, fun s v => .of_eq rfl, fun H a ns hl hc hS => ⟨a, ns, rfl, hS, hl, fun p hp => ?_, fun _ => rfl⟩, fun base KB GB TB => ok_law (fun_mk (st := s_law) l33 c33 k33) (PySem.W.mg_of X G a33) (Lam.mk_of KB GB tt0 (TB _ (.head _)) nd (.head _)) (Lam.mk_of KB GB tt1 (TB _ (.tail _ (.head _))) nd (.tail _ (.head _))) T ⟩
  · simp only [List.mem_cons, List.not_mem_nil, or_false] at hc
    rcases hc with rfl | rfl
    · exact ⟨⟨_, _, tr0, tt0⟩, tn0⟩
    · exact ⟨⟨_, _, tr1, tt1⟩, tn1⟩
  · simp only [List.mem_cons, List.not_mem_nil, or_false] at hp
    rcases hp with rfl | rfl
    · exact .nil (hc _ (.head _))
    · exact .nil (hc _ (.tail _ (.head _)))
end Kl
open PySem PySem.W PyProof.Rows
set_option maxHeartbeats 0 in
theorem PySem.Challenge.cw_linkbooks_k13_whole_rows_there_and_back_holds : PySem.Challenge.rw_linkbooks_k13_whole_rows_there_and_back.Holds := by
  w_on; o_law; k_head; (case hw => w_witness2)
  k_fill
  refine Gx.walkGT (l := PySem.Challenge.rw_linkbooks_k13_whole_rows_there_and_back) (n := 63) (k := 12) (x := "_law_script") (CX := fun _ => L2.CX0) rfl (by decide) rfl ⟨rfl, by decide, by decide⟩ (fun w h Y => PySem.W.km_in_of Y) ?F (fun _ _ _ _ _ h => h)
  case F =>
    intro w mg fa h KX G hmg
    refine' Kl.all_mk KX G hmg ?ge0 ?he0 ?te0 ?oe0 ?qe0 ?de0 ?se0 ?ue0 ?ve0 ?ne0 ?ie0 ?ye0 ?ke0 ?be0 ?we0 ?xe0 ?re0 ?le0 ?ce0 ?pe0 ?ge1 ?he1 ?te1 ?oe1 ?qe1 ?de1 ?se1 ?ue1 ?ve1 ?ne1 ?ie1 ?ye1 ?ke1 ?be1 ?we1 ?xe1 ?re1 ?le1 ?ce1 ?pe1 ?gy0 ?hy0 ?ty0 ?iy0 ?ky0 ?by0 ?wy0 ?xy0 ?ry0 ?zy0 ?a0 ?l0 ?c0 ?k0 ?a1 ?l1 ?c1 ?k1 ?a2 ?l2 ?c2 ?k2 ?a3 ?l3 ?c3 ?k3 ?a4 ?l4 ?c4 ?k4 ?a5 ?l5 ?c5 ?k5 ?a6 ?l6 ?c6 ?k6 ?a7 ?l7 ?c7 ?k7 ?a8 ?l8 ?c8 ?k8 ?a9 ?l9 ?c9 ?k9 ?a10 ?l10 ?c10 ?k10 ?a11 ?l11 ?c11 ?k11 ?a12 ?l12 ?c12 ?k12 ?a13 ?l13 ?c13 ?k13 ?a14 ?l14 ?c14 ?k14 ?a15 ?l15 ?c15 ?k15 ?a16 ?l16 ?c16 ?k16 ?a17 ?l17 ?c17 ?k17 ?a18 ?l18 ?c18 ?k18 ?a19 ?l19 ?c19 ?k19 ?a20 ?l20 ?c20 ?k20 ?a21 ?l21 ?c21 ?k21 ?a22 ?l22 ?c22 ?k22 ?a23 ?l23 ?c23 ?k23 ?a24 ?l24 ?c24 ?k24 ?a25 ?l25 ?c25 ?k25 ?a26 ?l26 ?c26 ?k26 ?a27 ?l27 ?c27 ?k27 ?a28 ?l28 ?c28 ?k28 ?a29 ?l29 ?c29 ?k29 ?a30 ?l30 ?c30 ?k30 ?a31 ?l31 ?c31 ?k31 ?a32 ?l32 ?c32 ?k32 ?a33 ?l33 ?c33 ?k33 ?m0 ?m1 ?m2 ?m3 ?m4 ?z0 ?z1 ?z2 ?z3 ?z4 ?z5 ?z6 ?z7 ?z8 ?z9 ?z10 ?z11 ?z12 ?z13 ?z14 ?z15 ?tc0 ?tl0 ?tp0 ?tn0 ?tr0 ?tc1 ?tl1 ?tp1 ?tn1 ?tr1 ?tdd
    (case ge0 => k_is); (case he0 => k_is); (case te0 => decide +kernel); (case oe0 => kx_is); (case qe0 => k_is); (case de0 => k_is); (case se0 => k_is); (case ue0 => k_is); (case ve0 => k_is); (case ne0 => k_is); (case ie0 => k_is); (case ye0 => k_is); (case ke0 => k_is); (case be0 => k_is); (case we0 => k_is); (case xe0 => k_is); (case re0 => first | rfl | k_is); (case le0 => k_is); (case ce0 => k_is); (case pe0 => k_is); (case ge1 => k_is); (case he1 => k_is); (case te1 => decide +kernel); (case oe1 => kx_is); (case qe1 => k_is); (case de1 => k_is); (case se1 => k_is); (case ue1 => k_is); (case ve1 => k_is); (case ne1 => k_is); (case ie1 => k_is); (case ye1 => k_is); (case ke1 => k_is); (case be1 => k_is); (case we1 => k_is); (case xe1 => k_is); (case re1 => first | rfl | k_is); (case le1 => k_is); (case ce1 => k_is); (case pe1 => k_is); (case gy0 => k_is); (case hy0 => k_is); (case ty0 => decide +kernel); (case iy0 => k_is); (case ky0 => k_is); (case by0 => k_is); (case wy0 => k_is); (case xy0 => k_is); (case ry0 => first | rfl | k_is); (case zy0 => kernel_rfl); (case a0 => k_is); (case l0 => k_is); (case c0 => k_is); (case k0 => k_is); (case a1 => k_is); (case l1 => k_is); (case c1 => k_is); (case k1 => k_is); (case a2 => k_is); (case l2 => k_is); (case c2 => k_is); (case k2 => k_is); (case a3 => k_is); (case l3 => k_is); (case c3 => k_is); (case k3 => k_is); (case a4 => k_is); (case l4 => k_is); (case c4 => k_is); (case k4 => k_is); (case a5 => k_is); (case l5 => k_is); (case c5 => k_is); (case k5 => k_is); (case a6 => k_is); (case l6 => k_is); (case c6 => k_is); (case k6 => k_is); (case a7 => k_is); (case l7 => k_is); (case c7 => k_is); (case k7 => k_is); (case a8 => k_is); (case l8 => k_is); (case c8 => k_is); (case k8 => k_is); (case a9 => k_is); (case l9 => k_is); (case c9 => k_is); (case k9 => k_is); (case a10 => k_is); (case l10 => k_is); (case c10 => k_is); (case k10 => k_is); (case a11 => k_is); (case l11 => k_is); (case c11 => k_is); (case k11 => k_is); (case a12 => k_is); (case l12 => k_is); (case c12 => k_is); (case k12 => k_is); (case a13 => k_is); (case l13 => k_is); (case c13 => k_is); (case k13 => k_is); (case a14 => k_is); (case l14 => k_is); (case c14 => k_is); (case k14 => k_is); (case a15 => k_is); (case l15 => k_is); (case c15 => k_is); (case k15 => k_is); (case a16 => k_is); (case l16 => k_is); (case c16 => k_is); (case k16 => k_is); (case a17 => k_is); (case l17 => k_is); (case c17 => k_is); (case k17 => k_is); (case a18 => k_is); (case l18 => k_is); (case c18 => k_is); (case k18 => k_is); (case a19 => k_is); (case l19 => k_is); (case c19 => k_is); (case k19 => k_is); (case a20 => k_is); (case l20 => k_is); (case c20 => k_is); (case k20 => k_is); (case a21 => k_is); (case l21 => k_is); (case c21 => k_is); (case k21 => k_is); (case a22 => k_is); (case l22 => k_is); (case c22 => k_is); (case k22 => k_is); (case a23 => k_is); (case l23 => k_is); (case c23 => k_is); (case k23 => k_is); (case a24 => k_is); (case l24 => k_is); (case c24 => k_is); (case k24 => k_is); (case a25 => k_is); (case l25 => k_is); (case c25 => k_is); (case k25 => k_is); (case a26 => k_is); (case l26 => k_is); (case c26 => k_is); (case k26 => k_is); (case a27 => k_is); (case l27 => k_is); (case c27 => k_is); (case k27 => k_is); (case a28 => k_is); (case l28 => k_is); (case c28 => k_is); (case k28 => k_is); (case a29 => k_is); (case l29 => k_is); (case c29 => k_is); (case k29 => k_is); (case a30 => k_is); (case l30 => k_is); (case c30 => k_is); (case k30 => k_is); (case a31 => k_is); (case l31 => k_is); (case c31 => k_is); (case k31 => k_is); (case a32 => k_is); (case l32 => k_is); (case c32 => k_is); (case k32 => k_is); (case a33 => k_is); (case l33 => k_is); (case c33 => k_is); (case k33 => k_is); (case m0 => k_is); (case m1 => k_is); (case m2 => k_is); (case m3 => k_is); (case m4 => k_is); (case z0 => k_is); (case z1 => k_is); (case z2 => k_is); (case z3 => k_is); (case z4 => k_is); (case z5 => k_is); (case z6 => k_is); (case z7 => k_is); (case z8 => k_is); (case z9 => k_is); (case z10 => k_is); (case z11 => k_is); (case z12 => k_is); (case z13 => k_is); (case z14 => k_is); (case z15 => k_is); (case tc0 => rfl); (case tl0 => k_is); (case tp0 => rfl); (case tn0 => kernel_rfl); (case tr0 => rfl); (case tc1 => rfl); (case tl1 => k_is); (case tp1 => rfl); (case tn1 => kernel_rfl); (case tr1 => rfl); (case tdd => decide)
