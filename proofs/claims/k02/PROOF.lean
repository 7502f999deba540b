import PyProof.Rows.All
import Wide.All
import OpenK.AllK
import Wide.FinOn
import PyProof.Rows.StrCountLaw
import HandS.ForMost
import HandS.Wide
import HandS.IsInst
import HandS.StrMore
import HandS.Style
import PyProof.ReprReads
import HandS.Ends
import PyProof.ReprRoads
import PyProof.Rows.SortShellAny
import PyProof.TupleOfSeq
import KE.KExcInit
import HandS.ForExc
import HandS.TryMany
import HandS.Defaults
import HandS.ExcValue
import KE.KExcMake
import KE.KExcIs
import HandS.HotCalls
import KE.KEqDict
import HandS.Deep
import HandS.DeepEq
import HandS.Walk
import PyProof.Rows.StrIntSpec
import PyProof.Rows.StrDigitsNeg
import KE.KExcLine
import PySem.Challenge.RW_linkbooks_k02_errors_and_integers
set_option Elab.async false
set_option linter.all false
set_option maxRecDepth 100000
set_option maxHeartbeats 4000000
namespace Gx
open PySem PySem.Spec PyProof.Rows L2
/-! ### rules of my own, over any program -/
section
variable {X : Cx}
/-- repr of a truth -/
theorem call_repr_bl : CallR X (.builtin "repr") (fun xs H Q => ∃ b : Bool, xs = [.bl b] ∧ Q (.str (if b then "True" else "False")) H) := by
  intro pins s σ H xs us Q I r h
  obtain ⟨b, rfl, q⟩ := h
  obtain ⟨u, rfl, rx⟩ := vals1 r
  cases (show u = Value.bool b from rx)
  exact PySem.P.repr_of_bool ⟨.str _, H, I.tok _, ⟨_, rfl⟩, q⟩
/-- the signs of a text, a text each -/
def signV (x : Str) : List V := x.cps.toList.map fun c => V.str ⟨#[c]⟩
theorem vals_signs {x : Str} {acc : Array Value} (h : ItemsOf (SignAt x) acc x.cps.size) : Vals (signV x) acc.toList := by
  have key : ∀ (l : List Nat) (vs : List Value), vs.length = l.length → (∀ (j : Nat) (v : Value), vs[j]? = some v → ∃ (c : Nat) (u : Tok), l[j]? = some c ∧ v = Value.str ⟨#[c]⟩ u) → Vals (l.map fun c => V.str ⟨#[c]⟩) vs := by
    intro l
    induction l with
    | nil =>
      intro vs hl _
      cases vs with
      | nil => exact .nil
      | cons a r => cases hl
    | cons c l ih =>
      intro vs hl hv
      cases vs with
      | nil => cases hl
      | cons v vs =>
        obtain ⟨c', u, e1, e2⟩ := hv 0 v rfl
        have e1' : c = c' := Option.some.inj e1
        subst e1'
        exact .cons ⟨u, e2⟩ (ih vs (Nat.succ.inj hl) fun j w hw => hv (j + 1) w hw)
  refine key x.cps.toList acc.toList (by rw [Array.length_toList, Array.length_toList]; exact h.1) fun j v hv => ?_
  obtain ⟨c, u, hc, e⟩ := h.2 j v (by simpa using hv)
  exact ⟨c, u, by simpa using hc, e⟩
/-- list(text) -/
theorem call_list_text (hc : X.calm = true) : CallR X (.type "list") (fun xs H Q => ∃ x : Str, xs = [.str x] ∧ x.length ≤ sizeLine ∧ ∀ l, H l = none → Q (.ref l) (upd H l (.lst (signV x)))) := by
  intro pins s σ H xs us Q I r h
  obtain ⟨x, rfl, hz, q⟩ := h
  obtain ⟨u, rfl, t, rfl⟩ := vals1 r
  refine PySem.call_list_str (I.ok.hd hc) x t (fun h' tk acc' c' kp e ha => ?_) hz
  have hv := vals_signs ha
  refine ⟨.ref s.heap.objs.size, _, I.laid (t' := tk) kp (Nat.le_refl _) (show ObjOk X.prog X.w _ h' _ (.lst (signV x)) from ⟨?_, acc'.toList, c', hv, by simpa using e⟩), rfl, q _ (I.hok.fresh (Nat.le_refl _))⟩
  rw [hv.length, Array.length_toList]
  have := ha.1
  rw [this]
  exact hz
/-- tuple(text) -/
theorem call_tuple_text (hc : X.calm = true) : CallR X (.type "tuple") (fun xs H Q => ∃ x : Str, xs = [.str x] ∧ x.length ≤ sizeLine ∧ ∀ l, H l = none → Q (.ref l) (upd H l (.tup (signV x)))) := by
  intro pins s σ H xs us Q I r h
  obtain ⟨x, rfl, hz, q⟩ := h
  obtain ⟨u, rfl, t, rfl⟩ := vals1 r
  refine PySem.call_tuple_str (I.ok.hd hc) x t (fun h' tk acc kp ha => ?_) hz
  have hv := vals_signs ha
  have I1 : Inv X pins σ H { s with heap := h', toks := tk } := I.kept (t' := tk) kp
  have hlen : (signV x).length ≤ sizeLine := by
    rw [hv.length, Array.length_toList]
    have := ha.1
    rw [this]
    exact hz
  have I2 : Inv X pins σ (upd H h'.objs.size (.tup (signV x))) { s with heap := h'.push { cls := .type "tuple", data := .seq acc }, toks := tk } :=
    I1.laid (t' := tk) (fun b o e => Heap.get?_push_of_some _ e) (Nat.le_refl _) (show ObjOk X.prog X.w _ _ _ (.tup (signV x)) from ⟨hlen, acc.toList, hv, by simpa using IsTup.new _ _⟩)
  exact ⟨.ref h'.objs.size, _, I2, rfl, q _ (I1.hok.fresh (Nat.le_refl _))⟩
/-- text * k -/
theorem op_mul_text : OpR X (binaryOp .Mult) (fun x y H Q => ∃ (a : Str) (n : Int), x = .str a ∧ y = .int n ∧ MulOk a n ∧ Q (.str (Txt.mul a n)) H) := by
  intro pins s σ H x y v u Q I rx ry h
  obtain ⟨a, n, rfl, rfl, hz, q⟩ := h
  obtain ⟨t, rfl⟩ := rx
  obtain ⟨t', rfl⟩ := ry
  exact SB.mul hz fun t' k => ⟨.str _, H, I.tok _, ⟨_, rfl⟩, q⟩
end
theorem mulOk_small {a : Str} {n : Int} (h1 : 2 ≤ n) (h2 : n ≤ 1000) (ha : a.length ≤ 1000) : MulOk a n := by
  refine ⟨?_, fun _ _ => ?_, fun _ _ => ?_⟩
  · rw [Bool.or_eq_false_iff]
    exact ⟨decide_eq_false (by omega), decide_eq_false (by omega)⟩
  · have : (1000 : Int) ≤ (2 ^ 63 - 1) / n := by
      refine (Int.le_ediv_iff_mul_le (by omega)).mpr ?_
      have : (1000 : Int) * n ≤ 1000 * 1000 := Int.mul_le_mul_of_nonneg_left h2 (by decide)
      omega
    omega
  · unfold Builtin.Str.tooLong
    refine decide_eq_false ?_
    have h3 : a.length * n.toNat ≤ 1000 * 1000 := Nat.mul_le_mul ha (by omega)
    rw [sizeLine_eq]
    omega

/-! ### defs of the top, and what they promise -/
/-- the def st stands at the top under its name -/
def Def (K : PySem.W.Frag) (mg : Str → Option Value) (x qual : Str) (st : Stmt) (ps : List Str) : Prop :=
  ∃ (f : Addr) (fd : FuncData), Fun K x qual st f fd ∧ Binds K fd ps [] ∧ mg x = some (.ref f)
/-- the name x is a def that keeps the promise sp, by at most level k -/
def Cal (P : Program) (w : World) (K : PySem.W.Frag) (mg : Str → Option Value) (base : Heap) (k : Nat) (x : Str) (ps : List Str) (sp : Sp) : Prop :=
  ∃ (f : Addr) (fd : FuncData), FnOk P w K mg base CX0 k f fd ps sp ∧ PySem.W.keepIn K (.ref f) = true ∧ Binds K fd ps [] ∧ mg x = some (.ref f)
section
variable {P : Program} {w : World} {K : PySem.W.Frag} {mg : Str → Option Value} {base : Heap}
theorem Cal.mono {j k : Nat} {x : Str} {ps : List Str} {sp : Sp} (c : Cal P w K mg base j x ps sp) (h : j ≤ k) : Cal P w K mg base k x ps sp := by
  obtain ⟨f, fd, F, kp, b, g⟩ := c
  exact ⟨f, fd, F.mono h, kp, b, g⟩
theorem Cal.imp {k : Nat} {x : Str} {ps : List Str} {sp sp' : Sp} (c : Cal P w K mg base k x ps sp) (h : ∀ vs H Q E, sp' vs H Q E → sp vs H Q E) : Cal P w K mg base k x ps sp' := by
  obtain ⟨f, fd, F, kp, b, g⟩ := c
  exact ⟨f, fd, F.imp h, kp, b, g⟩
theorem Def.cal {x qual : Str} {st : Stmt} {ps : List Str} (d : Def K mg x qual st ps) {k : Nat} {sp : Sp} (h : ∀ f fd, Fun K x qual st f fd → FnOk P w K mg base CX0 k f fd ps sp) : Cal P w K mg base k x ps sp := by
  obtain ⟨f, fd, F, b, g⟩ := d
  exact ⟨f, fd, h f fd F, F.kp, b, g⟩
end
section
variable {X : Cx}
/-- f(..), without the empty list of defaults -/
def tCl (sp : Sp) (t : TA) : TE := fun σ H Q => t σ H fun vs H1 => sp vs H1 Q E0
theorem tCl_eq (sp : Sp) (t : TA) : tCall sp [] E0 t = tCl sp t := by
  funext σ H Q
  show t σ H _ = t σ H _
  congr 1
  funext vs H1
  rw [List.append_nil]
theorem pe_cal {x : Str} {ps : List Str} {sp : Sp} {k : Nat} {e : Expr} {es : List Expr} {t : TA} {p pos : Pos} (c : Cal X.prog X.w X.K X.mg X.base k x ps sp) (hr : Room k X.A) (hg : Gl X x) (h : PA X (e :: es) t)
    (hdb : (x == ("__debug__" : Str)) = false := by decide) (he : starEach (e :: es) X.env = (false, eval e X.env) :: starEach es X.env := by rfl) (hpl : (backTo pos (starEach es X.env)).any (·.1) = false := by rfl) :
    PE X (.Call (.Name x p) (e :: es) [] pos) (tCl sp t) := by
  obtain ⟨f, fd, F, kp, b, g⟩ := c
  rw [← tCl_eq]
  exact pe_call F hr hg g kp b .nil pass0 h hdb he hpl
theorem pe_cal0 {x : Str} {ps : List Str} {sp : Sp} {k : Nat} {p pos : Pos} (c : Cal X.prog X.w X.K X.mg X.base k x ps sp) (hr : Room k X.A) (hg : Gl X x)
    (hdb : (x == ("__debug__" : Str)) = false := by decide) : PE X (.Call (.Name x p) [] [] pos) (tCl sp tNil) := by
  obtain ⟨f, fd, F, kp, b, g⟩ := c
  rw [← tCl_eq]
  exact pe_call0 F hr hg g kp b .nil pass0 hdb
end
/-- a statement, then the rest, with a word between them: what follows is shown once -/
def tCut (t u : TS) : TS := fun D σ H => ∃ Mid : L2.St → Hp → Prop, t { D with nx := Mid } σ H ∧ ∀ σ' H', Mid σ' H' → u D σ' H'
section
variable {X : Cx}
theorem pss_cut {st : Stmt} {rest : List Stmt} {t u : TS} (h1 : PS X st t) (h2 : PSs X rest u) : PSs X (st :: rest) (tCut t u) := by
  refine ⟨fun pins s σ H D I h => ?_⟩
  obtain ⟨Mid, hm, hu⟩ := h
  refine wpAny_execs_cons (thn (h1.run pins s σ H { D with nx := Mid } I hm) fun f s1 q => ?_)
  cases f with
  | next =>
    obtain ⟨σ', H', I', q⟩ := q
    exact h2.run pins s1 σ' H' D I' (hu σ' H' q)
  | ret v => exact q
  | brk => exact q
  | cont => exact q
end
theorem sqL_ne {K : PySem.W.Frag} {H : Hp} {a d : Addr} {o : HO} {xs : List V} (n : a ≠ d) (h : SqL K H a xs) : SqL K (upd H d o) a xs := by
  rcases h with (h | ⟨u, h⟩) | h
  · exact .inl (.inl (by rw [upd_ne n]; exact h))
  · exact .inl (.inr ⟨u, by rw [upd_ne n]; exact h⟩)
  · exact .inr h
theorem sqT_ne {K : PySem.W.Frag} {H : Hp} {a d : Addr} {o : HO} {xs : List V} (n : a ≠ d) (h : SqT K H a xs) : SqT K (upd H d o) a xs := by
  rcases h with (h | ⟨u, h⟩) | h
  · exact .inl (.inl (by rw [upd_ne n]; exact h))
  · exact .inl (.inr ⟨u, by rw [upd_ne n]; exact h⟩)
  · exact .inr h
theorem atI_int {α : Type} {xs : List α} {r : Int} (h0 : 0 ≤ r) (h1 : r < xs.length) : ∃ v, v ∈ xs ∧ atI xs r = some v := by
  obtain ⟨k, rfl⟩ := Int.eq_ofNat_of_zero_le h0
  have hk : k < xs.length := by omega
  exact ⟨xs[k], List.getElem_mem hk, atI_nat (List.getElem?_eq_getElem hk)⟩
theorem signV_len (z : Str) : (signV z).length = z.length := by
  unfold signV
  rw [List.length_map, Array.length_toList]
  rfl
/-- for c in text -/
theorem for_str {x : Str} {g : TG} {tb : TS} {D : Ends} {σ : L2.St} {H : Hp} (Pv : Nat → L2.St → Hp → Prop) (h0 : Pv 0 σ H)
    (hs : ∀ (i c : Nat) (σ : L2.St) (H : Hp), x.cps.toList[i]? = some c → Pv i σ H → g (.str ⟨#[c]⟩) σ H fun σ2 H2 => tb { D with nx := Pv (i + 1), ct := Pv (i + 1), bk := D.nx } σ2 H2) (hd : ∀ σ H, Pv x.cps.size σ H → D.nx σ H) :
    ∃ W : Nat → Nat → L2.St → Hp → Prop, (∃ m, W 0 m σ H) ∧ ∀ i m σ H, W i m σ H →
      ((Its x).stop i H ∧ D.nx σ H) ∨ ((Its x).go i H ∧ ∃ N : L2.St → Hp → Prop, (∀ σ' H', N σ' H' → ∃ m', m' < m ∧ W (i + 1) m' σ' H') ∧ ∀ v H', (Its x).yld i H v H' → g v σ H' fun σ2 H2 => tb { D with nx := N, ct := N, bk := D.nx } σ2 H2) := by
  refine ⟨fun i m σ H => m = x.cps.size - i ∧ i ≤ x.cps.size ∧ Pv i σ H, ⟨x.cps.size, by simp, Nat.zero_le _, h0⟩, ?_⟩
  rintro i m σ H ⟨rfl, hi, p⟩
  by_cases hlt : i < x.cps.size
  · refine .inr ⟨hlt, Pv (i + 1), fun σ' H' p' => ⟨x.cps.size - (i + 1), by omega, rfl, hlt, p'⟩, fun v H' y => ?_⟩
    obtain ⟨e, c, hc, ev⟩ := y
    subst e ev
    exact hs i c σ _ (by simpa using hc) p
  · have e : i = x.cps.size := by omega
    subst e
    exact .inl ⟨Nat.le_refl _, hd σ H p⟩
theorem decI (a b : Int) : decide (V.int a = V.int b) = decide (a = b) := decide_eq_decide.mpr ⟨V.int.inj, fun e => e ▸ rfl⟩
theorem decS (a b : Str) : decide (V.str a = V.str b) = decide (a = b) := decide_eq_decide.mpr ⟨V.str.inj, fun e => e ▸ rfl⟩
theorem app_len (a b : Str) : (a ++ b).length = a.length + b.length := by
  show (a.cps ++ b.cps).size = _
  rw [Array.size_append]
  rfl
/-- texts of one sign each, joined by nothing -/
theorem join_one {e : Str} (he : e.length = 0) : ∀ zs : List Str, (∀ z ∈ zs, z.length = 1) → (Txt.join e zs).length = zs.length := by
  have key : ∀ zs : List Str, (∀ z ∈ zs, z.length = 1) → (Str.join e zs).length = zs.length := by
    intro zs
    induction zs with
    | nil => intro _; rfl
    | cons x r ih =>
      intro h
      cases r with
      | nil => exact h x (List.mem_cons_self ..)
      | cons y r =>
        show (x ++ e ++ Str.join e (y :: r)).length = _
        rw [app_len, app_len, he, ih fun z hz => h z (List.mem_cons_of_mem _ hz), h x (List.mem_cons_self ..), List.length_cons (a := x)]
        omega
  intro zs h
  rw [TL.join_eq]
  exact key zs h
theorem sum_ones : ∀ zs : List Str, (∀ z ∈ zs, z.length = 1) → (zs.map (·.length)).sum = zs.length
  | [], _ => rfl
  | x :: r, h => by
    rw [List.map_cons, List.sum_cons, sum_ones r fun z hz => h z (List.mem_cons_of_mem _ hz), h x (List.mem_cons_self ..), List.length_cons]
    omega
theorem mul_len {a : Str} {n : Int} (h1 : 2 ≤ n) (ha : 1 ≤ a.length) : (Txt.mul a n).length = a.length * n.toNat := by
  unfold Txt.mul
  rw [if_neg (by omega)]
  have e1 : (n == 1) = false := by rw [beq_eq_false_iff_ne]; omega
  have e2 : (a.length == 0) = false := by rw [beq_eq_false_iff_ne]; omega
  rw [e1, e2, if_neg (by decide)]
  have key : ∀ (k : Nat) (acc : Array Nat), ((List.replicate k a.cps).foldl (· ++ ·) acc).size = acc.size + k * a.cps.size := by
    intro k
    induction k with
    | zero => intro acc; show acc.size = _; omega
    | succ k ih =>
      intro acc
      rw [List.replicate_succ, List.foldl_cons, ih, Array.size_append, Nat.succ_mul]
      omega
  show ((List.replicate n.toNat a.cps).foldl (· ++ ·) #[]).size = a.cps.size * n.toNat
  rw [key, Nat.mul_comm]
  show 0 + _ = _
  omega
theorem same_at {H H' : Hp} {p : Addr} {o : HO} (n : H p = none) (s : Same H H') : Same H (upd H' p o) := fun b u e => by
  rw [upd_ne (ne_of_none e n)]
  exact s b u e
theorem same_new {H H' : Hp} {p : Addr} {o : HO} (s : Same H H') (n : H' p = none) : Same H (upd H' p o) := same_at (s.free n) s
theorem sqT_same {K : PySem.W.Frag} {H H' : Hp} {a : Addr} {xs : List V} (e : Same H H') (h : SqT K H a xs) : SqT K H' a xs := by
  rcases h with (h | ⟨o, h⟩) | h
  · exact .inl (.inl (e _ _ h))
  · exact .inl (.inr ⟨o, e _ _ h⟩)
  · exact .inr h
theorem small_line {n : Nat} (h : n ≤ 100000) : n < sizeLine := Nat.lt_of_le_of_lt h (by decide)
theorem take_snoc {α : Type} {l : List α} {i : Nat} {x : α} (h : l[i]? = some x) : l.take (i + 1) = l.take i ++ [x] := by
  rw [List.take_add_one, h]
  rfl
/-- the three numbers of some dice -/
def DiceAt (H : Hp) (d : Addr) : Prop := ∃ x b c : Int, H d = some (.lst [.int x, .int b, .int c])
end Gx

set_option maxRecDepth 100000
set_option maxHeartbeats 4000000
namespace Mx
open PySem PySem.Spec PyProof.Rows L2 Gx
/-! ### names: the mathematics -/
def isLow (c : Nat) : Bool := decide (97 ≤ c ∧ c ≤ 122)
/-- whether a text is a name -/
def nameB (z : Str) : Bool := (decide (1 ≤ z.cps.size) && decide (z.cps.size ≤ 8)) && z.cps.toList.all isLow
theorem low_facts : ∀ c, c < 128 → (isLow c = true → Unicode.isAlpha c = true ∧ Unicode.isLower c = true ∧ Unicode.isUpper c = false ∧ Unicode.isTitle c = false) ∧ (Unicode.isAlpha c = true → Unicode.isUpper c = false → isLow c = true) := by decide +kernel
theorem isLow_lt {c : Nat} (h : isLow c = true) : c < 128 := by
  have := of_decide_eq_true h
  omega
/-- what is_name reckons of a text -/
theorem name_by (z : Str) (h1 : 1 ≤ z.cps.size) : (Txt.isascii z && (Txt.isalpha z && Txt.islower z)) = z.cps.toList.all isLow := by
  have hl : z.length = z.cps.size := rfl
  unfold Txt.isascii Txt.isalpha Txt.islower
  rw [Bool.eq_iff_iff]
  simp only [Bool.and_eq_true, Array.all_eq_true', Array.any_eq_true', List.all_eq_true, decide_eq_true_eq, Bool.not_eq_true', Array.any_eq_false', Bool.or_eq_true, not_or, Bool.not_eq_true, Array.mem_toList_iff, hl]
  constructor
  · rintro ⟨ha, ⟨_, hb⟩, _, hd⟩ c hc
    exact (low_facts c (ha c hc)).2 (hb c hc) (hd c hc).1
  · intro h
    have f := fun c hc => (low_facts c (isLow_lt (h c hc))).1 (h c hc)
    refine ⟨fun c hc => isLow_lt (h c hc), ⟨h1, fun c hc => (f c hc).1⟩, ⟨z.cps[0], Array.getElem_mem (by omega), (f _ (Array.getElem_mem (by omega))).2.1⟩, fun c hc => ⟨(f c hc).2.2.1, (f c hc).2.2.2⟩⟩
/-! ### counts -/
def abcL : List Nat := [97,98,99,100,101,102,103,104,105,106,107,108,109,110,111,112,113,114,115,116,117,118,119,120,121,122]
theorem count_cnt (x : Str) (c : Nat) : Txt.count x ⟨#[c]⟩ = cnt c x.cps.toList := count_is x c
theorem one_sum (n : Nat) : ∀ L : List Nat, L.Nodup → (L.map fun c => if n = c then (1 : Int) else 0).sum = if n ∈ L then 1 else 0
  | [], _ => rfl
  | a :: L, h => by
    obtain ⟨h1, h2⟩ := List.nodup_cons.mp h
    rw [List.map_cons, List.sum_cons, one_sum n L h2]
    by_cases e : n = a
    · subst e
      rw [if_pos rfl, if_neg h1, if_pos (List.mem_cons_self ..)]
      rfl
    · rw [if_neg e]
      by_cases m : n ∈ L
      · rw [if_pos m, if_pos (List.mem_cons_of_mem _ m)]; rfl
      · rw [if_neg m, if_neg (by
          rw [List.mem_cons]
          rintro (z | z)
          · exact e z
          · exact m z)]; rfl
theorem cnt_sum (L : List Nat) (hL : L.Nodup) : ∀ l : List Nat, (L.map fun c => cnt c l).sum = (l.countP (fun n => decide (n ∈ L)) : Nat)
  | [] => by
    have : ∀ L : List Nat, (L.map fun c => cnt c []).sum = 0 := fun L => by
      induction L with
      | nil => rfl
      | cons a L ih => rw [List.map_cons, List.sum_cons, ih]; rfl
    rw [this]
    rfl
  | n :: r => by
    have h : ∀ L : List Nat, (L.map fun c => cnt c (n :: r)).sum = (L.map fun c => if n = c then (1 : Int) else 0).sum + (L.map fun c => cnt c r).sum := fun L => by
      induction L with
      | nil => rfl
      | cons a L ih => rw [List.map_cons, List.sum_cons, ih, cnt_cons, List.map_cons, List.sum_cons, List.map_cons, List.sum_cons]; omega
    rw [h, one_sum n L hL, cnt_sum L hL r, List.countP_cons]
    by_cases m : n ∈ L
    · rw [if_pos m, if_pos (decide_eq_true m)]; omega
    · rw [if_neg m, if_neg (by rw [decide_eq_false m]; decide)]; omega
theorem mem_abc (n : Nat) : n ∈ abcL ↔ isLow n = true := by
  unfold isLow
  rw [decide_eq_true_eq]
  constructor
  · intro h
    have : ∀ n ∈ abcL, 97 ≤ n ∧ n ≤ 122 := by decide
    exact this n h
  · intro h
    have : ∀ n, n < 123 → 97 ≤ n → n ∈ abcL := by decide
    exact this n (by omega) h.1
/-- all letters' counts together -/
def known (z : Str) (L : List Nat) : Int := (L.map fun c => Txt.count z ⟨#[c]⟩).sum
theorem known_eq (z : Str) : known z abcL = (z.cps.toList.countP isLow : Nat) := by
  unfold known
  have e : (abcL.map fun c => Txt.count z ⟨#[c]⟩) = abcL.map fun c => cnt c z.cps.toList := List.map_congr_left fun c _ => count_cnt z c
  rw [e, cnt_sum abcL (by decide)]
  congr 2
  funext n
  rw [Bool.eq_iff_iff, decide_eq_true_eq, mem_abc]
theorem due_eq (z : Str) : (decide (known z abcL = (z.cps.size : Int)) && (decide ((0 : Int) < known z abcL) && decide (known z abcL < 9))) = nameB z := by
  rw [known_eq]
  unfold nameB
  have hz : z.cps.size = z.cps.toList.length := by simp
  have hle := List.countP_le_length (p := isLow) (l := z.cps.toList)
  by_cases h : z.cps.toList.countP isLow = z.cps.toList.length
  · have ha : z.cps.toList.all isLow = true := by
      rw [List.all_eq_true]
      exact List.countP_eq_length.mp h
    rw [ha, h, hz]
    generalize z.cps.toList.length = n
    rw [Bool.and_true, decide_eq_true (show (n : Int) = (n : Int) from rfl), Bool.true_and]
    have e1 : decide ((0 : Int) < (n : Int)) = decide (1 ≤ n) := decide_eq_decide.mpr (by omega)
    have e2 : decide ((n : Int) < 9) = decide (n ≤ 8) := decide_eq_decide.mpr (by omega)
    rw [e1, e2]
  · have ha : z.cps.toList.all isLow = false := by
      rw [Bool.eq_false_iff]
      intro q
      rw [List.all_eq_true] at q
      exact h (List.countP_eq_length.mpr q)
    rw [ha, Bool.and_false, decide_eq_false (by omega), Bool.false_and]
theorem known_step (z : Str) {L : List Nat} {i c : Nat} (h : L[i]? = some c) : known z (L.take (i + 1)) = known z (L.take i) + Txt.count z ⟨#[c]⟩ := by
  unfold known
  have e : (L.map fun c => Txt.count z ⟨#[c]⟩)[i]? = some (Txt.count z ⟨#[c]⟩) := by rw [List.getElem?_map, h]; rfl
  rw [List.map_take, List.map_take, sum_take e]
end Mx

set_option maxRecDepth 100000
set_option maxHeartbeats 4000000
namespace Gx
open PySem PySem.Spec PyProof.Rows L2
/-! ### promises that hold where no repr is under way -/
/-- no repr is under way -/
abbrev Gd (A : Around) : Prop := A.guards = some []
structure FnG (P : Program) (w : World) (K : PySem.W.Frag) (mg : Str → Option Value) (base : Heap) (CX : CXT) (k : Nat) (f : Addr) (fd : FuncData) (ps : List Str) (sp : Sp) : Prop where
  len : ∀ vs H Q E, sp vs H Q E → vs.length = ps.length
  run : ∀ (A : Around) (outer : List Env) (s : Shared) (H : Hp) (args : Args) (us : List Value) (vs : List V) (Q : VK) (E : XK),
    Gd A → Room k A → Env0 P w K mg base A outer s H → BindsTo s fd args (ps.zip us) → Vals vs us → sp vs H Q E →
      codeAny (model P w) A (.call (.ref f) args) (CR CX outer P w H s Q E) s
section
variable {P : Program} {w : World} {K : PySem.W.Frag} {mg : Str → Option Value} {base : Heap} {CX : CXT} {k : Nat} {f : Addr} {fd : FuncData} {ps : List Str} {sp : Sp}
theorem fnG_of (F : FnOk P w K mg base CX k f fd ps sp) : FnG P w K mg base CX k f fd ps sp := ⟨F.len, fun A outer s H args us vs Q E _ => F.run A outer s H args us vs Q E⟩
theorem FnG.up {j : Nat} (F : FnG P w K mg base CX j f fd ps sp) (h : j ≤ k) : FnG P w K mg base CX k f fd ps sp :=
  ⟨F.len, fun A outer s H args us vs Q E g hr => F.run A outer s H args us vs Q E g (hr.mono h)⟩
theorem FnG.less {sp' : Sp} (F : FnG P w K mg base CX k f fd ps sp) (h : ∀ vs H Q E, sp' vs H Q E → sp vs H Q E) : FnG P w K mg base CX k f fd ps sp' :=
  ⟨fun vs H Q E q => F.len vs H Q E (h vs H Q E q), fun A outer s H args us vs Q E g hr he hb hv hs => F.run A outer s H args us vs Q E g hr he hb hv (h vs H Q E hs)⟩
end
/-- a def by its body, where no repr is under way -/
theorem fnG_body {CX : CXT} {P : Program} {w : World} {K : PySem.W.Frag} {mg : Str → Option Value} {base : Heap} {k : Nat} {f : Addr} {nm ql : Str} {prm : Arguments} {bd : List Stmt} {sc : Scope}
    {dv kv dc pm cd ct oc : Value} {an od : Option Addr} {sl : Array (Option Value)} {N ps : List Str} {sp : Sp}
    (look : K.lookup f = some ⟨oc, od, .func (PySem.W.fnOf nm ql prm bd sc dv kv dc pm an cd ct), sl⟩) (hcode : PySem.W.codeIn K cd ql = true) (S : FnScope N ps sc)
    (hlen : ∀ vs H Q E, sp vs H Q E → vs.length = ps.length)
    (hb : ∀ (A : Around) (outer : List Env) (s : Shared) (H : Hp) (vs : List V) (Q : VK) (E : XK), Gd A → Room k (A.deeper (envOfC ql sc s.heap.objs.size f cd)) → sp vs H Q E →
      ∃ t, PSs (cxOf CX P w K mg base N ql sc f cd A outer s H E) bd t ∧ t { nx := fun _ H' => Q .non H', rt := Q } (start N vs) H) :
    FnG P w K mg base CX (k + 1) f (PySem.W.fnOf nm ql prm bd sc dv kv dc pm an cd ct) ps sp := by
  constructor
  · exact hlen
  · intro A outer s H args us vs Q E g room env bind rel want
    have inS : K.In s.heap := env.mod.kin.keeps fun b o e => (env.bs b o e).1
    have noLim : s.heap.NoLimit := env.mod.nolimit.keeps fun b o e => (env.bs b o e).1
    have kinds : ∀ y ∈ ps.zip us, sc.names.lookup y.1 = some .local ∨ (sc.names.lookup y.1 = some .cell ∧ ((cellsFrom (s.heap.objs.size + 1) sc.names []).lookup y.1).isSome = true) := by
      rintro ⟨n, v⟩ hy
      rcases S.par n (List.of_mem_zip hy).1 with q | q
      · exact Or.inl q
      · exact Or.inr ⟨q, PySem.W.cellsFrom_some _ _ _ (Or.inl q)⟩
    refine codeAny_call_function room.depth (inS _ _ look) rfl S.co S.gen rfl (PySem.W.codeRec_of inS hcode)
      (bind _ _ _ _ (wpAny_newFunctionEnv_cells S.kind kinds fun env' he s1 made => ?_))
    subst he
    refine ⟨noLim.keeps made.toInCall.keep, codeAny_func ?_⟩
    obtain ⟨t, ht, hq⟩ := hb A outer s H vs Q E g (room.deeper _) want
    have I0 := inv_start (CX := CX) (E := E) (N := N) S room.hd env (hlen _ _ _ _ want) rel made
    refine wpAny_mono (ht.run [] s1 (start N vs) H _ I0 hq) ?_ (fun e s' hs => hs)
    intro fl s' hs
    cases fl with
    | brk =>
      obtain ⟨_, _, _, no⟩ := hs
      exact no.elim
    | cont =>
      obtain ⟨_, _, _, no⟩ := hs
      exact no.elim
    | next =>
      obtain ⟨σ', H', J, q⟩ := hs
      exact ⟨V.non, H', J.os, J.bare, J.base, J.hok, rfl, q⟩
    | ret u =>
      obtain ⟨v, σ', H', J, rv, q⟩ := hs
      exact ⟨v, H', J.os, J.bare, J.base, J.hok, rv, q⟩
section
variable {P : Program} {w : World} {K : PySem.W.Frag} {mg : Str → Option Value} {base : Heap}
/-- .. of the text -/
theorem okG {x qual : Str} {st : Stmt} {f : Addr} {fd : FuncData} {N ps : List Str} {k : Nat} {sp : Sp} (F : Fun K x qual st f fd) (S : FnScope N ps (defScope st)) (hlen : ∀ vs H Q E, sp vs H Q E → vs.length = ps.length)
    (hb : ∀ (cdv : Value) (A : Around) (outer : List Env) (s : Shared) (H : Hp) (vs : List V) (Q : VK) (E : XK), Gd (A.deeper (envOfC qual (defScope st) s.heap.objs.size f cdv)) → Room k (A.deeper (envOfC qual (defScope st) s.heap.objs.size f cdv)) → sp vs H Q E →
      ∃ t, PSs (cxOf CX0 P w K mg base N qual (defScope st) f cdv A outer s H E).nox (defBody st) t ∧ t { nx := fun _ H' => Q .non H', rt := Q } (start N vs) H) : FnG P w K mg base CX0 (k + 1) f fd ps sp := by
  obtain ⟨oc, od, kV, doc, pm, an, cdv, ct, osl, rfl, lk, hcd⟩ := F.ex
  refine fnG_body lk hcd S hlen fun A outer s H vs Q E g hr want => ?_
  obtain ⟨t, h, q⟩ := hb cdv A outer s H vs Q E g hr want
  exact ⟨t, h.nox, q⟩
/-- .. which may raise -/
theorem okGX {x qual : Str} {st : Stmt} {f : Addr} {fd : FuncData} {N ps : List Str} {k : Nat} {sp : Sp} (F : Fun K x qual st f fd) (S : FnScope N ps (defScope st)) (hlen : ∀ vs H Q E, sp vs H Q E → vs.length = ps.length) {CX : CXT}
    (hb : ∀ (cdv : Value) (A : Around) (outer : List Env) (s : Shared) (H : Hp) (vs : List V) (Q : VK) (E : XK), Gd (A.deeper (envOfC qual (defScope st) s.heap.objs.size f cdv)) → Room k (A.deeper (envOfC qual (defScope st) s.heap.objs.size f cdv)) → sp vs H Q E →
      ∃ t, PSs (cxOf CX P w K mg base N qual (defScope st) f cdv A outer s H E) (defBody st) t ∧ t { nx := fun _ H' => Q .non H', rt := Q } (start N vs) H) : FnG P w K mg base CX (k + 1) f fd ps sp := by
  obtain ⟨oc, od, kV, doc, pm, an, cdv, ct, osl, rfl, lk, hcd⟩ := F.ex
  exact fnG_body lk hcd S hlen fun A outer s H vs Q E g hr want => hb cdv A outer s H vs Q E g hr want
/-- the name x is a def that keeps the promise sp where no repr is under way -/
def CalG (P : Program) (w : World) (K : PySem.W.Frag) (mg : Str → Option Value) (base : Heap) (k : Nat) (x : Str) (ps : List Str) (sp : Sp) : Prop :=
  ∃ (f : Addr) (fd : FuncData), FnG P w K mg base CX0 k f fd ps sp ∧ PySem.W.keepIn K (.ref f) = true ∧ Binds K fd ps [] ∧ mg x = some (.ref f)
theorem Cal.g {k : Nat} {x : Str} {ps : List Str} {sp : Sp} (c : Cal P w K mg base k x ps sp) : CalG P w K mg base k x ps sp := by
  obtain ⟨f, fd, F, r⟩ := c
  exact ⟨f, fd, fnG_of F, r⟩
theorem CalG.up {j k : Nat} {x : Str} {ps : List Str} {sp : Sp} (c : CalG P w K mg base j x ps sp) (h : j ≤ k) : CalG P w K mg base k x ps sp := by
  obtain ⟨f, fd, F, r⟩ := c
  exact ⟨f, fd, F.up h, r⟩
theorem Def.calG {x qual : Str} {st : Stmt} {ps : List Str} (d : Def K mg x qual st ps) {k : Nat} {sp : Sp} (h : ∀ f fd, Fun K x qual st f fd → FnG P w K mg base CX0 k f fd ps sp) : CalG P w K mg base k x ps sp := by
  obtain ⟨f, fd, F, b, g⟩ := d
  exact ⟨f, fd, h f fd F, F.kp, b, g⟩
end
section
variable {X : Cx}
/-- the callee runs -/
theorem runG {CX : CXT} {k : Nat} {f : Addr} {fd : FuncData} {ps : List Str} {sp : Sp} {E : XK} {ds : List Value} {dvs : List V} {pins : List (Addr × Obj)} {σ : L2.St} {H : Hp} {s : Shared} {Q : VK} {us : List Value} {vs : List V}
    (F : FnG X.prog X.w X.K X.mg X.base CX k f fd ps sp) (g : Gd X.A) (room : Room k X.A) (hb : Binds X.K fd ps ds) (hd : Vals dvs ds) (hx : Passes CX X E)
    (I : Inv X pins σ H s) (r : Vals vs us) (want : sp (vs ++ dvs) H Q E) : wpAny (model X.prog X.w) X.A (call (.ref f) us) (EP X pins σ Q) X.xe s := by
  have rel := r.append hd
  have hl : (us ++ ds).length = ps.length := rel.length.symm.trans (F.len _ _ _ _ want)
  have hc := F.run X.A X.stack s H ⟨us, []⟩ (us ++ ds) (vs ++ dvs) Q E g room I.env0 (hb s us I.kIn hl) rel want
  refine wpAny_call (codeAny_mono hc ?_)
  intro res s' hres
  match res, hres with
  | .error e, hres => exact hx pins σ H s e s' I hres
  | .ok (.ret u), hres => exact I.after hres
theorem pe_calG {x : Str} {ps : List Str} {sp : Sp} {k : Nat} {e : Expr} {es : List Expr} {t : TA} {p pos : Pos} (c : CalG X.prog X.w X.K X.mg X.base k x ps sp) (g : Gd X.A) (room : Room k X.A) (hg : Gl X x) (h : PA X (e :: es) t)
    (hdb : (x == ("__debug__" : Str)) = false := by decide) (hst : starEach (e :: es) X.env = (false, eval e X.env) :: starEach es X.env := by rfl) (hpl : (backTo pos (starEach es X.env)).any (·.1) = false := by rfl) :
    PE X (.Call (.Name x p) (e :: es) [] pos) (tCl sp t) := by
  obtain ⟨f, fd, F, kp, b, hm⟩ := c
  rw [← tCl_eq]
  refine ⟨fun pins s σ H Q I want => wpAny_Call_Name_kw (ld_glob I hg hm ?_ hdb)⟩
  exact PySem.W.callWith_K (h₀ := X.base) I.ok.mod.kin kp (thn (h.run pos pins s σ H _ I want) fun us s1 ⟨vs, H1, I1, r, q⟩ => ⟨I1.kIn, runG F g room b .nil pass0 I1 r q⟩) hst hpl
theorem pe_calG0 {x : Str} {ps : List Str} {sp : Sp} {k : Nat} {p pos : Pos} (c : CalG X.prog X.w X.K X.mg X.base k x ps sp) (g : Gd X.A) (room : Room k X.A) (hg : Gl X x)
    (hdb : (x == ("__debug__" : Str)) = false := by decide) : PE X (.Call (.Name x p) [] [] pos) (tCl sp tNil) := by
  obtain ⟨f, fd, F, kp, b, hm⟩ := c
  rw [← tCl_eq]
  exact ⟨fun pins s σ H Q I want => wpAny_Call_Name_kw (ld_glob I hg hm (PySem.W.callWith_K0 I.kIn kp (runG (us := []) F g room b .nil pass0 I .nil want)) hdb)⟩
end
/-! ### repr of data -/
theorem repr_ref {prog : Program} {w : World} {A : Around} {E : Value → Shared → Prop} {s : Shared} {Q : Value → Shared → Prop} {a : Addr} {d : PyData} {as : List Addr}
    (r : Reads s.heap (.ref a) d as) (hs : d.showable = true) (hsm : d.hasDict = true → sysModules ∉ as) (hsz : d.shown.length ≤ sizeLine) (g : Gd A) (hu : A.units + 1 + d.depth < cLine)
    (h : ∀ h' u tk, (∀ b o, s.heap.get? b = some o → h'.get? b = some o) → Q (.str d.shown u) { s with heap := h', toks := tk }) : wpAny (model prog w) A (call (.builtin "repr") [.ref a]) Q E s := by
  obtain ⟨T, idr, B⟩ := showsBy_of_reads (prog := prog) (w := w) r hs hsm hsz
  have hT := B.typeIs s fun _ _ e => e
  refine Calls.call_function_entry F.kind_repr F.plain_repr F.entry_repr (F.args_repr1 _) ?_
  unfold Builtin.«repr»
  refine wpAny_bind (m := oneArg "repr" _) (wpAny_pure ?_)
  refine wpAny_bind (wpAny_cRoomFor (by show A.units + 1 < cLine; omega) ?_)
  refine wpAny_bind (wpAny_specialOf (name := Str.ofString "__repr__") hT B.slotRepr.lookup ?_)
  refine wpAny_bind (m := callSpecialIfBound? (.ref a) (Str.ofString "__repr__")) (wpAny_callSpecialIfBound?_slotG (name := Str.ofString "__repr__") hT B.slotRepr (B.call _ _ s _ g (by show A.units + 1 + _ < cLine; omega) (fun _ _ e => e) fun h' u tk hk => ?_))
  refine wpAny_bind (wpAny_isInstance (T := "str") (b := true) rfl isSubtype_str_str ?_)
  exact wpAny_pure ⟨_, rfl, h h' u tk hk⟩
section
variable {X : Cx}
/-- repr(x), x data without dicts -/
def rRepr (K : PySem.W.Frag) : List V → Hp → VK → Prop := fun xs H Q => ∃ (x : V) (d : PyData), xs = [x] ∧ Dp K H x d ∧ d.showable = true ∧ d.hasDict = false ∧ d.depth ≤ 60 ∧ d.shown.length ≤ sizeLine ∧ Q (.str d.shown) H
theorem call_reprD (g : Gd X.A) (hu : X.A.units + 64 < cLine) : CallR X (.builtin "repr") (rRepr X.K) := by
  intro pins s σ H xs us Q I r h
  obtain ⟨x, d, rfl, hd, h1, h2, h3, h4, q⟩ := h
  obtain ⟨u, rfl, rx⟩ := vals1 r
  obtain ⟨as, hr⟩ := Dp.reads I d x u hd rx
  cases hr with
  | none => simp only [PyData.shown] at q; exact PySem.P.repr_of_none ⟨.str _, H, I.tok _, ⟨_, rfl⟩, q⟩
  | bool b => simp only [PyData.shown] at q; exact PySem.P.repr_of_bool ⟨.str _, H, I.tok _, ⟨_, rfl⟩, q⟩
  | int i t => simp only [PyData.shown] at q; exact PySem.P.repr_of_int (by simpa [PyData.showable] using h1) ⟨.str _, H, I.tok _, ⟨_, rfl⟩, q⟩
  | str y t => simp only [PyData.shown] at q h4; exact PySem.P.repr_of_str ⟨.str _, H, I.tok _, ⟨_, rfl⟩, q⟩ h4
  | list e1 e2 e3 e4 =>
    exact repr_ref (.list e1 e2 e3 e4) h1 (fun e => by rw [h2] at e; cases e) h4 g (by omega) fun h' u tk hk => ⟨.str _, H, I.kept (t' := tk) hk, ⟨_, rfl⟩, q⟩
  | tuple e1 e2 e3 e4 =>
    exact repr_ref (.tuple e1 e2 e3 e4) h1 (fun e => by rw [h2] at e; cases e) h4 g (by omega) fun h' u tk hk => ⟨.str _, H, I.kept (t' := tk) hk, ⟨_, rfl⟩, q⟩
  | dict e1 e2 e3 e4 e5 =>
    exact repr_ref (.dict e1 e2 e3 e4 e5) h1 (fun e => by rw [h2] at e; cases e) h4 g (by omega) fun h' u tk hk => ⟨.str _, H, I.kept (t' := tk) hk, ⟨_, rfl⟩, q⟩
end
/-! ### sorted of a tuple of texts -/
section
variable {X : Cx}
def rSortedTS (K : PySem.W.Frag) : List V → Hp → VK → Prop := fun vs H Q => ∃ (a : Addr) (xs : List Str), vs = [V.ref a] ∧ SqT K H a (xs.map V.str) ∧ xs.length ≤ 100000 ∧
  ∀ (ys : List Str) (p : Addr), ys.Perm xs → sortedS ys = true → H p = none → Q (.ref p) (upd H p (.lst (ys.map V.str)))
theorem cr_sortedTS : CallR X (.builtin "sorted") (rSortedTS X.K) := by
  intro pins s σ H vs us Q I r h
  obtain ⟨a, xs, rfl, ht, hz, q⟩ := h
  obtain ⟨its, rv, ⟨o, ho, hc, n, hd⟩, _⟩ := I.tuple ht
  rw [Vals.ref1 r]
  have hln : xs.length = its.length := by
    have e := rv.length
    rw [List.length_map] at e
    exact e
  have hS : StrsAre its xs := rv.strs
  have hL : its.length ≤ sizeLine := Nat.le_trans (by omega) (show 100000 ≤ sizeLine by decide)
  refine Calls.call_function_entry kind_sorted plain_sorted entry_sorted (args_sorted1 _) ?_
  unfold Builtin.«sorted»
  refine wpAny_bind (m := checkCount "sorted" 1 1 _) (wpAny_pure ?_)
  refine wpAny_bind (wpAny_collect_seq a (.inr rfl) ho hc hd (fun h' hk => ?_) (by rw [List.size_toArray]; exact hL))
  have I1 : Inv _ pins σ H { s with heap := h' } := I.kept (t' := s.toks) hk
  rw [List.toList_toArray]
  refine wpAny_bind (wpAny_newList ?_ hL)
  have hoL : (h'.push (seqObj "list" its.toArray 0)).get? h'.objs.size = some (seqObj "list" its.toArray 0) := Heap.get?_push_size _ rfl
  show wpAny _ _ _ _ _ { s with heap := h'.push (seqObj "list" its.toArray 0) }
  refine wpAny_bind (wpAny_holding (wpAny_call_entry slot_list_sort ⟨_, hoL, rfl⟩ entry_list_sort
    (list_sort_treeKAny strKind_oneLt (s := { s with heap := h'.push (seqObj "list" its.toArray 0) }) hoL hS.keysOf (fun v₁ v₂ rest e => keyKind_strs (by rw [← e]; exact hS)) hL fun st' hp hs => ⟨_, rfl, ?_⟩) (args_list_sort _)))
  obtain ⟨ys, g1, g2, g3⟩ := sorted_out_str hS hp hs
  obtain ⟨e', he'⟩ := sortedHeap_at (vs := its) (out := (arrOf st').map (·.2)) hoL
  have hlen : (ys.map V.str).length ≤ sizeLine := by
    rw [List.length_map, g2.length_eq, hln]
    exact hL
  refine wpAny_pure ⟨_, rfl, .ref h'.objs.size, upd H h'.objs.size (.lst (ys.map V.str)), I1.laid (t' := s.toks) (fun b u e => ?_) (Nat.le_refl _)
    (show ObjOk X.prog X.w _ _ _ (.lst (ys.map V.str)) from ⟨hlen, ((arrOf st').map (·.2)).toList, e', vals_of_strs g1, by rw [Array.toArray_toList]; exact he'⟩), rfl, q ys _ g2 g3 (I1.hok.fresh (Nat.le_refl _))⟩
  have hb : b < h'.objs.size := Heap.lt_size e
  rw [sortedHeap_old (Nat.ne_of_lt hb) (by rw [size_push']; exact Nat.lt_succ_of_lt hb)]
  exact Heap.get?_push_of_some _ e
end
/-! ### the end of a law whose promise holds where no repr is under way -/
/-- the abstract heap at the law's call: the script alone, if the module does not own it -/
def H00 (a : Addr) (o : Obj) (ns : List Int) (own : Bool) : Hp := fun b => if own = false ∧ b = a then some (.frz o (.lst (ns.map V.int))) else none
theorem h00_none {a b : Addr} {o : Obj} {ns : List Int} {own : Bool} (h : own = true ∨ b ≠ a) : H00 a o ns own b = none := by
  unfold H00
  rw [if_neg]
  rintro ⟨h1, h2⟩
  rcases h with h | h
  · rw [h1] at h; cases h
  · exact h h2
theorem h00_some {a b : Addr} {o : Obj} {ns : List Int} {own : Bool} {u : HO} (h : H00 a o ns own b = some u) : own = false ∧ b = a ∧ u = .frz o (.lst (ns.map V.int)) := by
  unfold H00 at h
  by_cases c : own = false ∧ b = a
  · rw [if_pos c] at h
    exact ⟨c.1, c.2, (Option.some.inj h).symm⟩
  · rw [if_neg c] at h
    cases h
theorem lawG {P : Program} {w : World} {K : PySem.W.Frag} {mg mb : Str → Option Value} {CX : CXT} {k : Nat} {fa a : Addr} {fd : FuncData} {x : Str} {sp : Sp} {t : Shared} {vs : List Value} {ns : List Int}
    (inK : K.In t.heap) (glob : t.heap.Ns mainGlobals mg) (blt : t.heap.Ns builtinsNs mb) (boot : ∀ y : Str, y ≠ "__name__" → mb y = bootBuiltins y) (noLim : t.heap.NoLimit) (gens : t.gens = #[])
    (scr : t.heap.get? a = some { cls := .type "list", data := .seq vs.toArray }) (hints : IntsAre vs ns) (short : ns.length ≤ sizeLine) (room : Room k callerA)
    (F : ∀ base : Heap, K.In base → base.Ns mainGlobals mg → FnG P w K mg base CX k fa fd [x] sp) (bind : ∀ (s : Shared) (u : Value), BindsTo s fd ⟨[u], []⟩ [(x, u)])
    (want : ∀ H : Hp, Only H → SqL K H a (ns.map V.int) → sp [.ref a] H (fun v _ => v = .bl true) fun _ _ _ => False)
    (noErr : ∀ H e s', CX [] H t (fun _ _ _ => False) e s' → False) :
    codeAny (model P w) callerA (.call (.ref fa) ⟨[.ref a], []⟩) (fun r s' => r = .ok (.ret (.bool true)) ∧ OldK t.heap s'.heap ∧ s'.os = t.os ∧ AllBare s'.gens) t := by
  have hv : Vals (ns.map V.int) vs := vals_ints hints
  have hlv : vs.length = ns.length := hints.length
  -- does the module own the script?
  obtain ⟨own, hown⟩ : ∃ own : Bool, own = (K.lookup a).isSome := ⟨_, rfl⟩
  let o : Obj := { cls := .type "list", data := .seq vs.toArray }
  have hOk : HOk P w (H00 a o ns own) t.heap := by
    intro b u e
    obtain ⟨_, rfl, rfl⟩ := h00_some e
    exact ⟨scr, by rw [List.length_map]; exact short, vs, _, hv, scr⟩
  have keepT : ∀ {b : Addr} {ob : Obj}, t.heap.get? b = some ob → own = true ∨ b ≠ a → (hidT t.heap (H00 a o ns own)).get? b = some ob := fun e n => hidT_get e (h00_none n)
  have notScr : ∀ {b : Addr} {m : Str → Option Value}, t.heap.Ns b m → b ≠ a := by
    rintro b m ⟨ob, es, ep, e, dd, _⟩ rfl
    rw [scr] at e
    cases e
    cases dd
  have nsKeep : ∀ {b : Addr} {m : Str → Option Value}, t.heap.Ns b m → (hidT t.heap (H00 a o ns own)).Ns b m := by
    intro b m n
    have ne := notScr n
    obtain ⟨ob, es, ep, e, r⟩ := n
    exact ⟨ob, es, ep, keepT e (.inr ne), r⟩
  have inK' : K.In (hidT t.heap (H00 a o ns own)) := by
    intro b ob e
    refine keepT (inK b ob e) ?_
    by_cases hb : b = a
    · subst hb
      left
      rw [hown, e]
      rfl
    · exact .inr hb
  have noLim' : (hidT t.heap (H00 a o ns own)).NoLimit := by
    obtain ⟨mc, h1, h2⟩ := noLim
    exact ⟨mc, nsKeep h1, h2⟩
  have env : Env0 P w K mg (hidT t.heap (H00 a o ns own)) callerA [] t (H00 a o ns own) := by
    refine ⟨rfl, ⟨inK', nsKeep glob, ⟨mb, nsKeep blt, boot⟩, noLim'⟩, fun b ob e => of_hidT e, Nat.le_of_eq (hidT_size _ _), trivial, ?_, hOk, .of_eq gens⟩
    intro b hb
    exact absurd (show b ∈ ([] : List Addr) from hb) List.not_mem_nil
  have only : Only (H00 a o ns own) := by
    intro b
    cases e : H00 a o ns own b with
    | none => exact .inl rfl
    | some u =>
      obtain ⟨_, _, rfl⟩ := h00_some e
      exact .inr ⟨_, _, rfl⟩
  have hS : SqL K (H00 a o ns own) a (ns.map V.int) := by
    cases own with
    | false => exact .inl (.inr ⟨o, by unfold H00; rw [if_pos ⟨rfl, rfl⟩]⟩)
    | true =>
      obtain ⟨ob, e⟩ := Option.isSome_iff_exists.mp hown.symm
      have e2 := inK a ob e
      rw [scr] at e2
      cases e2
      exact .inr ⟨_, vs.toArray, _, e, rfl, rfl, rfl, by rw [List.size_toArray, hlv]; exact short, by simpa using hv⟩
  have runs := (F _ inK' (nsKeep glob)).run callerA [] t (H00 a o ns own) ⟨[.ref a], []⟩ [.ref a] [.ref a] _ _ rfl room env (bind t (.ref a)) (.cons rfl .nil) (want _ only hS)
  refine codeAny_mono runs ?_
  intro res s' hres
  match res, hres with
  | .error e, hres => exact (noErr _ e s' hres).elim
  | .ok (.ret u), hres =>
    obtain ⟨v, H', hos, bare, un, ok', rel, rfl⟩ := hres
    obtain rfl : u = Value.bool true := rel
    refine ⟨rfl, OldK.of_keep fun b ob e => ?_, hos, bare⟩
    cases q : H00 a o ns own b with
    | none => exact un.keep b ob e q (fun z => absurd (show b ∈ ([] : List Addr) from z) List.not_mem_nil) List.not_mem_nil
    | some u =>
      obtain ⟨_, _, rfl⟩ := h00_some q
      have q' := un.frzs b _ _ q
      have e1 := (hOk b _ q).1
      rw [e] at e1
      cases e1
      exact (ok' b _ q').1
/-- what k_head leaves -/
theorem walkG {l : PySem.W.OpenLaw} {n k : Nat} {q : Program} {loose : List Str} {XP : (Str → Option Value) → Heap → Prop} {YP : World → Heap → Prop} {d : DefRec} {K : Params → PySem.W.Frag} {CX : World → CXT} {sp : World → Sp} {x : Str}
    (most : l.most = some n) (small : n ≤ sizeLine) (plain : d.params.defaults = []) (room : Room k callerA) (hY : ∀ (w : World) (h : Heap), YP w h → (K w.params).In h)
    (F : ∀ (w : World) (mg : Str → Option Value) (fa : Addr) (h : Heap), (K w.params).In h → h.Ns mainGlobals mg → mg d.name = some (.ref fa) →
      ∃ fd : FuncData, (∀ (s : Shared) (u : Value), BindsTo s fd ⟨[u], []⟩ [(x, u)]) ∧ ∀ base : Heap, (K w.params).In base → base.Ns mainGlobals mg → FnG l.prog w (K w.params) mg base (CX w) k fa fd [x] (sp w))
    (want : ∀ (w : World) (H : Hp) (a : Addr) (ns : List Int), ns.length ≤ n → Only H → SqL (K w.params) H a (ns.map V.int) → sp w [.ref a] H (fun v _ => v = .bl true) fun _ _ _ => False)
    (noErr : ∀ (w : World) (H : Hp) (s : Shared) (e : Value) (s' : Shared), CX w [] H s (fun _ _ _ => False) e s' → False) :
    PySem.W.WalkO q loose XP YP l.row.toRowW d [] (fun f vs => PySem.call f vs) := by
  refine Att.attach_call most plain fun w s₀ t mg mb fa o pm cd doc a vs ns G Y ho hd hcd hmg scr hints hlen gens => ?_
  obtain ⟨fd, bind, body⟩ := F w mg fa _ (hY w _ Y) G.T.g hmg
  exact lawG (hY w _ Y) G.T.g G.T.b G.T.builtins G.T.nolimit gens scr hints (Nat.le_trans hlen small) room body bind (fun H hO hS => want w H a ns hlen hO hS) fun H e s' => noErr w H t e s'
end Gx

set_option maxRecDepth 100000
set_option maxHeartbeats 4000000
namespace Gx
open PySem PySem.Spec PySem.W PySem.Calls Builtin Builtin.ObjectAttr
section
variable {prog : Program} {w : World} {A : Around} {R : Result → Shared → Prop} {hp : Heap} {g : Array GenState} {d : Drawn} {t : Nat} {os : OsState} {K : Frag}
/-- the first field of an own exception, over any built-in base -/
theorem exc_storeX {B : String} {bmB : List Value} {name : Str} {tk : Tok} {v : Value} {x C t0 : Addr} (SF : StoreFacts B bmB "object.__setattr__" "object")
    (inK : K.In hp) (hx : hp.get? x = some (excObj C t0 none .none)) (over : excOver K C bmB = true) (noTake : takerIn K C name = some none) (hasD : hasDictIn K C = true)
    (hq : ∀ (h' : Heap) (tk' : Nat) (dx : Addr), (∀ b o, b ≠ x → hp.get? b = some o → h'.get? b = some o) → hp.objs.size ≤ dx → dx ≠ x → h'.get? x = some (excObj C t0 (some dx) .none) →
      h'.Ns1 dx (fun y => if y = name then some v else none) → R (.ok (.ret .none)) ⟨h', g, d, tk', os⟩) :
    codeAny (model prog w) A (.call (.builtin "object.__setattr__") ⟨[.ref x, .str name tk, v], []⟩) R ⟨hp, g, d, t, os⟩ := by
  have xs : x ≠ hp.objs.size := Nat.ne_of_lt (Heap.lt_size hx)
  refine osa_openX (s := ⟨hp, g, d, t, os⟩) (od := none) SF inK ⟨hx, rfl, rfl, trivial⟩ over noTake fun b => ?_
  obtain ⟨cd, hc, hd⟩ := any_some hasD
  refine wpAny_bind (wpAny_pure (wpAny_bind (instanceDict_exc (s := ⟨hp, g, d, t, os⟩) hx (looks_clsIn inK hc) hd ?_)))
  show wpAny _ _ (storeInDict hp.objs.size (.str name tk) name v) _ _ _
  have hx1 : (hp.push (dictOf [] 0)).get? x = some (excObj C t0 none .none) := Heap.get?_push_of_some _ hx
  refine PySem.HandSPX.store_in_new ⟨_, #[], _, (Heap.get?_update_ne _ _ _ _ xs.symm).trans (Heap.get?_push_at rfl rfl), rfl, fun e he => absurd he (by simp), fun _ => rfl⟩ fun h' tk' hn hs => ?_
  refine hq h' tk' hp.objs.size (fun b o hb ho => ?_) (Nat.le_refl _) xs.symm ((hs.2 x xs).trans (Heap.get?_update_self _ hx1 rfl)) hn
  have bl : b ≠ hp.objs.size := Nat.ne_of_lt (Heap.lt_size ho)
  exact (hs.2 b bl).trans ((Heap.get?_update_ne _ _ _ _ hb).trans (Heap.get?_push_of_some _ ho))
end
end Gx
namespace Gx
open PySem PySem.Spec PySem.W PySem.Calls PyProof.Rows L2
/-! ### own exceptions with one field: class cn(B): def __init__(self, fld): self.fld = fld -/
/-- what the written part says of the class -/
structure XTxt (K : Frag) (mg : Str → Option Value) (cn fld : Str) (newId : String) (bmB : List Value) (C fI : Addr) : Prop where
  gC : mg cn = some (.ref C)
  cls : ∃ nm q N bs bm sn sub ab col dd k0 k1 k2 k3 k5, K.lookup C = some (excClassObj nm q C N bs bm true sn sub ab col dd k0 k1 k2 k3 k5 newId) ∧ excTail bmB bm = true
  over : excOver K C bmB = true
  tak : takerIn K C fld = some none
  hdC : hasDictIn K C = true
  sa : findIn K (.ref C) "__setattr__" = some (some (.builtin "object.__setattr__"))
  ga : findIn K (.ref C) "__getattribute__" = some (some (.builtin "BaseException.__getattribute__"))
  gg : findIn K (.ref C) "__getattr__" = some none
  noN : findIn K (.ref C) fld = some none
  iC : findIn K (.ref C) "__init__" = some (some (.ref fI))
  tC : typeIn K (.ref fI) = some (.type "function")
  kC : keepIn K (.ref C) = true
  exC : subIn K (.ref C) (.type "BaseException") = some true
  tyC : typeIn K (.ref C) = some (.type "type")
  te : exmOne K (.ref C) (.ref C) = some true
/-- what __init__ leaves of a new exception at x -/
structure XInit (h h' : Heap) (x C dx t0 : Addr) (fld : Str) (v : Value) : Prop where
  keep : ∀ b o, b ≠ x → h.get? b = some o → h'.get? b = some o
  obj : h'.get? x = some (excObj C t0 (some dx) .none)
  big : h.objs.size ≤ dx
  ne : dx ≠ x
  ns : h'.Ns1 dx (fun y => if y = fld then some v else none)
/-- __init__ stores the field -/
def InitDoes (K : Frag) (C fI : Addr) (fld : Str) : Prop := ∀ (prog : Program) (w : World) (A : Around) (R : Result → Shared → Prop) (s : Shared) (x t0 : Addr) (v : Value),
  K.In s.heap → s.heap.NoLimit → s.heap.get? x = some (excObj C t0 none .none) → K.lookup x = none → A.depth < recursionLimit →
  (∀ h' tk dx, XInit s.heap h' x C dx t0 fld v → R (.ok (.ret .none)) { s with heap := h', toks := tk }) → codeAny (model prog w) A (.call (.ref fI) ⟨[.ref x, v], []⟩) R s
/-- such an exception, made -/
structure XMade (h h' : Heap) (e C d : Addr) (fld : Str) (v : Value) : Prop where
  keep : ∀ b o, h.get? b = some o → h'.get? b = some o
  new : h.objs.size ≤ e
  obj : ∃ oe vs, h'.get? e = some oe ∧ oe.cls = .ref C ∧ oe.dict = some d ∧ oe.data = .fields vs ∧ vs[1]? = some .none
  big : h.objs.size ≤ d
  ne : d ≠ e
  ns : h'.Ns1 d (fun y => if y = fld then some v else none)
theorem one_line (v : Value) : [v].length ≤ sizeLine := by
  show 1 ≤ sizeLine
  decide
section
variable {prog : Program} {w : World} {A : Around} {R : Result → Shared → Prop} {s : Shared} {K : Frag} {mg : Str → Option Value} {C fI : Addr} {cn fld : Str} {B newId initId : String} {bmB : List Value}
theorem x_made (FB : ExcBaseFacts B newId initId bmB) (T : XTxt K mg cn fld newId bmB C fI) (D : InitDoes K C fI fld) {v : Value} (inK : K.In s.heap) (lim : s.heap.NoLimit) (room : A.depth + 1 < recursionLimit)
    (hq : ∀ h' tk e d, XMade s.heap h' e C d fld v → R (.ok (.ret (.ref e))) { s with heap := h', toks := tk }) : codeAny (model prog w) A (.call (.ref C) ⟨[v], []⟩) R s := by
  obtain ⟨nm, q, N, bs, bm, sn, sub, ab, col, dd, k0, k1, k2, k3, k5, hC, tail⟩ := T.cls
  obtain ⟨hp, g, dr, tk, os⟩ := s
  have stay : ∀ b o, hp.get? b = some o → ((hp.push (kdv_tup [v])).push (excObj C hp.objs.size none .none)).get? b = some o := fun b o e => Heap.get?_push_of_some _ (Heap.get?_push_of_some _ e)
  have there : ((hp.push (kdv_tup [v])).push (excObj C hp.objs.size none .none)).get? (hp.objs.size + 1) = some (excObj C hp.objs.size none .none) := by heap_get
  have fresh : K.lookup (hp.objs.size + 1) = none := by
    cases e : K.lookup (hp.objs.size + 1) with
    | none => rfl
    | some o => exact absurd (Nat.lt_of_succ_lt (Heap.lt_size (inK _ _ e))) (Nat.lt_irrefl _)
  refine PySem.HandSPX.call_own FB (fun Y => excTail_contains Y bm tail) (inK _ _ hC) (looks_findIn inK T.iC) (fun self => bind_fn inK self T.tC) (one_line v) ?_
  refine D prog w _ _ ⟨(hp.push (kdv_tup [v])).push (excObj C hp.objs.size none .none), g, dr, tk, os⟩ _ _ v (inK.keeps stay) (lim.keeps stay) there fresh room fun h' tk' dx M => ?_
  have old : ∀ b o, hp.get? b = some o → h'.get? b = some o := fun b o e => M.keep b o (Nat.ne_of_lt (Nat.lt_succ_of_lt (Heap.lt_size e))) (stay b o e)
  have z : hp.objs.size + 1 + 1 ≤ dx := by
    have q := M.big
    first
      | exact q
      | simpa only [Heap.size_push] using q
  exact ⟨rfl, hq h' tk' (hp.objs.size + 1) dx ⟨old, Nat.le_succ _, ⟨_, _, M.obj, rfl, rfl, rfl, rfl⟩, Nat.le_trans (Nat.le_trans (Nat.le_succ _) (Nat.le_succ _)) z, M.ne, M.ns⟩⟩
end
theorem relO_one {fld : Str} {v : V} {u : Value} (r : RelV v u) (f : Str) : RelO (List.lookup f [(fld, v)]) (if f = fld then some u else none) := by
  by_cases e : f = fld
  · subst e
    rw [if_pos rfl, show List.lookup f [(f, v)] = some v by simp [List.lookup]]
    exact r
  · have q : (f == fld) = false := by simpa using e
    rw [if_neg e, show List.lookup f [(fld, v)] = none by simp [List.lookup, q]]
    trivial
section
variable {X : Cx} {C fI : Addr} {cn fld : Str} {B newId initId : String} {bmB : List Value}
/-- cn(e) -/
def tMkX (C : Addr) (fld : Str) (ta : TA) : L2.St → Hp → XK → Prop := fun σ H Q => ta σ H fun vs H1 => ∃ v, vs = [v] ∧ ∀ d, H1 d = none → Q (.ref C) (some d) (upd H1 d (.xd [(fld, v)]))
theorem pmk_x {a : Expr} {ta : TA} {p pos : Pos} {k : Nat} (FB : ExcBaseFacts B newId initId bmB) (T : XTxt X.K X.mg cn fld newId bmB C fI) (D : InitDoes X.K C fI fld) (room : Room k X.A) (ha : PA X [a] ta) (hg : Gl X cn)
    (hdb : (cn == ("__debug__" : Str)) = false := by decide) (hst : starEach (a :: []) X.env = (false, eval a X.env) :: starEach [] X.env := by rfl) (hpl : (backTo pos (starEach [] X.env)).any (·.1) = false := by rfl) :
    PMk X (.Call (.Name cn p) [a] [] pos) (tMkX C fld ta) := by
  intro pins s σ H Q I h
  refine wpAny_Call_Name_kw (ld_glob I hg T.gC ?_ hdb)
  refine PySem.W.callWith_K (h₀ := X.base) I.ok.mod.kin T.kC (thn (ha.run pos pins s σ H _ I h) ?_) hst hpl
  rintro us s1 ⟨vs, H1, I1, r1, v, rfl, q1⟩
  refine ⟨I1.kIn, ?_⟩
  obtain ⟨u, rfl, rv⟩ := vals1 r1
  show wpAny _ _ (call (.ref C) [u]) _ _ _
  have lim := I1.nolimit
  obtain ⟨hp, g, dr, tk, os⟩ := s1
  refine wpAny_call (x_made FB T D I1.kIn lim (by have := room.dp; omega) fun h' tk' e d M => ?_)
  show MkP X pins σ Q (.ref e) ⟨h', g, dr, tk', os⟩
  obtain ⟨oe, fv, hoe, hc, hd, hdat, h1⟩ := M.obj
  obtain ⟨G', g1, g2⟩ := restrict h' fun b => decide (b ≠ e)
  have off : ∀ b, b ≠ e → G'.get? b = h'.get? b := fun b hb => g1 b (decide_eq_true hb)
  have gone : G'.get? e = none := g2 e (by simp)
  have old : ∀ b o, hp.get? b = some o → G'.get? b = some o := fun b o q => (off b (Nat.ne_of_lt (Nat.lt_of_lt_of_le (Heap.lt_size q) M.new))).trans (M.keep b o q)
  have ob : ObjOk X.prog X.w (upd H1 d (.xd [(fld, v)])) G' d (.xd [(fld, v)]) := ⟨_, M.ns.at (fun o q => (off d M.ne).trans q), fun f => relO_one rv f⟩
  have J : Inv X pins σ (upd H1 d (.xd [(fld, v)])) ⟨G', g, dr, tk', os⟩ := I1.laid (t' := tk') old M.big ob
  refine ⟨e, oe, fv, ⟨G', g, dr, tk', os⟩, _, .ref C, some d, rfl, J, ?_, gone, hoe, ⟨hc, hd⟩, hdat, h1, ?_, rfl, I1.bare, raises_own T.exC T.tyC, q1 d (I1.hok.fresh M.big)⟩
  · intro b o q
    have q' : G'.get? b = some o := q
    by_cases hb : b = e
    · rw [hb, gone] at q'
      cases q'
    · exact (off b hb).symm.trans q
  · rw [upd_ne (Ne.symm M.ne)]
    exact I1.hok.fresh M.new
/-- raise cn(e) -/
def tRaiseX (C : Addr) (fld : Str) (W : WX) (ta : TA) : TS := fun _ σ H => tMkX C fld ta σ H fun cls d H' => W cls d σ H'
theorem ps_raiseX {a : Expr} {ta : TA} {W : WX} {p pos pos2 : Pos} {k : Nat} (hc : X.calm = true) (FB : ExcBaseFacts B newId initId bmB) (T : XTxt X.K X.mg cn fld newId bmB C fI) (D : InitDoes X.K C fI fld) (room : Room k X.A) (tk : Takes X W) (ha : PA X [a] ta) (hg : Gl X cn)
    (hdb : (cn == ("__debug__" : Str)) = false := by decide) (hst : starEach (a :: []) X.env = (false, eval a X.env) :: starEach [] X.env := by rfl) (hpl : (backTo pos (starEach [] X.env)).any (·.1) = false := by rfl) :
    PS X (.Raise (some (.Call (.Name cn p) [a] [] pos)) none pos2) (tRaiseX C fld W ta) := ps_raise hc tk (pmk_x FB T D room ha hg hdb hst hpl)
/-- e.fld, e the exception that the suite holds (at a; its class cls, its dict d) -/
def tByX (C : Addr) (fld : Str) (a : Addr) (cls : Value) (d : Option Addr) (te : TE) : TE := fun σ H Q => te σ H fun x H1 => x = .ref a ∧ cls = .ref C ∧ ∃ (dd : Addr) (v : V), d = some dd ∧ H1 dd = some (.xd [(fld, v)]) ∧ Q v H1
theorem pe_byX {a : Addr} {oe : Obj} {cls : Value} {d : Option Addr} {pn : List (Addr × Obj)} {e : Expr} {te : TE} {pos : Pos} (T : XTxt X.K X.mg cn fld newId bmB C fI) (hz : Zc cls d oe) (hf : ∃ vs, oe.data = .fields vs) (he : PE (X.suite a ((a, oe) :: pn)) e te)
    (hb : attributeBase e fld X.env (eval e X.env) = eval e X.env := by rfl) : PE (X.suite a ((a, oe) :: pn)) (.Attribute e fld pos) (tByX C fld a cls d te) := by
  constructor
  intro pins s σ H Q I h
  refine attr_of hb (thn (he.run pins s σ H _ I h) ?_)
  rintro u s1 ⟨x, H1, I1, rx, rfl, rfl, dd, v, rfl, ea, q⟩
  obtain rfl : u = Value.ref a := rx
  obtain ⟨here, _⟩ := I1.pin (a, oe) (List.mem_append_left _ List.mem_cons_self)
  obtain ⟨vs, hd⟩ := hf
  obtain ⟨mA, hns, hr⟩ := (show ObjOk X.prog X.w H1 s1.heap dd (.xd [(fld, v)]) from I1.hok dd _ ea)
  obtain ⟨od, ho, hl⟩ := lookIn_ns hns
  have l : List.lookup fld [(fld, v)] = some v := by simp [List.lookup]
  have hrf := hr fld
  rw [l] at hrf
  obtain ⟨u, hu, ru⟩ := RelO.some_of (v := v) (o := mA fld) hrf
  have J : PySem.W.InstAt s1.heap a oe C (some od) := ⟨here, hz.1, by unfold PySem.W.notCls; rw [hd] <;> rfl, by rw [hz.2]; exact ho⟩
  exact HandSPX.exc_get I1.kIn J T.ga T.gg T.exC (PySem.W.findObj_own T.hdC T.noN rfl (by rw [hl, hu])) (handed_of ru) ⟨v, H1, I1.tok _, ru, q⟩
end
end Gx
namespace Gx
open PySem PySem.Spec PySem.Calls PyProof.Rows L2
/-! ### calls of defs that may raise, also with keywords, where no repr is under way -/
section
variable {P : Program} {w : World} {K : PySem.W.Frag} {mg : Str → Option Value} {base : Heap}
theorem FnG.toX {k : Nat} {f : Addr} {fd : FuncData} {ps : List Str} {sp : Sp} (F : FnG P w K mg base CX0 k f fd ps sp) : FnG P w K mg base (L2.CX P w) k f fd ps sp := by
  refine ⟨F.len, fun A outer s H args us vs Q E g hr he hb hv hs => codeAny_mono (F.run A outer s H args us vs Q E g hr he hb hv hs) ?_⟩
  intro r s' h
  match r, h with
  | .error e, h => exact h.elim
  | .ok (.ret u), h => exact h
/-- the name x is a def that keeps sp, and may raise -/
def CalX (P : Program) (w : World) (K : PySem.W.Frag) (mg : Str → Option Value) (base : Heap) (k : Nat) (x : Str) (ps : List Str) (sp : Sp) : Prop :=
  ∃ (f : Addr) (fd : FuncData), FnG P w K mg base (L2.CX P w) k f fd ps sp ∧ PySem.W.keepIn K (.ref f) = true ∧ Binds K fd ps [] ∧ mg x = some (.ref f)
theorem CalX.up {j k : Nat} {x : Str} {ps : List Str} {sp : Sp} (c : CalX P w K mg base j x ps sp) (h : j ≤ k) : CalX P w K mg base k x ps sp := by
  obtain ⟨f, fd, F, r⟩ := c
  exact ⟨f, fd, F.up h, r⟩
theorem CalG.toX {k : Nat} {x : Str} {ps : List Str} {sp : Sp} (c : CalG P w K mg base k x ps sp) : CalX P w K mg base k x ps sp := by
  obtain ⟨f, fd, F, r⟩ := c
  exact ⟨f, fd, F.toX, r⟩
theorem Def.calX {x qual : Str} {st : Stmt} {ps : List Str} (d : Def K mg x qual st ps) {k : Nat} {sp : Sp} (h : ∀ f fd, Fun K x qual st f fd → FnG P w K mg base (L2.CX P w) k f fd ps sp) : CalX P w K mg base k x ps sp := by
  obtain ⟨f, fd, F, b, g⟩ := d
  exact ⟨f, fd, h f fd F, F.kp, b, g⟩
/-- .. called with n values by position and keywords ks; gV puts them in the parameters' order -/
def CalK (P : Program) (w : World) (K : PySem.W.Frag) (mg : Str → Option Value) (base : Heap) (k : Nat) (x : Str) (ps : List Str) (n : Nat) (ks : List Str) (gV : List V → List V → List V) (sp : Sp) : Prop :=
  ∃ (f : Addr) (fd : FuncData) (g : List Value → List Value → List Value), FnG P w K mg base (L2.CX P w) k f fd ps sp ∧ PySem.W.keepIn K (.ref f) = true ∧ KBn K fd ps n ks g gV ∧ mg x = some (.ref f)
theorem CalK.up {j k n : Nat} {x : Str} {ps ks : List Str} {gV : List V → List V → List V} {sp : Sp} (c : CalK P w K mg base j x ps n ks gV sp) (h : j ≤ k) : CalK P w K mg base k x ps n ks gV sp := by
  obtain ⟨f, fd, g, F, r⟩ := c
  exact ⟨f, fd, g, F.up h, r⟩
/-- the top's def with keyword-only parameters and no defaults -/
def DefK (K : PySem.W.Frag) (mg : Str → Option Value) (x qual : Str) (st : Stmt) (ps : List Str) (n : Nat) (ks : List Str) : Prop :=
  ∃ (f : Addr) (fd : FuncData), Fun K x qual st f fd ∧ KBn K fd ps n ks (fun us ws => us ++ ws) (fun vs zs => vs ++ zs) ∧ mg x = some (.ref f)
theorem DefK.calK {x qual : Str} {st : Stmt} {ps ks : List Str} {n : Nat} (d : DefK K mg x qual st ps n ks) {k : Nat} {sp : Sp} (h : ∀ f fd, Fun K x qual st f fd → FnG P w K mg base (L2.CX P w) k f fd ps sp) : CalK P w K mg base k x ps n ks (fun vs zs => vs ++ zs) sp := by
  obtain ⟨f, fd, F, b, g⟩ := d
  exact ⟨f, fd, _, h f fd F, F.kp, b, g⟩
theorem kbn_of {fd : FuncData} {ps ks : List Str} {n : Nat} (h : ∀ us ws : List Value, us.length = n → ws.length = ks.length → bindArgs fd ⟨us, ks.zip ws⟩ = pure (ps.zip (us ++ ws))) : KBn K fd ps n ks (fun us ws => us ++ ws) (fun vs zs => vs ++ zs) :=
  ⟨fun s us ws _ h1 h2 => .of_eq (h us ws h1 h2), fun r1 r2 => r1.append r2⟩
end
section
variable {X : Cx}
/-- nothing is raised -/
theorem neverAt (σ : L2.St) : PassesAt (L2.CX X.prog X.w) X σ ((fun _ => E0) σ) := by
  rintro pins H s e s' I ⟨a, B, H', cls, d, _, _, _, _, _, _, _, no⟩
  exact no.elim
theorem runX {k : Nat} {f : Addr} {fd : FuncData} {ps : List Str} {sp : Sp} {E : L2.St → XK} {args : Args} {pins : List (Addr × Obj)} {σ : L2.St} {H : Hp} {s : Shared} {Q : VK} {us : List Value} {vs : List V}
    (F : FnG X.prog X.w X.K X.mg X.base (L2.CX X.prog X.w) k f fd ps sp) (g : Gd X.A) (room : Room k X.A) (hb : BindsTo s fd args (ps.zip us)) (hx : PassesAt (L2.CX X.prog X.w) X σ (E σ))
    (I : Inv X pins σ H s) (r : Vals vs us) (want : sp vs H Q (E σ)) : wpAny (model X.prog X.w) X.A (call (.ref f) args.pos args.kw) (EP X pins σ Q) X.xe s := by
  have hc := F.run X.A X.stack s H args us vs Q (E σ) g room I.env0 hb r want
  refine wpAny_call (codeAny_mono hc ?_)
  intro res s' hres
  match res, hres with
  | .error e, hres => exact hx pins H s e s' I hres
  | .ok (.ret u), hres => exact I.after hres
def tClX (sp : Sp) (E : L2.St → XK) (t : TA) : TE := fun σ H Q => t σ H fun vs H1 => sp vs H1 Q (E σ)
theorem pe_calX {x : Str} {ps : List Str} {sp : Sp} {k : Nat} {e : Expr} {es : List Expr} {t : TA} {E : L2.St → XK} {p pos : Pos} (c : CalX X.prog X.w X.K X.mg X.base k x ps sp) (g : Gd X.A) (room : Room k X.A) (hg : Gl X x) (hx : ∀ σ, PassesAt (L2.CX X.prog X.w) X σ (E σ)) (h : PA X (e :: es) t)
    (hdb : (x == ("__debug__" : Str)) = false := by decide) (hst : starEach (e :: es) X.env = (false, eval e X.env) :: starEach es X.env := by rfl) (hpl : (backTo pos (starEach es X.env)).any (·.1) = false := by rfl) :
    PE X (.Call (.Name x p) (e :: es) [] pos) (tClX sp E t) := by
  obtain ⟨f, fd, F, kp, b, hm⟩ := c
  refine ⟨fun pins s σ H Q I want => wpAny_Call_Name_kw (ld_glob I hg hm ?_ hdb)⟩
  refine PySem.W.callWith_K (h₀ := X.base) I.ok.mod.kin kp (thn (h.run pos pins s σ H _ I want) fun us s1 ⟨vs, H1, I1, r, q⟩ => ⟨I1.kIn, ?_⟩) hst hpl
  have hl : us.length = ps.length := r.length.symm.trans (F.len _ _ _ _ q)
  have b1 := b s1 us I1.kIn (by rw [List.append_nil]; exact hl)
  rw [List.append_nil] at b1
  exact runX (args := ⟨us, []⟩) F g room b1 (hx σ) I1 r q
def tClK (n m : Nat) (sp : Sp) (gV : List V → List V → List V) (E : L2.St → XK) (t tk : TA) : TE := fun σ H Q => t σ H fun vs H1 => tk σ H1 fun zs H2 => vs.length = n ∧ zs.length = m ∧ sp (gV vs zs) H2 Q (E σ)
theorem pe_calK {x : Str} {ps ks : List Str} {n : Nat} {gV : List V → List V → List V} {sp : Sp} {k : Nat} {e : Expr} {es : List Expr} {kws : List Keyword} {t tk : TA} {E : L2.St → XK} {p pos : Pos} (c : CalK X.prog X.w X.K X.mg X.base k x ps n ks gV sp) (g : Gd X.A) (room : Room k X.A) (hg : Gl X x)
    (hx : ∀ σ, PassesAt (L2.CX X.prog X.w) X σ (E σ)) (h : PA X (e :: es) t) (hk : PK X kws tk) (hall : (backToKw pos (keywordEach kws X.env)).all (·.1.isSome) = true := by rfl) (hks : (backToKw pos (keywordEach kws X.env)).filterMap (·.1) = ks := by rfl)
    (hdb : (x == ("__debug__" : Str)) = false := by decide) (hst : starEach (e :: es) X.env = (false, eval e X.env) :: starEach es X.env := by rfl)
    (hpl : ((backTo pos (starEach (e :: es) X.env)).any (·.1) || (backToKw pos (keywordEach kws X.env)).any (·.1.isNone)) = false := by rfl) :
    PE X (.Call (.Name x p) (e :: es) kws pos) (tClK n ks.length sp gV E t tk) := by
  obtain ⟨f, fd, gg, F, kp, b, hm⟩ := c
  refine ⟨fun pins s σ H Q I want => wpAny_Call_Name_kw (ld_glob I hg hm ?_ hdb)⟩
  refine PySem.W.callWith_KW (h₀ := X.base) I.ok.mod.kin kp hall (thn (h.run pos pins s σ H _ I want) ?_) hpl hst
  rintro us s1 ⟨vs, H1, I1, r, q⟩
  refine thn (hk.run pos pins s1 σ H1 _ I1 q) ?_
  rintro ws s2 ⟨zs, H2, I2, rz, l1, l2, q2⟩
  refine ⟨I2.kIn, ?_⟩
  rw [hks]
  exact runX (args := ⟨us, ks.zip ws⟩) F g room (b.to s2 us ws I2.kIn (r.length.symm.trans l1) (rz.length.symm.trans l2)) (hx σ) I2 (b.rel r rz) q2
end
end Gx

set_option maxRecDepth 100000
set_option maxHeartbeats 4000000
namespace Mx
open PySem PySem.Spec PyProof.Rows L2 Gx
/-! ### the order of texts -/
/-- a is not behind b -/
def leS (a b : Str) : Prop := ¬ b.cps.toList < a.cps.toList
theorem leS_iff (a b : Str) : leS a b ↔ ltCps b.cps.toList a.cps.toList = false := by
  rw [ltCps_eq, decide_eq_false_iff_not]
  exact Iff.rfl
theorem leS_anti {a b : Str} (h1 : leS a b) (h2 : leS b a) : a = b := by
  have e : a.cps.toList = b.cps.toList := List.le_antisymm (as := a.cps.toList) (bs := b.cps.toList) h1 h2
  cases a
  cases b
  simp only [Str.mk.injEq]
  exact Array.toList_inj.mp e
theorem leS_refl (a : Str) : leS a a := List.lt_irrefl _
theorem leS_trans {a b c : Str} (h1 : leS a b) (h2 : leS b c) : leS a c :=
  List.le_trans (l₁ := a.cps.toList) (l₂ := b.cps.toList) (l₃ := c.cps.toList) h1 h2
theorem leS_total (a b : Str) : leS a b ∨ leS b a := List.le_total a.cps.toList b.cps.toList
theorem risingS_iff : ∀ (l : List Str) (p : Str), risingS p l = true ↔ (p :: l).Pairwise leS
  | [], p => by simp [risingS]
  | x :: r, p => by
    rw [risingS, Bool.and_eq_true, risingS_iff r x, Bool.not_eq_true', ← leS_iff]
    constructor
    · rintro ⟨h1, h2⟩
      refine List.pairwise_cons.mpr ⟨fun y hy => ?_, h2⟩
      rcases List.mem_cons.mp hy with rfl | hy
      · exact h1
      · exact leS_trans h1 ((List.pairwise_cons.mp h2).1 y hy)
    · intro h
      obtain ⟨h1, h2⟩ := List.pairwise_cons.mp h
      exact ⟨h1 x (List.mem_cons_self ..), h2⟩
theorem sortedS_iff (l : List Str) : sortedS l = true ↔ l.Pairwise leS := by
  cases l with
  | nil => simp [sortedS]
  | cons x r => exact risingS_iff r x
theorem sortedS_unique {l m : List Str} (h : l.Perm m) (hl : sortedS l = true) (hm : sortedS m = true) : l = m :=
  List.Perm.eq_of_pairwise (fun _ _ _ _ => leS_anti) ((sortedS_iff l).mp hl) ((sortedS_iff m).mp hm) h
/-- a list of texts is what sorting makes of it just if it is sorted -/
theorem eq_sorted_iff {l m : List Str} (h : m.Perm l) (hm : sortedS m = true) : decide (l = m) = sortedS l := by
  cases e : sortedS l with
  | true => exact decide_eq_true (sortedS_unique h.symm e hm)
  | false => exact decide_eq_false fun q => by rw [q, hm] at e; cases e
/-! ### data of texts -/
def tD (xs : List Str) : List PyData := xs.map PyData.str
theorem eqv_texts : ∀ xs ys : List Str, PyData.eqvAll (tD xs) (tD ys) = decide (xs = ys)
  | [], [] => by simp [tD, PyData.eqvAll]
  | [], y :: ys => by simp [tD, PyData.eqvAll]
  | x :: xs, [] => by simp [tD, PyData.eqvAll]
  | x :: xs, y :: ys => by
    have ih := eqv_texts xs ys
    unfold tD at ih ⊢
    rw [List.map_cons, List.map_cons, PyData.eqvAll, ih, PyData.eqv]
    by_cases h : x = y
    · subst h
      by_cases h2 : xs = ys
      · subst h2
        simp
      · rw [decide_eq_false h2, Bool.and_false, decide_eq_false fun q => h2 (List.cons.inj q).2]
    · rw [decide_eq_false fun q => h (List.cons.inj q).1, beq_eq_false_iff_ne.mpr h, Bool.false_and]
theorem dp_texts {K : PySem.W.Frag} {H : Hp} : ∀ xs : List Str, DpAll K H (xs.map V.str) (tD xs)
  | [] => .nil
  | x :: xs => .cons (.str x) (dp_texts xs)
theorem canLay_texts : ∀ xs : List Str, (∀ x ∈ xs, PyData.strOk x = true) → PyData.canLayAll0 (tD xs) = true
  | [], _ => by simp [tD, PyData.canLayAll0]
  | x :: xs, h => by
    have ih := canLay_texts xs fun y hy => h y (List.mem_cons_of_mem _ hy)
    unfold tD at ih ⊢
    rw [List.map_cons, PyData.canLayAll0, ih, PyData.canLay0, h x (List.mem_cons_self ..)]
    rfl
theorem depth_texts : ∀ xs : List Str, PyData.depthAll (tD xs) ≤ 1
  | [] => by simp [tD, PyData.depthAll]
  | x :: xs => by
    have ih := depth_texts xs
    unfold tD at ih ⊢
    rw [List.map_cons, PyData.depthAll]
    simp only [PyData.depth]
    omega
theorem shaped_texts {xs : List Str} (h : ∀ x ∈ xs, PyData.strOk x = true) : SeqAt.shaped (.list (tD xs)) = true := by
  unfold SeqAt.shaped
  rw [Bool.and_eq_true]
  refine ⟨by simp only [PyData.canLay0]; exact canLay_texts xs h, decide_eq_true ?_⟩
  have := depth_texts xs
  simp only [PyData.depth]
  omega
theorem shaped_textsT {xs : List Str} (h : ∀ x ∈ xs, PyData.strOk x = true) : SeqAt.shaped (.tuple (tD xs)) = true := by
  unfold SeqAt.shaped
  rw [Bool.and_eq_true]
  refine ⟨by simp only [PyData.canLay0]; exact canLay_texts xs h, decide_eq_true ?_⟩
  have := depth_texts xs
  simp only [PyData.depth]
  omega
end Mx

set_option maxRecDepth 100000
set_option maxHeartbeats 4000000
/-! own errors over a built-in error that takes another's maker (KeyError takes LookupError's) -/
namespace Gx
open PySem PySem.Spec PySem.Calls Builtin
/-- what making asks of the chain -/
structure Chn (B : String) (bm : List Value) : Prop where
  own : bm.contains (.type B) = true
  att : bm.contains (.type "AttributeError") = false
  nam : bm.contains (.type "NameError") = false
section
variable {M : Model} {prog : Program} {w : World} {A : Around} {E : Value → Shared → Prop} {R : Result → Shared → Prop} {hp : Heap} {gn : Array GenState} {dr : Drawn} {tk : Nat} {os : OsState}
variable {nm q : Str} {C N : Addr} {bs bm bmB : List Value} {hdct : Bool} {sn : List Str} {sub : List Value} {ab : Bool} {col : Option Bool} {dd : Option Addr} {k0 k1 k2 k3 k5 : Option Value} {B mk ini : String}
theorem kx_check (F : ExcBaseFacts B mk ini bmB) (ch : Chn B bm) {us : List Value} {Q : Unit → Shared → Prop} (cc : hp.get? C = some (excClassObj nm q C N bs bm hdct sn sub ab col dd k0 k1 k2 k3 k5 mk)) (hq : Q () ⟨hp, gn, dr, tk, os⟩) :
    wpAny M A (checkBuiltinCall mk ⟨.ref C :: us, []⟩) Q E ⟨hp, gn, dr, tk, os⟩ := by
  have c1 : (Value.ref C :: bm).contains (.type B) = true := by rw [List.contains_cons, ch.own, Bool.or_true]
  have st := F.noStar
  simp only [F.newRow, F.newSplit, F.newKind, checkBuiltinCall]
  repeat (first | refine wpAny_loadPart_at cc ?_ | (refine wpAny_isSubtype_exc cc ?_; rw [c1]) | refine wpAny_staticBase_exc cc ?_ | refine wpAny_madeBy_exc cc ?_ | simp only [bne_self_eq_false, Bool.false_eq_true, if_false] | wp_step)
  exact hq
theorem kx_new (F : ExcBaseFacts B mk ini bmB) (ch : Chn B bm) {us : List Value} (cc : hp.get? C = some (excClassObj nm q C N bs bm hdct sn sub ab col dd k0 k1 k2 k3 k5 mk))
    (hq : R (.ok (.ret (.ref (hp.objs.size + 1)))) ⟨(hp.push (W.kdv_tup us)).push (W.excObj C hp.objs.size none .none), gn, dr, tk, os⟩) (hz : us.length ≤ sizeLine) :
    codeAny (model prog w) A (.builtin mk ⟨.ref C :: us, []⟩) R ⟨hp, gn, dr, tk, os⟩ := by
  have fe := F.ends
  have c1 : (Value.ref C :: bm).contains (.type B) = true := by rw [List.contains_cons, ch.own, Bool.or_true]
  have c2 : (Value.ref C :: bm).contains (.type "AttributeError") = false := by rw [List.contains_cons, ch.att]; rfl
  have c3 : (Value.ref C :: bm).contains (.type "NameError") = false := by rw [List.contains_cons, ch.nam]; rfl
  refine codeAny_builtinAt F.entry ?_
  unfold Builtin.«BaseException.__new__»
  refine wpAt_bind ?_
  show wpAt _ _ _ (stack >>= _) _ _ _
  refine wpAt_bind (wpAt_stack fun p0 low => wpAt_of_wpAny ?_)
  wp_walk
  refine wpAt_of_wpAny ?_
  rw [F.owner]
  repeat (first | with_reducible refine wpAny_madeHere_exc F.canon cc ?_ | with_reducible refine wpAny_loadPart_at cc ?_ | (with_reducible refine wpAny_isSubtype_exc cc ?_; first | rw [c1] | rw [c2] | rw [c3]) | wp_step)
  show R _ _
  rw [Heap.size_push]
  exact hq
theorem kx_type (F : ExcBaseFacts B mk ini bmB) (ch : Chn B bm) {us : List Value} {fI : Addr} {Q : Fin → Shared → Prop} (cc : hp.get? C = some (excClassObj nm q C N bs bm hdct sn sub ab col dd k0 k1 k2 k3 k5 mk))
    (li : W.Looks (model prog w) hp (typeLookup (.ref C) "__init__") (some (.ref fI))) (lb : ∀ o, W.Looks (model prog w) hp (bindSpecial (.ref fI) o) (.ref fI, [o])) (hz : us.length ≤ sizeLine)
    (hq : codeAny (model prog w) A (.call (.ref fI) ⟨.ref (hp.objs.size + 1) :: us, []⟩)
      (fun r s' => match r with | .ok (.ret v) => v = .none ∧ Q (.done (.ret (.ref (hp.objs.size + 1)))) s' | .ok _ => False | .error e => E e s')
      ⟨(hp.push (W.kdv_tup us)).push (W.excObj C hp.objs.size none .none), gn, dr, tk, os⟩) : wpAny (model prog w) A (Builtin.«type.__call__» ⟨.ref C :: us, []⟩) Q E ⟨hp, gn, dr, tk, os⟩ := by
  repeat (first | with_reducible refine wpAny_loadPart_at cc ?_ | with_reducible refine wpAny_madeBy_exc cc ?_ | wp_step)
  refine codeAny_call_builtin_code (Code.quiet_builtin _ F.quiet) (kx_check F ch cc ?_)
  refine kx_new F ch cc ?_ hz
  show wpAny _ _ _ _ _ _
  have old : ∀ b o, hp.get? b = some o → ((hp.push (W.kdv_tup us)).push (W.excObj C hp.objs.size none .none)).get? b = some o := fun b o e => Heap.get?_push_of_some _ (Heap.get?_push_of_some _ e)
  have cc1 := old _ _ cc
  have ne : ((hp.push (W.kdv_tup us)).push (W.excObj C hp.objs.size none .none)).get? (hp.objs.size + 1) = some (W.excObj C hp.objs.size none .none) := by heap_get
  have cs : (Value.ref C :: bm).contains (.ref C) = true := by simp
  have li1 := li.keeps old
  have lb1 := (lb (.ref (hp.objs.size + 1))).keeps old
  unfold isInstance
  repeat (first | with_reducible refine wpAny_loadPart_at ne ?_ | (with_reducible refine wpAny_isSubtype_exc cc1 ?_; rw [cs]) | wp_step)
  show wpAny _ _ (typeLookup (.ref C) _) _ _ _
  refine li1.at ?_
  refine wpAny_holding (wpAny_bind (lb1.at ?_))
  refine wpAny_bind (wpAny_call (codeAny_mono hq fun r s1 z => ?_))
  rcases r with e | (v | _ | _ | _) <;> first | exact z | exact z.elim | skip
  obtain ⟨rfl, z⟩ := z
  first | exact wpAny_pure (wpAny_pure z) | (wp_walk; exact z)
theorem kx_call (F : ExcBaseFacts B mk ini bmB) (ch : Chn B bm) {us : List Value} {fI : Addr} (cc : hp.get? C = some (excClassObj nm q C N bs bm hdct sn sub ab col dd k0 k1 k2 k3 k5 mk))
    (li : W.Looks (model prog w) hp (typeLookup (.ref C) "__init__") (some (.ref fI))) (lb : ∀ o, W.Looks (model prog w) hp (bindSpecial (.ref fI) o) (.ref fI, [o])) (hz : us.length ≤ sizeLine)
    (hq : codeAny (model prog w) (A.under (.builtin "type.__call__" ⟨.ref C :: us, []⟩)) (.call (.ref fI) ⟨.ref (hp.objs.size + 1) :: us, []⟩) (W.InitBack (hp.objs.size + 1) R)
      ⟨(hp.push (W.kdv_tup us)).push (W.excObj C hp.objs.size none .none), gn, dr, tk, os⟩) : codeAny (model prog w) A (.call (.ref C) ⟨us, []⟩) R ⟨hp, gn, dr, tk, os⟩ := by
  have t1 := tc_lookup
  have t2 := tc_bind (.ref C)
  have t3 : (⟨hp, gn, dr, tk, os⟩ : Shared).TypeIs (.ref C) "type" := ⟨_, cc, rfl⟩
  refine codeAny_of_tree ?_
  show wpAny _ _ (callAny (.ref C) _) _ _ _
  repeat (any_goals (first | assumption | with_reducible refine wpAny_loadPart_at cc ?_ | wp_step))
  refine ⟨rfl, ?_⟩
  refine codeAny_call_builtin_at (Code.quiet_builtin _ (by decide +kernel)) entry_typeCall (wpAny_check_type_call_sub cc (kx_type F ch cc li lb hz ?_))
  refine codeAny_mono hq fun r s1 z => ?_
  rcases r with e | (v | _ | _ | _) <;> exact z
end
end Gx
namespace Gx
open PySem PySem.Spec PySem.W PySem.Calls PyProof.Rows L2
/-! ### own errors with one field, made, over any base -/
/-- a base: the maker's facts, and what each chain over it holds -/
structure XBase (B mk ini : String) (bmF bmB : List Value) : Prop where
  F : ExcBaseFacts B mk ini bmF
  ch : ∀ bm : List Value, excTail bmB bm = true → Chn B bm
theorem xbase_of {B mk ini : String} {bmB : List Value} (F : ExcBaseFacts B mk ini bmB) : XBase B mk ini bmB bmB :=
  ⟨F, fun bm t => ⟨by rw [excTail_contains _ bm t]; exact F.hasB, by rw [excTail_contains _ bm t]; exact F.noAttr, by rw [excTail_contains _ bm t]; exact F.noName⟩⟩
abbrev bmKey : List Value := [.type "KeyError", .type "LookupError", .type "Exception", .type "BaseException", .type "object"]
theorem xbase_KeyError : XBase "LookupError" "LookupError.__new__" "LookupError.__init__" [.type "LookupError", .type "Exception", .type "BaseException", .type "object"] bmKey :=
  ⟨PySem.F.excBase_LookupError, fun bm t => ⟨by rw [excTail_contains _ bm t]; decide +kernel, by rw [excTail_contains _ bm t]; decide +kernel, by rw [excTail_contains _ bm t]; decide +kernel⟩⟩
section
variable {prog : Program} {w : World} {A : Around} {R : Result → Shared → Prop} {s : Shared} {K : Frag} {mg : Str → Option Value} {C fI : Addr} {cn fld : Str} {B mk ini : String} {bmF bmB : List Value}
theorem x_madeC (FB : XBase B mk ini bmF bmB) (T : XTxt K mg cn fld mk bmB C fI) (D : InitDoes K C fI fld) {v : Value} (inK : K.In s.heap) (lim : s.heap.NoLimit) (room : A.depth + 1 < recursionLimit)
    (hq : ∀ h' tk e d, XMade s.heap h' e C d fld v → R (.ok (.ret (.ref e))) { s with heap := h', toks := tk }) : codeAny (model prog w) A (.call (.ref C) ⟨[v], []⟩) R s := by
  obtain ⟨nm, q, N, bs, bm, sn, sub, ab, col, dd, k0, k1, k2, k3, k5, hC, tail⟩ := T.cls
  obtain ⟨hp, g, dr, tk, os⟩ := s
  have stay : ∀ b o, hp.get? b = some o → ((hp.push (kdv_tup [v])).push (excObj C hp.objs.size none .none)).get? b = some o := fun b o e => Heap.get?_push_of_some _ (Heap.get?_push_of_some _ e)
  have there : ((hp.push (kdv_tup [v])).push (excObj C hp.objs.size none .none)).get? (hp.objs.size + 1) = some (excObj C hp.objs.size none .none) := by heap_get
  have fresh : K.lookup (hp.objs.size + 1) = none := by
    cases e : K.lookup (hp.objs.size + 1) with
    | none => rfl
    | some o => exact absurd (Nat.lt_of_succ_lt (Heap.lt_size (inK _ _ e))) (Nat.lt_irrefl _)
  refine kx_call FB.F (FB.ch bm tail) (inK _ _ hC) (looks_findIn inK T.iC) (fun self => bind_fn inK self T.tC) (one_line v) ?_
  refine D prog w _ _ ⟨(hp.push (kdv_tup [v])).push (excObj C hp.objs.size none .none), g, dr, tk, os⟩ _ _ v (inK.keeps stay) (lim.keeps stay) there fresh room fun h' tk' dx M => ?_
  have old : ∀ b o, hp.get? b = some o → h'.get? b = some o := fun b o e => M.keep b o (Nat.ne_of_lt (Nat.lt_succ_of_lt (Heap.lt_size e))) (stay b o e)
  have z : hp.objs.size + 1 + 1 ≤ dx := by
    have q := M.big
    first
      | exact q
      | simpa only [Heap.size_push] using q
  exact ⟨rfl, hq h' tk' (hp.objs.size + 1) dx ⟨old, Nat.le_succ _, ⟨_, _, M.obj, rfl, rfl, rfl, rfl⟩, Nat.le_trans (Nat.le_trans (Nat.le_succ _) (Nat.le_succ _)) z, M.ne, M.ns⟩⟩
end
/-! ### errors as values -/
/-- the error at e, of the class C, its dict at d -/
def ExV (C e : Addr) (d : Option Addr) : HO := .ext fun h => ∃ (oe : Obj) (vs : Array Value), h.get? e = some oe ∧ oe.cls = .ref C ∧ oe.dict = d ∧ oe.data = .fields vs
theorem exV_ok {P : Program} {w : World} {H : Hp} {h : Heap} {C e : Addr} {d : Option Addr} {oe : Obj} {vs : Array Value} (he : h.get? e = some oe) (hc : oe.cls = .ref C) (hd : oe.dict = d) (hf : oe.data = .fields vs) : ObjOk P w H h e (ExV C e d) :=
  ⟨⟨oe, vs, he, hc, hd, hf⟩, ⟨oe, he⟩, fun h1 h2 ⟨o, us, a, b, c, f⟩ k => ⟨o, us, k _ a, b, c, f⟩⟩
theorem exV_at {P : Program} {w : World} {H : Hp} {h : Heap} {C e : Addr} {d : Option Addr} (ok : HOk P w H h) (he : H e = some (ExV C e d)) : ∃ (oe : Obj) (vs : Array Value), h.get? e = some oe ∧ oe.cls = .ref C ∧ oe.dict = d ∧ oe.data = .fields vs :=
  (show ObjOk P w H h e (ExV C e d) from ok e _ he).1
section
variable {X : Cx} {C fI : Addr} {cn fld : Str} {B mk ini : String} {bmF bmB : List Value}
/-- cn(e), the error kept -/
def tMkV (C : Addr) (fld : Str) (ta : TA) : TE := fun σ H Q => ta σ H fun vs H1 => ∃ v, vs = [v] ∧ ∀ d e, H1 d = none → H1 e = none → e ≠ d → Q (.ref e) (upd (upd H1 d (.xd [(fld, v)])) e (ExV C e (some d)))
theorem pe_mkV {a : Expr} {ta : TA} {p pos : Pos} {k : Nat} (FB : XBase B mk ini bmF bmB) (T : XTxt X.K X.mg cn fld mk bmB C fI) (D : InitDoes X.K C fI fld) (room : Room k X.A) (ha : PA X [a] ta) (hg : Gl X cn)
    (hdb : (cn == ("__debug__" : Str)) = false := by decide) (hst : starEach (a :: []) X.env = (false, eval a X.env) :: starEach [] X.env := by rfl) (hpl : (backTo pos (starEach [] X.env)).any (·.1) = false := by rfl) :
    PE X (.Call (.Name cn p) [a] [] pos) (tMkV C fld ta) := by
  refine ⟨fun pins s σ H Q I h => ?_⟩
  refine wpAny_Call_Name_kw (ld_glob I hg T.gC ?_ hdb)
  refine PySem.W.callWith_K (h₀ := X.base) I.ok.mod.kin T.kC (thn (ha.run pos pins s σ H _ I h) ?_) hst hpl
  rintro us s1 ⟨vs, H1, I1, r1, v, rfl, q1⟩
  refine ⟨I1.kIn, ?_⟩
  obtain ⟨u, rfl, rv⟩ := vals1 r1
  show wpAny _ _ (call (.ref C) [u]) _ _ _
  have lim := I1.nolimit
  obtain ⟨hp, g, dr, tk, os⟩ := s1
  refine wpAny_call (x_madeC FB T D I1.kIn lim (by have := room.dp; omega) fun h' tk' e d M => ?_)
  obtain ⟨oe, fv, hoe, hc, hd, hdat, h1⟩ := M.obj
  obtain ⟨G', g1, g2⟩ := restrict h' fun b => decide (b ≠ e)
  have off : ∀ b, b ≠ e → G'.get? b = h'.get? b := fun b hb => g1 b (decide_eq_true hb)
  have gone : G'.get? e = none := g2 e (by simp)
  have old : ∀ b o, hp.get? b = some o → G'.get? b = some o := fun b o q => (off b (Nat.ne_of_lt (Nat.lt_of_lt_of_le (Heap.lt_size q) M.new))).trans (M.keep b o q)
  have ob : ObjOk X.prog X.w (upd H1 d (.xd [(fld, v)])) G' d (.xd [(fld, v)]) := ⟨_, M.ns.at (fun o q => (off d M.ne).trans q), fun f => relO_one rv f⟩
  have J : Inv X pins σ (upd H1 d (.xd [(fld, v)])) ⟨G', g, dr, tk', os⟩ := I1.laid (t' := tk') old M.big ob
  have ne0 : H1 e = none := I1.hok.fresh M.new
  have J2 := J.laidN (h' := h') (t' := tk') (o := ExV C e (some d)) (fun b o q => by
    by_cases hb : b = e
    · have q' : G'.get? b = some o := q
      rw [hb, gone] at q'
      cases q'
    · exact (off b hb).symm.trans q) gone (by rw [upd_ne (Ne.symm M.ne)]; exact ne0) (exV_ok hoe hc hd hdat)
  exact ⟨.ref e, _, J2, rfl, q1 d e (I1.hok.fresh M.big) ne0 (Ne.symm M.ne)⟩
end
end Gx

set_option maxRecDepth 100000
set_option maxHeartbeats 4000000
namespace Gx
open PySem PySem.Spec PySem.W PySem.Calls PyProof.Rows L2
/-! ### own errors without an __init__ of their own, as values -/
/-- what the written part says of such a class -/
structure XPln (K : Frag) (mg : Str → Option Value) (cn : Str) (mk ini : String) (bmB : List Value) (C : Addr) : Prop where
  gC : mg cn = some (.ref C)
  cls : ∃ nm q N bs bm hd sn sub ab col dd k0 k1 k2 k3 k5, K.lookup C = some (excClassObj nm q C N bs bm hd sn sub ab col dd k0 k1 k2 k3 k5 mk) ∧ excTail bmB bm = true
  iC : findIn K (.ref C) "__init__" = some (some (.builtin ini))
  kC : keepIn K (.ref C) = true
/-- .. of any own class of errors, for isinstance -/
structure XCls (K : Frag) (C : Addr) : Prop where
  isC : isClsIn K C = true
  ga : findIn K (.ref C) "__getattribute__" = some (some (.builtin "BaseException.__getattribute__"))
  gg : findIn K (.ref C) "__getattr__" = some none
  ex : subIn K (.ref C) (.type "BaseException") = some true
  cl : findIn K (.ref C) "__class__" = some (some (.builtin "object.__class__"))
  sp : specialIn K (.builtin "object.__class__") "__get__" = some (some (.builtin "getset_descriptor.__get__"))
  ta : takesIn K (.builtin "object.__class__") = some true
  ob : mroIn K C (.type "object") = some true
section
variable {X : Cx} {C : Addr} {cn : Str} {B mk ini : String} {bmB : List Value}
def tMkP (C : Addr) (ta : TA) : TE := fun σ H Q => ta σ H fun vs H1 => vs.length ≤ 1000 ∧ ∀ e, H1 e = none → Q (.ref e) (upd H1 e (ExV C e none))
theorem pe_mkP {a : Expr} {ta : TA} {p pos : Pos} (F : ExcBaseFacts B mk ini bmB) (T : XPln X.K X.mg cn mk ini bmB C) (ha : PA X [a] ta) (hg : Gl X cn)
    (hdb : (cn == ("__debug__" : Str)) = false := by decide) (hst : starEach (a :: []) X.env = (false, eval a X.env) :: starEach [] X.env := by rfl) (hpl : (backTo pos (starEach [] X.env)).any (·.1) = false := by rfl) :
    PE X (.Call (.Name cn p) [a] [] pos) (tMkP C ta) := by
  refine ⟨fun pins s σ H Q I h => ?_⟩
  refine wpAny_Call_Name_kw (ld_glob I hg T.gC ?_ hdb)
  refine PySem.W.callWith_K (h₀ := X.base) I.ok.mod.kin T.kC (thn (ha.run pos pins s σ H _ I h) ?_) hst hpl
  rintro us s1 ⟨vs, H1, I1, r1, hz, q1⟩
  refine ⟨I1.kIn, ?_⟩
  obtain ⟨nm, q, N, bs, bm, hd, sn, sub, ab, col, dd, k0, k1, k2, k3, k5, hC, tail⟩ := T.cls
  have hl : us.length ≤ sizeLine := by
    rw [← r1.length]
    exact Nat.le_trans hz (by decide)
  obtain ⟨hp, g, dr, tk, os⟩ := s1
  refine PySem.W.call_B F (fun Y => excTail_contains Y bm tail) (I1.kIn _ _ hC) (looks_findIn I1.kIn T.iC) hl fun h' k he ht => ?_
  have fr := I1.hok.fresh (Nat.le_succ hp.objs.size)
  exact ⟨.ref (hp.objs.size + 1), _, I1.laid (t' := tk) k (Nat.le_succ _) (exV_ok he rfl rfl rfl), rfl, q1 _ fr⟩
end
/-- the error at e stands, with its dict if it has one -/
def ExAt (H : Hp) (e C : Addr) (d : Option Addr) (fs : List (Str × V)) : Prop := H e = some (ExV C e d) ∧ ∀ dd, d = some dd → H dd = some (.xd fs)
section
variable {X : Cx} {pins : List (Addr × Obj)} {σ : L2.St} {H : Hp} {s : Shared}
theorem exAt_inst {e C : Addr} {d : Option Addr} {fs : List (Str × V)} (I : Inv X pins σ H s) (h : ExAt H e C d fs) : ∃ (oe : Obj) (od : Option Obj), PySem.W.InstAt s.heap e oe C od := by
  obtain ⟨h1, h2⟩ := h
  obtain ⟨oe, vs, he, hc, hd, hf⟩ := exV_at I.hok h1
  have nc : PySem.W.notCls oe = true := by unfold PySem.W.notCls; rw [hf] <;> rfl
  cases d with
  | none => exact ⟨oe, none, he, hc, nc, by rw [hd]; trivial⟩
  | some dd =>
    obtain ⟨mA, hns, _⟩ := (show ObjOk X.prog X.w H s.heap dd (.xd fs) from I.hok dd _ (h2 dd rfl))
    obtain ⟨od, ho, _⟩ := lookIn_ns hns
    exact ⟨oe, some od, he, hc, nc, by rw [hd]; exact ho⟩
end
/-- isinstance(e, c), e an own error -/
def rIsV (K : PySem.W.Frag) : List V → Hp → VK → Prop := fun xs H Q => ∃ (e C : Addr) (d : Option Addr) (fs : List (Str × V)) (c : V) (u : Value) (b : Bool), xs = [.ref e, c] ∧ ExAt H e C d fs ∧ XCls K C ∧ ClsV c u ∧ PySem.W.kitOne K (.ref C) u = some b ∧ Q (.bl b) H
section
variable {X : Cx}
theorem call_isV : CallR X (.builtin "isinstance") (rIsV X.K) := by
  intro pins s σ H xs us Q I r h
  obtain ⟨e, C, d, fs, c, u, b, rfl, hx, T, k, hb, q⟩ := h
  obtain ⟨u1, u2, rfl, r1, r2⟩ := vals2 r
  have e2 := k.eq r2
  subst e2
  cases (show u1 = Value.ref e from r1)
  obtain ⟨oe, od, J⟩ := exAt_inst I hx
  exact PySem.W.kia_one (PySem.W.kitx_exc (ox := oe) (od := od) T.isC T.ga T.gg T.ex T.cl T.sp T.ta T.ob) I.kIn J hb (fun z => nomatch z) fun tk => ⟨.bl b, H, I.tok tk, rfl, q⟩
/-- e.fld, e an own error with that field -/
def tGetV (C : Addr) (fld : Str) (te : TE) : TE := fun σ H Q => te σ H fun x H1 => ∃ (e dd : Addr) (v : V), x = .ref e ∧ ExAt H1 e C (some dd) [(fld, v)] ∧ Q v H1
theorem pe_getV {C fI : Addr} {cn fld : Str} {mk : String} {bmB : List Value} {e : Expr} {te : TE} {pos : Pos} (T : XTxt X.K X.mg cn fld mk bmB C fI) (he : PE X e te)
    (hb : attributeBase e fld X.env (eval e X.env) = eval e X.env := by rfl) : PE X (.Attribute e fld pos) (tGetV C fld te) := by
  constructor
  intro pins s σ H Q I h
  refine attr_of hb (thn (he.run pins s σ H _ I h) ?_)
  rintro u s1 ⟨x, H1, I1, rx, e1, dd, v, rfl, ⟨h1, h2⟩, q⟩
  obtain rfl : u = Value.ref e1 := rx
  obtain ⟨oe, vs, here, hc, hd, hf⟩ := exV_at I1.hok h1
  obtain ⟨mA, hns, hr⟩ := (show ObjOk X.prog X.w H1 s1.heap dd (.xd [(fld, v)]) from I1.hok dd _ (h2 dd rfl))
  obtain ⟨od, ho, hl⟩ := lookIn_ns hns
  have l : List.lookup fld [(fld, v)] = some v := by simp [List.lookup]
  have hrf := hr fld
  rw [l] at hrf
  obtain ⟨u, hu, ru⟩ := RelO.some_of (v := v) (o := mA fld) hrf
  have J : PySem.W.InstAt s1.heap e1 oe C (some od) := ⟨here, hc, by unfold PySem.W.notCls; rw [hf] <;> rfl, by rw [hd]; exact ho⟩
  exact HandSPX.exc_get I1.kIn J T.ga T.gg T.exC (PySem.W.findObj_own T.hdC T.noN rfl (by rw [hl, hu])) (handed_of ru) ⟨v, H1, I1.tok _, ru, q⟩
end
end Gx

set_option maxRecDepth 100000
set_option maxHeartbeats 4000000
/-! several clauses, each with the name of the error -/
namespace Gx
open PySem PySem.Spec PyProof.Rows L2
/-- what the clauses (all of one name, slot i) wish of an error of the body -/
def wMA (K : PySem.W.Frag) (i : Nat) (Wo : WX) (D : Ends) : List (Value × (Addr → Value → Option Addr → TS)) → WX
  | [] => Wo
  | (c, ts) :: r => fun ec ed σ H => ∃ b, PySem.W.exmOne K ec c = some b ∧ (b = true → ∀ ea, H ea = none → ts ea ec ed { nx := fun σ1 H1 => D.nx (σ1.set i none) H1, rt := D.rt, bk := fun σ1 H1 => D.bk (σ1.set i none) H1, ct := fun σ1 H1 => D.ct (σ1.set i none) H1 } (σ.set i (some (.ref ea))) H) ∧ (b = false → wMA K i Wo D r ec ed σ H)
inductive HdsA (X : Cx) (n : Str) : List ExceptHandler → List (Value × (Addr → Value → Option Addr → TS)) → Prop
  | nil : HdsA X n [] []
  | cons {x : Str} {c : Value} {ts : Addr → Value → Option Addr → TS} {b₀ : Stmt} {bs : List Stmt} {np ps : Pos} {hds : List ExceptHandler} {l : List (Value × (Addr → Value → Option Addr → TS))} (nm : Names X x c)
      (su : ∀ (ea : Addr) (eo : Obj) (ec : Value) (ed : Option Addr) (pn : List (Addr × Obj)), Zc ec ed eo → (∃ vs, eo.data = .fields vs) → PSs (X.suite ea ((ea, eo) :: pn)) (b₀ :: bs) (ts ea ec ed)) (r : HdsA X n hds l) :
      HdsA X n (.ExceptHandler (some (.Name x np)) (some n) (b₀ :: bs) ps :: hds) ((c, ts) :: l)
section
variable {X : Cx} {n : Str} {i : Nat} {body : List Stmt} {h0 : ExceptHandler} {hds : List ExceptHandler} {l : List (Value × (Addr → Value → Option Addr → TS))} {pos : Pos} {tb : WX → TS} {Wo : WX}
theorem ps_try_ma (st : X.stack = X.env :: X.outer) (fr : X.env.frame = some X.env.locals) (nd : X.N.Nodup) (at_ : X.N[i]? = some n) (kl : X.env.kindOf n = some .local) (tk : Takes X Wo)
    (hb : ∀ (W : WX) (pn : List (Addr × Obj)) (xe : Value → Shared → Prop), Takes (X.tr pn xe) W → PassesOwn (model X.prog X.w) X.A X.env xe → PSs (X.tr pn xe) body (tb W))
    (hh : HdsA X n (h0 :: hds) l) : PS X (.Try body (h0 :: hds) [] [] pos) (fun D σ H => tb (wMA X.K i Wo D l) D σ H) := by
  refine ⟨fun pn0 s σ H D I0 wish => ?_⟩
  have okX := I0.ok
  have frs0 : X.A.frames = some (X.env :: X.outer) := by rw [okX.frames, st]
  have lc : Loc X.env.scope n := .inl kl
  refine wpAny_Try_except ?_
  refine wpAny_mono ((hb (wMA X.K i Wo D l) (X.pn ++ pn0) (fun e sa => wpAny (model X.prog X.w) X.A (noteFrame e X.env) (fun _ sb => wpAny (model X.prog X.w) X.A (setFlight e none) (fun _ sc =>
    wpAny (model X.prog X.w) X.A (handleBy e X.env (h0 :: hds)) (SP X pn0 D) X.xe sc) X.xe sb) X.xe sa) (fun u sz fly => ?_) PassesOwn.looking).run [] s σ H D (I0.toTry _) wish) (fun fl sz got => ?_) (fun _ _ z => z)
  · obtain ⟨ea, gb, si, pn1, σ1, H1, ec, ed, rfl, J0, nb, up, sky, na, eos, bare, w⟩ := fly
    have J1 : Inv X pn0 σ1 H1 si := J0.ofTry okX
    have sky1 : Sky gb (X.env :: X.outer) ea (Zc ec ed) X.env.locals sz.heap := by rw [← st]; exact sky
    show wpAny (model X.prog X.w) X.A (noteFrame (.ref ea) X.env) _ _ _
    refine Sky.land Zc.steady frs0 fr sky1 fun ha fa upa => ?_
    have Ja : Inv X pn0 σ1 H1 { sz with heap := ha } := J1.landed nb fa.1 (up.trans upa) eos bare
    obtain ⟨eo, ev, there, ze, de⟩ := fa.there
    have noFrame : ∀ {h : Heap} {o : Obj} {vs : Array Value}, h.FunFrames gb (X.env :: X.outer) → h.get? ea = some o → o.data = .fields vs → ea ∉ frs (X.env :: X.outer) := fun {h o vs} ff e dd hm => by
      obtain ⟨_, o1, e1, z⟩ := ff.mem hm
      rw [e] at e1
      cases e1
      exact z _ dd
    have nf := noFrame fa.2.2.1 there de
    have nL : ea ≠ X.env.locals := fun z => nf (List.mem_filterMap.mpr ⟨X.env, List.mem_cons_self, by rw [fr, z]⟩)
    have nF : ea ∉ X.fs := fun hm => by
      obtain ⟨e1, m1, q1⟩ := List.mem_filterMap.mp hm
      exact nf (List.mem_filterMap.mpr ⟨e1, List.mem_cons_of_mem _ m1, q1⟩)
    have Sa := Ja.suite there de na nL nF
    have each : ∀ {hs1 : List ExceptHandler} {l1 : List (Value × (Addr → Value → Option Addr → TS))}, HdsA X n hs1 l1 → wMA X.K i Wo D l1 ec ed σ1 H1 →
        wpAny (model X.prog X.w) X.A (handleBy (.ref ea) X.env hs1) (SP X pn0 D) X.xe { sz with heap := ha } := by
      intro hs1 l1 hk
      induction hk with
      | nil =>
        intro w1
        refine wpAny_handleBy_nil ?_
        obtain ⟨_, _, _, oe, vs, T, oT, ts1, he, hz, hd, h1, hr⟩ := id fa
        unfold PySem.passOn
        refine wpAny_bind (wpAny_field he hd h1 ?_)
        rw [if_neg (by simp : ¬ ((Value.ref T == Value.none) = true))]
        have on : wpAny (model X.prog X.w) X.A (setFlight (.ref ea) X.env.frame) (fun _ sd => wpAny (model X.prog X.w) X.A (throw (.ref ea) : Sem Flow) (SP X pn0 D) X.xe sd) X.xe { sz with heap := ha } := by
          rw [fr]
          refine HandSPX.setFlight_upZ fa fun hc fc upc => wpAny_throw (tk _ _ ?_)
          exact ⟨ea, gb, si, pn0, σ1, H1, ec, ed, rfl, J1, nb, (up.trans upa).trans upc, .inr (.inr (by rw [st]; exact fc)), na, eos, bare, w1⟩
        first | exact wpAny_bind (wpAny_pure (wpAny_bind on)) | exact wpAny_bind on
      | @cons x c ts b₀ bs np ps hds2 l2 nm su r ih =>
        intro w1
        obtain ⟨b, eb, yes, no⟩ := w1
        refine wpAny_handleBy_cons (codeAny_handlers_test ?_) (by intro q; cases q)
        have ty : PySem.W.Looks (model X.prog X.w) ha (typeOf (.ref ea)) ec := fun A Q E s k q => wpAny_typeOf_ref (k _ _ there) (by rw [ze.1]; exact q)
        have fits := PySem.W.exm_one (M := model X.prog X.w) (Ja.kIn) ty eb
        have named : ∀ {Q : Value → Shared → Prop} {E : Value → Shared → Prop}, Q c { sz with heap := ha } → wpAny (model X.prog X.w) (X.A.mark (some (.ref ea))) (eval (.Name x np) X.env) Q E { sz with heap := ha } := fun {Q E} q => by
          obtain ⟨g1, g2, m1 | ⟨m1, m2, m3⟩⟩ := nm
          · exact ld_glob (X := X.suite ea ((ea, eo) :: (X.pn ++ pn0))) Sa g1 m1 q g2
          · exact ld_blt (X := X.suite ea ((ea, eo) :: (X.pn ++ pn0))) Sa g1 m1 m2 q m3 g2
        refine named (fits.here ?_)
        cases b with
        | false =>
          show wpAny _ X.A (handleBy (.ref ea) X.env hds2) _ _ _
          exact ih (no rfl)
        | true =>
          refine codeAny_handlers_suite_as ?_
          refine HandSPX.lands_againZ fa fun hc fc upc => ?_
          have Jc : Inv X pn0 σ1 H1 { sz with heap := hc } := J1.landed nb fc.1 ((up.trans upa).trans upc) eos bare
          obtain ⟨eo2, ev2, there2, ze2, de2⟩ := fc.there
          have Sc := Jc.suite there2 de2 na nL nF
          refine store_ok (X := X.suite ea ((ea, eo2) :: (X.pn ++ pn0))) (v := .ref ea) Sc nd at_ lc rfl (fun se Se => ?_) (.inr kl)
          refine wpAny_mono ((su ea eo2 ec ed (X.pn ++ pn0) ze2 ⟨_, de2⟩).run [] se _ H1 _ Se (yes rfl ea na)) (fun fl sg got => ?_) (fun _ _ z => False.elim z)
          have gone : ∀ {σ6 : L2.St} {H6 : Hp} {Q : Shared → Prop}, Inv (X.suite ea ((ea, eo2) :: (X.pn ++ pn0))) [] σ6 H6 sg → (∀ s7, Inv X pn0 (σ6.set i none) H6 s7 → Q s7) →
              wpAny (model X.prog X.w) X.A (do bindName X.env n .none; unbindBehindTheSuite X.env n ps) (fun _ s7 => Q s7) X.xe sg := fun {σ6 H6 Q} S6 hq => gone_ok (S6.unsuite okX) nd at_ kl hq
          cases fl with
          | ret u =>
            obtain ⟨v6, σ6, H6, S6, r6, q6⟩ := got
            exact gone S6 fun _ J7 => ⟨_, _, _, J7, r6, q6⟩
          | next =>
            obtain ⟨σ6, H6, S6, q6⟩ := got
            exact gone S6 fun _ J7 => ⟨_, _, J7, q6⟩
          | brk =>
            obtain ⟨σ6, H6, S6, q6⟩ := got
            exact gone S6 fun _ J7 => ⟨_, _, J7, q6⟩
          | cont =>
            obtain ⟨σ6, H6, S6, q6⟩ := got
            exact gone S6 fun _ J7 => ⟨_, _, J7, q6⟩
    exact each hh w
  · cases fl with
    | ret u =>
      obtain ⟨v, σ1, H1, J1, r, q⟩ := got
      exact ⟨v, σ1, H1, J1.ofTry okX, r, q⟩
    | next =>
      obtain ⟨σ1, H1, J1, q⟩ := got
      exact wpAny_execs_nil ⟨σ1, H1, J1.ofTry okX, q⟩
    | brk =>
      obtain ⟨σ1, H1, J1, q⟩ := got
      exact ⟨σ1, H1, J1.ofTry okX, q⟩
    | cont =>
      obtain ⟨σ1, H1, J1, q⟩ := got
      exact ⟨σ1, H1, J1.ofTry okX, q⟩
end
end Gx

set_option maxRecDepth 100000
set_option maxHeartbeats 4000000
/-! a def that is called in the suite of a clause, with the error that it holds -/
namespace Gx
open PySem PySem.Spec PyProof.Rows L2
/-- a promise about the held error: where it stands, its class, its dict -/
abbrev SpE := Addr → Value → Option Addr → Sp
structure FnE (P : Program) (w : World) (K : PySem.W.Frag) (mg : Str → Option Value) (base : Heap) (k : Nat) (f : Addr) (fd : FuncData) (ps : List Str) (sp : SpE) : Prop where
  len : ∀ ea ec ed vs H Q E, sp ea ec ed vs H Q E → vs.length = ps.length
  run : ∀ (A : Around) (outer : List Env) (s : Shared) (H : Hp) (args : Args) (us : List Value) (vs : List V) (Q : VK) (E : XK) (p : Addr × Obj) (ec : Value) (ed : Option Addr),
    L2H.RoomH k A → L2H.PinOk outer H s p → Zc ec ed p.2 → (∃ fs, p.2.data = .fields fs) → Env0 P w K mg base A outer s H → BindsTo s fd args (ps.zip us) → Vals vs us → sp p.1 ec ed vs H Q E →
      codeAny (model P w) A (.call (.ref f) args) (CR CX0 outer P w H s Q E) s
theorem fnE_body {P : Program} {w : World} {K : PySem.W.Frag} {mg : Str → Option Value} {base : Heap} {k : Nat} {f : Addr} {nm ql : Str} {prm : Arguments} {bd : List Stmt} {sc : Scope}
    {dv kv dc pm cd ct oc : Value} {an od : Option Addr} {sl : Array (Option Value)} {N ps : List Str} {sp : SpE}
    (look : K.lookup f = some ⟨oc, od, .func (PySem.W.fnOf nm ql prm bd sc dv kv dc pm an cd ct), sl⟩) (hcode : PySem.W.codeIn K cd ql = true) (S : FnScope N ps sc)
    (hlen : ∀ ea ec ed vs H Q E, sp ea ec ed vs H Q E → vs.length = ps.length)
    (hb : ∀ (A : Around) (outer : List Env) (s : Shared) (H : Hp) (vs : List V) (Q : VK) (E : XK) (p : Addr × Obj) (ec : Value) (ed : Option Addr), Zc ec ed p.2 → (∃ fs, p.2.data = .fields fs) → L2H.RoomH k (A.deeper (envOfC ql sc s.heap.objs.size f cd)) → sp p.1 ec ed vs H Q E →
      ∃ t, PSs (L2H.cxH CX0 P w K mg base N ql sc f cd A outer s H E p) bd t ∧ t { nx := fun _ H' => Q .non H', rt := Q } (start N vs) H) :
    FnE P w K mg base (k + 1) f (PySem.W.fnOf nm ql prm bd sc dv kv dc pm an cd ct) ps sp := by
  constructor
  · exact hlen
  · intro A outer s H args us vs Q E p ec ed room pin hz hf env bind rel want
    have inS : K.In s.heap := env.mod.kin.keeps fun b o e => (env.bs b o e).1
    have noLim : s.heap.NoLimit := env.mod.nolimit.keeps fun b o e => (env.bs b o e).1
    have kinds : ∀ y ∈ ps.zip us, sc.names.lookup y.1 = some .local ∨ (sc.names.lookup y.1 = some .cell ∧ ((cellsFrom (s.heap.objs.size + 1) sc.names []).lookup y.1).isSome = true) := by
      rintro ⟨n, v⟩ hy
      rcases S.par n (List.of_mem_zip hy).1 with q | q
      · exact Or.inl q
      · exact Or.inr ⟨q, PySem.W.cellsFrom_some _ _ _ (Or.inl q)⟩
    refine codeAny_call_function room.depth (inS _ _ look) rfl S.co S.gen rfl (PySem.W.codeRec_of inS hcode)
      (bind _ _ _ _ (wpAny_newFunctionEnv_cells S.kind kinds fun env' he s1 made => ?_))
    subst he
    refine ⟨noLim.keeps made.toInCall.keep, codeAny_func ?_⟩
    obtain ⟨t, ht, hq⟩ := hb A outer s H vs Q E p ec ed hz hf (room.deeper _) want
    have I0 : Inv (L2H.cxH CX0 P w K mg base N ql sc f cd A outer s H E p) [] (start N vs) H s1 := L2H.inv_startH S pin env (hlen _ _ _ _ _ _ _ want) rel made
    refine wpAny_mono (ht.run [] s1 (start N vs) H _ I0 hq) ?_ (fun e s' hs => hs)
    intro fl s' hs
    cases fl with
    | brk =>
      obtain ⟨_, _, _, no⟩ := hs
      exact no.elim
    | cont =>
      obtain ⟨_, _, _, no⟩ := hs
      exact no.elim
    | next =>
      obtain ⟨σ', H', J, q⟩ := hs
      exact ⟨V.non, H', J.os, J.bare, J.base, J.hok, rfl, q⟩
    | ret u =>
      obtain ⟨v, σ', H', J, rv, q⟩ := hs
      exact ⟨v, H', J.os, J.bare, J.base, J.hok, rv, q⟩
section
variable {P : Program} {w : World} {K : PySem.W.Frag} {mg : Str → Option Value} {base : Heap}
/-- the name x is a def that keeps sp of the held error -/
def CalE (P : Program) (w : World) (K : PySem.W.Frag) (mg : Str → Option Value) (base : Heap) (k : Nat) (x : Str) (ps : List Str) (sp : SpE) : Prop :=
  ∃ (f : Addr) (fd : FuncData), FnE P w K mg base k f fd ps sp ∧ PySem.W.keepIn K (.ref f) = true ∧ Binds K fd ps [] ∧ mg x = some (.ref f)
theorem Def.calE {x qual : Str} {st : Stmt} {ps : List Str} (d : Def K mg x qual st ps) {k : Nat} {sp : SpE} (h : ∀ f fd, Fun K x qual st f fd → FnE P w K mg base k f fd ps sp) : CalE P w K mg base k x ps sp := by
  obtain ⟨f, fd, F, b, g⟩ := d
  exact ⟨f, fd, h f fd F, F.kp, b, g⟩
theorem okE {x qual : Str} {st : Stmt} {f : Addr} {fd : FuncData} {N ps : List Str} {k : Nat} {sp : SpE} (F : Fun K x qual st f fd) (S : FnScope N ps (defScope st)) (hlen : ∀ ea ec ed vs H Q E, sp ea ec ed vs H Q E → vs.length = ps.length)
    (hb : ∀ (cdv : Value) (A : Around) (outer : List Env) (s : Shared) (H : Hp) (vs : List V) (Q : VK) (E : XK) (p : Addr × Obj) (ec : Value) (ed : Option Addr), Zc ec ed p.2 → (∃ fs, p.2.data = .fields fs) → L2H.RoomH k (A.deeper (envOfC qual (defScope st) s.heap.objs.size f cdv)) → sp p.1 ec ed vs H Q E →
      ∃ t, PSs (L2H.cxH CX0 P w K mg base N qual (defScope st) f cdv A outer s H E p) (defBody st) t ∧ t { nx := fun _ H' => Q .non H', rt := Q } (start N vs) H) : FnE P w K mg base (k + 1) f fd ps sp := by
  obtain ⟨oc, od, kV, doc, pm, an, cdv, ct, osl, rfl, lk, hcd⟩ := F.ex
  exact fnE_body lk hcd S hlen fun A outer s H vs Q E p ec ed hz hf hr want => hb cdv A outer s H vs Q E p ec ed hz hf hr want
end
section
variable {X : Cx} {ea : Addr} {eo : Obj} {ec : Value} {ed : Option Addr} {pn : List (Addr × Obj)}
def tClE (sp : SpE) (ea : Addr) (ec : Value) (ed : Option Addr) (t : TA) : TE := fun σ H Q => t σ H fun vs H1 => sp ea ec ed vs H1 Q E0
theorem pe_calE {x : Str} {ps : List Str} {sp : SpE} {k : Nat} {e : Expr} {es : List Expr} {t : TA} {p pos : Pos} (c : CalE X.prog X.w X.K X.mg X.base k x ps sp) (room : Room k X.A) (hz : Zc ec ed eo) (hf : ∃ fs, eo.data = .fields fs) (hg : Gl (X.suite ea ((ea, eo) :: pn)) x)
    (h : PA (X.suite ea ((ea, eo) :: pn)) (e :: es) t) (hdb : (x == ("__debug__" : Str)) = false := by decide) (hst : starEach (e :: es) X.env = (false, eval e X.env) :: starEach es X.env := by rfl) (hpl : (backTo pos (starEach es X.env)).any (·.1) = false := by rfl) :
    PE (X.suite ea ((ea, eo) :: pn)) (.Call (.Name x p) (e :: es) [] pos) (tClE sp ea ec ed t) := by
  obtain ⟨f, fd, F, kp, b, hm⟩ := c
  refine ⟨fun pins s σ H Q I want => wpAny_Call_Name_kw (ld_glob I hg hm ?_ hdb)⟩
  refine PySem.W.callWith_K (h₀ := X.base) I.ok.mod.kin kp (thn (h.run pos pins s σ H _ I want) fun us s1 ⟨vs, H1, I1, r, q⟩ => ⟨I1.kIn, ?_⟩) hst hpl
  have hl : us.length = ps.length := r.length.symm.trans (F.len _ _ _ _ _ _ _ q)
  have b1 := b s1 us I1.kIn (by rw [List.append_nil]; exact hl)
  rw [List.append_nil] at b1
  obtain ⟨g1, g2, g3, g4, g5⟩ := I1.pin (ea, eo) (List.mem_append_left _ List.mem_cons_self)
  have pin : L2H.PinOk (X.suite ea ((ea, eo) :: pn)).stack H1 s1 (ea, eo) := ⟨g1, g2, fun hm => (List.mem_cons.mp (I1.stkSub ea hm)).elim g3 g4, g5⟩
  have room' : L2H.RoomH k (X.suite ea ((ea, eo) :: pn)).A := ⟨room.dp, room.un⟩
  refine wpAny_call (codeAny_mono (F.run _ _ s1 H1 ⟨us, []⟩ us vs Q E0 (ea, eo) ec ed room' pin hz hf I1.env0 b1 r q) fun res s2 hres => ?_)
  match res, hres with
  | .error e, hres => exact hres.elim
  | .ok (.ret u), hres => exact I1.after hres
end
section
variable {X : Cx} {p : Addr × Obj} {ec : Value}
/-- isinstance(e, c), e the error that is held (without a dict) -/
def rIsP (K : PySem.W.Frag) (ea : Addr) (ec : Value) : List V → Hp → VK → Prop := fun xs H Q => ∃ (C : Addr) (c : V) (u : Value) (b : Bool), xs = [.ref ea, c] ∧ ec = .ref C ∧ XCls K C ∧ ClsV c u ∧ PySem.W.kitOne K (.ref C) u = some b ∧ Q (.bl b) H
theorem call_isP (hp : p ∈ X.pn) (hz : Zc ec none p.2) (hf : ∃ fs, p.2.data = .fields fs) : CallR X (.builtin "isinstance") (rIsP X.K p.1 ec) := by
  intro pins s σ H xs us Q I r h
  obtain ⟨C, c, u, b, rfl, rfl, T, k, hb, q⟩ := h
  obtain ⟨u1, u2, rfl, r1, r2⟩ := vals2 r
  have e2 := k.eq r2
  subst e2
  cases (show u1 = Value.ref p.1 from r1)
  obtain ⟨fs, hf⟩ := hf
  have J : PySem.W.InstAt s.heap p.1 p.2 C none := ⟨(I.pin p (List.mem_append_left _ hp)).1, hz.1, by unfold PySem.W.notCls; rw [hf] <;> rfl, by rw [hz.2]; trivial⟩
  exact PySem.W.kia_one (PySem.W.kitx_exc (ox := p.2) (od := none) T.isC T.ga T.gg T.ex T.cl T.sp T.ta T.ob) I.kIn J hb (fun z => nomatch z) fun tk => ⟨.bl b, H, I.tok tk, rfl, q⟩
end
end Gx

set_option maxRecDepth 100000
set_option maxHeartbeats 4000000
namespace Gx
open PySem PySem.Spec PySem.W PySem.Calls PyProof.Rows L2
/-! ### stores over KeyError -/
theorem store_KeyErr : StoreFacts "KeyError" bmKey "object.__setattr__" "object" := by
  constructor
  case mro => kernel_rfl
  case slot => exact .of (owner := "object") (n := "__setattr__") (by rw [typeLookup_type, builtinLookup_eq_fast]; kernel_rfl) (by decide +kernel) (by decide +kernel) (by decide +kernel) (.inl (by decide +kernel)) (by rw [isSubtype_type]; kernel_rfl)
  case entry => exact PySem.F.store_LookupError.entry
  case kind => decide +kernel
  case split => decide +kernel
  case hasOwner => decide +kernel
  case args => exact fun a b c => PySem.F.store_LookupError.args a b c
  case passes => exact fun o => by kernel_rfl
/-! ### the table of all errors: who is derived from whom -/
def subC (i j : Nat) : Bool := i == j || (j == 0 && decide (i ≤ 11))
def BS : List String := ["ValueError", "KeyError", "IndexError", "LookupError", "RuntimeError", "OverflowError", "ArithmeticError"]
def subB (i : Nat) (b : String) : Bool :=
  if b = "ValueError" then decide (i ≤ 11) else if b = "KeyError" then i == 12 || i == 13 else if b = "IndexError" then i == 15
  else if b = "LookupError" then decide (12 ≤ i) && decide (i ≤ 15) else if b = "RuntimeError" then i == 16 else if b = "OverflowError" then i == 17 else decide (17 ≤ i)
def xclsB (K : Frag) (C : Addr) : Bool :=
  isClsIn K C && (decide (findIn K (.ref C) "__getattribute__" = some (some (.builtin "BaseException.__getattribute__"))) && (decide (findIn K (.ref C) "__getattr__" = some none) && (decide (subIn K (.ref C) (.type "BaseException") = some true) &&
    (decide (findIn K (.ref C) "__class__" = some (some (.builtin "object.__class__"))) && (decide (specialIn K (.builtin "object.__class__") "__get__" = some (some (.builtin "getset_descriptor.__get__"))) &&
    (decide (takesIn K (.builtin "object.__class__") = some true) && decide (mroIn K C (.type "object") = some true)))))))
theorem xclsB_ok {K : Frag} {C : Addr} (h : xclsB K C = true) : XCls K C := by
  unfold xclsB at h
  simp only [Bool.and_eq_true, decide_eq_true_eq] at h
  obtain ⟨a, b, c, d, e, f, g, i⟩ := h
  exact ⟨a, b, c, d, e, f, g, i⟩
def tabB (K : Frag) (cs : List Addr) : Bool := (List.range 20).all fun i => xclsB K (cs.getD i 0) && (((List.range 20).all fun j => decide (kitOne K (.ref (cs.getD i 0)) (.ref (cs.getD j 0)) = some (subC i j))) && (BS.all fun b => decide (kitOne K (.ref (cs.getD i 0)) (.type b) = some (subB i b))))
theorem getD_range (c : Nat → Addr) {i : Nat} (h : i < 20) : ((List.range 20).map c).getD i 0 = c i := by
  rw [List.getD_eq_getElem?_getD, List.getElem?_map, List.getElem?_range h]
  rfl
section
variable {K : Frag} {c : Nat → Addr} (t : tabB K ((List.range 20).map c) = true) {i : Nat} (hi : i < 20)
include t hi
theorem tab_at : xclsB K (c i) = true ∧ (∀ j, j < 20 → kitOne K (.ref (c i)) (.ref (c j)) = some (subC i j)) ∧ ∀ b ∈ BS, kitOne K (.ref (c i)) (.type b) = some (subB i b) := by
  unfold tabB at t
  have h := List.all_eq_true.mp t i (List.mem_range.mpr hi)
  simp only [Bool.and_eq_true, List.all_eq_true, decide_eq_true_eq, List.mem_range] at h
  rw [getD_range c hi] at h
  refine ⟨h.1, fun j hj => ?_, fun b hb => h.2.2 b hb⟩
  have := h.2.1 j hj
  rw [getD_range c hj] at this
  exact this
theorem tab_cls : XCls K (c i) := xclsB_ok (tab_at t hi).1
theorem tab_own {j : Nat} (hj : j < 20) : kitOne K (.ref (c i)) (.ref (c j)) = some (subC i j) := (tab_at t hi).2.1 j hj
theorem tab_blt {b : String} (hb : b ∈ BS) : kitOne K (.ref (c i)) (.type b) = some (subB i b) := (tab_at t hi).2.2 b hb
end
end Gx

set_option maxRecDepth 100000
set_option maxHeartbeats 4000000
namespace Kl
open PySem PySem.Spec PyProof.Rows L2 Gx
def topS (i : Nat) : Stmt := PySem.Challenge.pw_linkbooks_k02_errors_and_integers.main.body.getD i (.Pass ⟨0, 0, 0, 0⟩)
abbrev s_is_integer : Stmt := topS 24
theorem sc_is_integer : FnScope ["value"] ["value"] (defScope s_is_integer) := ⟨rfl, rfl, rfl, by decide +kernel, rfl, by decide +kernel, by decide +kernel⟩
abbrev s_is_count : Stmt := topS 25
theorem sc_is_count : FnScope ["value"] ["value"] (defScope s_is_count) := ⟨rfl, rfl, rfl, by decide +kernel, rfl, by decide +kernel, by decide +kernel⟩
abbrev s_law_dice : Stmt := topS 27
theorem sc_law_dice : FnScope ["_law_script", "_law_spot", "_law_cell", "_law_left"] ["_law_script", "_law_spot"] (defScope s_law_dice) := ⟨rfl, rfl, rfl, by decide +kernel, rfl, by decide +kernel, by decide +kernel⟩
abbrev s_law_roll : Stmt := topS 28
theorem sc_law_roll : FnScope ["_law_dice_here", "_law_total", "_law_found", "_law_one", "_law_two"] ["_law_dice_here", "_law_total"] (defScope s_law_roll) := ⟨rfl, rfl, rfl, by decide +kernel, rfl, by decide +kernel, by decide +kernel⟩
abbrev s_law_pick : Stmt := topS 29
theorem sc_law_pick : FnScope ["_law_dice_here", "_law_items"] ["_law_dice_here", "_law_items"] (defScope s_law_pick) := ⟨rfl, rfl, rfl, by decide +kernel, rfl, by decide +kernel, by decide +kernel⟩
abbrev s_law_number : Stmt := topS 30
theorem sc_law_number : FnScope ["_law_dice_here", "_law_near", "_law_number_here"] ["_law_dice_here"] (defScope s_law_number) := ⟨rfl, rfl, rfl, by decide +kernel, rfl, by decide +kernel, by decide +kernel⟩
abbrev s_law_own : Stmt := topS 31
theorem sc_law_own : FnScope ["_law_error", "_law_found"] ["_law_error"] (defScope s_law_own) := ⟨rfl, rfl, rfl, by decide +kernel, rfl, by decide +kernel, by decide +kernel⟩
abbrev s_law_all : Stmt := topS 32
theorem sc_law_all : FnScope ["_law_error", "_law_found"] ["_law_error"] (defScope s_law_all) := ⟨rfl, rfl, rfl, by decide +kernel, rfl, by decide +kernel, by decide +kernel⟩
abbrev s_law_messages : Stmt := topS 33
theorem sc_law_messages : FnScope ["_law_found"] [] (defScope s_law_messages) := ⟨rfl, rfl, rfl, by decide +kernel, rfl, by decide +kernel, by decide +kernel⟩
abbrev s_law_kept : Stmt := topS 34
theorem sc_law_kept : FnScope ["_law_value", "_law_index", "_law_parse", "_law_unknown", "_law_absent", "_law_empty", "_law_number_here", "_law_undo", "_law_limit", "_law_refused", "_law_spoilt", "_law_found"] ["_law_value", "_law_index"] (defScope s_law_kept) := ⟨rfl, rfl, rfl, by decide +kernel, rfl, by decide +kernel, by decide +kernel⟩
abbrev s_law_caught : Stmt := topS 35
theorem sc_law_caught : FnScope ["_law_value", "_law_way", "e"] ["_law_value", "_law_way"] (defScope s_law_caught) := ⟨rfl, rfl, rfl, by decide +kernel, rfl, by decide +kernel, by decide +kernel⟩
abbrev s_law_right : Stmt := topS 36
theorem sc_law_right : FnScope ["_law_value", "_law_index", "_law_due", "_law_letter", "_law_way"] ["_law_value", "_law_index"] (defScope s_law_right) := ⟨rfl, rfl, rfl, by decide +kernel, rfl, by decide +kernel, by decide +kernel⟩
abbrev s_law : Stmt := topS 37
theorem sc_law : FnScope ["_law_script", "_law_spot", "_law_dice_here", "_law_number_here", "_law_is_due", "_law_some", "_law_index", "_law_value"] ["_law_script"] (defScope s_law) := ⟨rfl, rfl, rfl, by decide +kernel, rfl, by decide +kernel, by decide +kernel⟩
abbrev s_ParseError_init : Stmt := inClass (topS 12) 0
abbrev XT_ParseError (K : PySem.W.Frag) (mg : Str → Option Value) (C fI : Addr) : Prop := XTxt K mg "ParseError" "number" "ValueError.__new__" [.type "ValueError", .type "Exception", .type "BaseException", .type "object"] C fI
/-- the error ParseError as the top has made it -/
def XDef_ParseError (K : PySem.W.Frag) (mg : Str → Option Value) : Prop := ∃ (C fI : Addr) (fd : FuncData), XT_ParseError K mg C fI ∧ Fun K "__init__" "ParseError.__init__" s_ParseError_init fI fd
theorem init_ParseError {K : PySem.W.Frag} {mg : Str → Option Value} {C fI : Addr} {fd : FuncData} (T : XT_ParseError K mg C fI) (F : Fun K "__init__" "ParseError.__init__" s_ParseError_init fI fd) : InitDoes K C fI "number" := by
  intro prog w A R s x t0 v inK lim hx fresh room hq
  obtain ⟨oc, od, kV, doc, pm, an, cdv, ct, osl, rfl, lk, hcd⟩ := F.ex
  refine Att.call_fn (binds := [("self", .ref x), ("number", v)]) inK lim lk hcd room (BindsTo.of_eq (by first | rfl | with_unfolding_all rfl)) (by first | rfl | decide) (fun s₁ IC => ?_) rfl rfl rfl
  obtain ⟨h₁, tk₁, rfl⟩ := IC.toInCall.same
  have k := IC.toInCall.keep
  have hn := IC.toInCall.ns
  have inK₁ : K.In h₁ := inK.keeps k
  have hx₁ := k _ _ hx
  show wpAny _ _ (execs _ _) _ _ _
  refine wpAny_execs_cons (plainObj_wpAny_Assign_Attribute ?_)
  refine wpAny_Name (wpAny_loadName_local (v := v) (by rfl) (by rfl) hn (by first | rfl | with_unfolding_all rfl | kernel_rfl) ?_) (by decide)
  refine wpAny_Name (wpAny_loadName_local (v := .ref x) (by rfl) (by rfl) hn (by first | rfl | with_unfolding_all rfl | kernel_rfl) ?_) (by decide)
  refine PySem.W.set_plain inK₁ (ox := PySem.W.excObj C t0 none .none) (od := none) ⟨hx₁, rfl, rfl, trivial⟩ T.sa ?_
  refine exc_storeX PySem.F.store_ValueError inK₁ hx₁ T.over T.tak T.hdC (fun h₃ tk₃ dx k₃ dn dne hx₃ hn₃ => ?_)
  show wpAny _ _ (execs _ _) _ _ _
  exact wpAny_execs_nil (hq h₃ tk₃ dx ⟨fun b o hb e => k₃ b o hb (k b o e), hx₃, Nat.le_of_lt (Nat.lt_of_lt_of_le hn.lt dn), dne, hn₃⟩)
abbrev s_UnknownName_init : Stmt := inClass (topS 13) 0
abbrev XT_UnknownName (K : PySem.W.Frag) (mg : Str → Option Value) (C fI : Addr) : Prop := XTxt K mg "UnknownName" "word" "LookupError.__new__" [.type "KeyError", .type "LookupError", .type "Exception", .type "BaseException", .type "object"] C fI
/-- the error UnknownName as the top has made it -/
def XDef_UnknownName (K : PySem.W.Frag) (mg : Str → Option Value) : Prop := ∃ (C fI : Addr) (fd : FuncData), XT_UnknownName K mg C fI ∧ Fun K "__init__" "UnknownName.__init__" s_UnknownName_init fI fd
theorem init_UnknownName {K : PySem.W.Frag} {mg : Str → Option Value} {C fI : Addr} {fd : FuncData} (T : XT_UnknownName K mg C fI) (F : Fun K "__init__" "UnknownName.__init__" s_UnknownName_init fI fd) : InitDoes K C fI "word" := by
  intro prog w A R s x t0 v inK lim hx fresh room hq
  obtain ⟨oc, od, kV, doc, pm, an, cdv, ct, osl, rfl, lk, hcd⟩ := F.ex
  refine Att.call_fn (binds := [("self", .ref x), ("word", v)]) inK lim lk hcd room (BindsTo.of_eq (by first | rfl | with_unfolding_all rfl)) (by first | rfl | decide) (fun s₁ IC => ?_) rfl rfl rfl
  obtain ⟨h₁, tk₁, rfl⟩ := IC.toInCall.same
  have k := IC.toInCall.keep
  have hn := IC.toInCall.ns
  have inK₁ : K.In h₁ := inK.keeps k
  have hx₁ := k _ _ hx
  show wpAny _ _ (execs _ _) _ _ _
  refine wpAny_execs_cons (plainObj_wpAny_Assign_Attribute ?_)
  refine wpAny_Name (wpAny_loadName_local (v := v) (by rfl) (by rfl) hn (by first | rfl | with_unfolding_all rfl | kernel_rfl) ?_) (by decide)
  refine wpAny_Name (wpAny_loadName_local (v := .ref x) (by rfl) (by rfl) hn (by first | rfl | with_unfolding_all rfl | kernel_rfl) ?_) (by decide)
  refine PySem.W.set_plain inK₁ (ox := PySem.W.excObj C t0 none .none) (od := none) ⟨hx₁, rfl, rfl, trivial⟩ T.sa ?_
  refine exc_storeX Gx.store_KeyErr inK₁ hx₁ T.over T.tak T.hdC (fun h₃ tk₃ dx k₃ dn dne hx₃ hn₃ => ?_)
  show wpAny _ _ (execs _ _) _ _ _
  exact wpAny_execs_nil (hq h₃ tk₃ dx ⟨fun b o hb e => k₃ b o hb (k b o e), hx₃, Nat.le_of_lt (Nat.lt_of_lt_of_le hn.lt dn), dne, hn₃⟩)
abbrev s_AbsentKey_init : Stmt := inClass (topS 14) 0
abbrev XT_AbsentKey (K : PySem.W.Frag) (mg : Str → Option Value) (C fI : Addr) : Prop := XTxt K mg "AbsentKey" "absent" "LookupError.__new__" [.type "KeyError", .type "LookupError", .type "Exception", .type "BaseException", .type "object"] C fI
/-- the error AbsentKey as the top has made it -/
def XDef_AbsentKey (K : PySem.W.Frag) (mg : Str → Option Value) : Prop := ∃ (C fI : Addr) (fd : FuncData), XT_AbsentKey K mg C fI ∧ Fun K "__init__" "AbsentKey.__init__" s_AbsentKey_init fI fd
theorem init_AbsentKey {K : PySem.W.Frag} {mg : Str → Option Value} {C fI : Addr} {fd : FuncData} (T : XT_AbsentKey K mg C fI) (F : Fun K "__init__" "AbsentKey.__init__" s_AbsentKey_init fI fd) : InitDoes K C fI "absent" := by
  intro prog w A R s x t0 v inK lim hx fresh room hq
  obtain ⟨oc, od, kV, doc, pm, an, cdv, ct, osl, rfl, lk, hcd⟩ := F.ex
  refine Att.call_fn (binds := [("self", .ref x), ("absent", v)]) inK lim lk hcd room (BindsTo.of_eq (by first | rfl | with_unfolding_all rfl)) (by first | rfl | decide) (fun s₁ IC => ?_) rfl rfl rfl
  obtain ⟨h₁, tk₁, rfl⟩ := IC.toInCall.same
  have k := IC.toInCall.keep
  have hn := IC.toInCall.ns
  have inK₁ : K.In h₁ := inK.keeps k
  have hx₁ := k _ _ hx
  show wpAny _ _ (execs _ _) _ _ _
  refine wpAny_execs_cons (plainObj_wpAny_Assign_Attribute ?_)
  refine wpAny_Name (wpAny_loadName_local (v := v) (by rfl) (by rfl) hn (by first | rfl | with_unfolding_all rfl | kernel_rfl) ?_) (by decide)
  refine wpAny_Name (wpAny_loadName_local (v := .ref x) (by rfl) (by rfl) hn (by first | rfl | with_unfolding_all rfl | kernel_rfl) ?_) (by decide)
  refine PySem.W.set_plain inK₁ (ox := PySem.W.excObj C t0 none .none) (od := none) ⟨hx₁, rfl, rfl, trivial⟩ T.sa ?_
  refine exc_storeX Gx.store_KeyErr inK₁ hx₁ T.over T.tak T.hdC (fun h₃ tk₃ dx k₃ dn dne hx₃ hn₃ => ?_)
  show wpAny _ _ (execs _ _) _ _ _
  exact wpAny_execs_nil (hq h₃ tk₃ dx ⟨fun b o hb e => k₃ b o hb (k b o e), hx₃, Nat.le_of_lt (Nat.lt_of_lt_of_le hn.lt dn), dne, hn₃⟩)
abbrev s_EmptyHeap_init : Stmt := inClass (topS 15) 0
abbrev XT_EmptyHeap (K : PySem.W.Frag) (mg : Str → Option Value) (C fI : Addr) : Prop := XTxt K mg "EmptyHeap" "deed" "LookupError.__new__" [.type "LookupError", .type "Exception", .type "BaseException", .type "object"] C fI
/-- the error EmptyHeap as the top has made it -/
def XDef_EmptyHeap (K : PySem.W.Frag) (mg : Str → Option Value) : Prop := ∃ (C fI : Addr) (fd : FuncData), XT_EmptyHeap K mg C fI ∧ Fun K "__init__" "EmptyHeap.__init__" s_EmptyHeap_init fI fd
theorem init_EmptyHeap {K : PySem.W.Frag} {mg : Str → Option Value} {C fI : Addr} {fd : FuncData} (T : XT_EmptyHeap K mg C fI) (F : Fun K "__init__" "EmptyHeap.__init__" s_EmptyHeap_init fI fd) : InitDoes K C fI "deed" := by
  intro prog w A R s x t0 v inK lim hx fresh room hq
  obtain ⟨oc, od, kV, doc, pm, an, cdv, ct, osl, rfl, lk, hcd⟩ := F.ex
  refine Att.call_fn (binds := [("self", .ref x), ("deed", v)]) inK lim lk hcd room (BindsTo.of_eq (by first | rfl | with_unfolding_all rfl)) (by first | rfl | decide) (fun s₁ IC => ?_) rfl rfl rfl
  obtain ⟨h₁, tk₁, rfl⟩ := IC.toInCall.same
  have k := IC.toInCall.keep
  have hn := IC.toInCall.ns
  have inK₁ : K.In h₁ := inK.keeps k
  have hx₁ := k _ _ hx
  show wpAny _ _ (execs _ _) _ _ _
  refine wpAny_execs_cons (plainObj_wpAny_Assign_Attribute ?_)
  refine wpAny_Name (wpAny_loadName_local (v := v) (by rfl) (by rfl) hn (by first | rfl | with_unfolding_all rfl | kernel_rfl) ?_) (by decide)
  refine wpAny_Name (wpAny_loadName_local (v := .ref x) (by rfl) (by rfl) hn (by first | rfl | with_unfolding_all rfl | kernel_rfl) ?_) (by decide)
  refine PySem.W.set_plain inK₁ (ox := PySem.W.excObj C t0 none .none) (od := none) ⟨hx₁, rfl, rfl, trivial⟩ T.sa ?_
  refine exc_storeX PySem.F.store_LookupError inK₁ hx₁ T.over T.tak T.hdC (fun h₃ tk₃ dx k₃ dn dne hx₃ hn₃ => ?_)
  show wpAny _ _ (execs _ _) _ _ _
  exact wpAny_execs_nil (hq h₃ tk₃ dx ⟨fun b o hb e => k₃ b o hb (k b o e), hx₃, Nat.le_of_lt (Nat.lt_of_lt_of_le hn.lt dn), dne, hn₃⟩)
abbrev s_InvalidNumber_init : Stmt := inClass (topS 16) 0
abbrev XT_InvalidNumber (K : PySem.W.Frag) (mg : Str → Option Value) (C fI : Addr) : Prop := XTxt K mg "InvalidNumber" "value" "IndexError.__new__" [.type "IndexError", .type "LookupError", .type "Exception", .type "BaseException", .type "object"] C fI
/-- the error InvalidNumber as the top has made it -/
def XDef_InvalidNumber (K : PySem.W.Frag) (mg : Str → Option Value) : Prop := ∃ (C fI : Addr) (fd : FuncData), XT_InvalidNumber K mg C fI ∧ Fun K "__init__" "InvalidNumber.__init__" s_InvalidNumber_init fI fd
theorem init_InvalidNumber {K : PySem.W.Frag} {mg : Str → Option Value} {C fI : Addr} {fd : FuncData} (T : XT_InvalidNumber K mg C fI) (F : Fun K "__init__" "InvalidNumber.__init__" s_InvalidNumber_init fI fd) : InitDoes K C fI "value" := by
  intro prog w A R s x t0 v inK lim hx fresh room hq
  obtain ⟨oc, od, kV, doc, pm, an, cdv, ct, osl, rfl, lk, hcd⟩ := F.ex
  refine Att.call_fn (binds := [("self", .ref x), ("value", v)]) inK lim lk hcd room (BindsTo.of_eq (by first | rfl | with_unfolding_all rfl)) (by first | rfl | decide) (fun s₁ IC => ?_) rfl rfl rfl
  obtain ⟨h₁, tk₁, rfl⟩ := IC.toInCall.same
  have k := IC.toInCall.keep
  have hn := IC.toInCall.ns
  have inK₁ : K.In h₁ := inK.keeps k
  have hx₁ := k _ _ hx
  show wpAny _ _ (execs _ _) _ _ _
  refine wpAny_execs_cons (plainObj_wpAny_Assign_Attribute ?_)
  refine wpAny_Name (wpAny_loadName_local (v := v) (by rfl) (by rfl) hn (by first | rfl | with_unfolding_all rfl | kernel_rfl) ?_) (by decide)
  refine wpAny_Name (wpAny_loadName_local (v := .ref x) (by rfl) (by rfl) hn (by first | rfl | with_unfolding_all rfl | kernel_rfl) ?_) (by decide)
  refine PySem.W.set_plain inK₁ (ox := PySem.W.excObj C t0 none .none) (od := none) ⟨hx₁, rfl, rfl, trivial⟩ T.sa ?_
  refine exc_storeX PySem.F.store_IndexError inK₁ hx₁ T.over T.tak T.hdC (fun h₃ tk₃ dx k₃ dn dne hx₃ hn₃ => ?_)
  show wpAny _ _ (execs _ _) _ _ _
  exact wpAny_execs_nil (hq h₃ tk₃ dx ⟨fun b o hb e => k₃ b o hb (k b o e), hx₃, Nat.le_of_lt (Nat.lt_of_lt_of_le hn.lt dn), dne, hn₃⟩)
abbrev s_NothingToUndo_init : Stmt := inClass (topS 17) 0
abbrev XT_NothingToUndo (K : PySem.W.Frag) (mg : Str → Option Value) (C fI : Addr) : Prop := XTxt K mg "NothingToUndo" "many" "RuntimeError.__new__" [.type "RuntimeError", .type "Exception", .type "BaseException", .type "object"] C fI
/-- the error NothingToUndo as the top has made it -/
def XDef_NothingToUndo (K : PySem.W.Frag) (mg : Str → Option Value) : Prop := ∃ (C fI : Addr) (fd : FuncData), XT_NothingToUndo K mg C fI ∧ Fun K "__init__" "NothingToUndo.__init__" s_NothingToUndo_init fI fd
theorem init_NothingToUndo {K : PySem.W.Frag} {mg : Str → Option Value} {C fI : Addr} {fd : FuncData} (T : XT_NothingToUndo K mg C fI) (F : Fun K "__init__" "NothingToUndo.__init__" s_NothingToUndo_init fI fd) : InitDoes K C fI "many" := by
  intro prog w A R s x t0 v inK lim hx fresh room hq
  obtain ⟨oc, od, kV, doc, pm, an, cdv, ct, osl, rfl, lk, hcd⟩ := F.ex
  refine Att.call_fn (binds := [("self", .ref x), ("many", v)]) inK lim lk hcd room (BindsTo.of_eq (by first | rfl | with_unfolding_all rfl)) (by first | rfl | decide) (fun s₁ IC => ?_) rfl rfl rfl
  obtain ⟨h₁, tk₁, rfl⟩ := IC.toInCall.same
  have k := IC.toInCall.keep
  have hn := IC.toInCall.ns
  have inK₁ : K.In h₁ := inK.keeps k
  have hx₁ := k _ _ hx
  show wpAny _ _ (execs _ _) _ _ _
  refine wpAny_execs_cons (plainObj_wpAny_Assign_Attribute ?_)
  refine wpAny_Name (wpAny_loadName_local (v := v) (by rfl) (by rfl) hn (by first | rfl | with_unfolding_all rfl | kernel_rfl) ?_) (by decide)
  refine wpAny_Name (wpAny_loadName_local (v := .ref x) (by rfl) (by rfl) hn (by first | rfl | with_unfolding_all rfl | kernel_rfl) ?_) (by decide)
  refine PySem.W.set_plain inK₁ (ox := PySem.W.excObj C t0 none .none) (od := none) ⟨hx₁, rfl, rfl, trivial⟩ T.sa ?_
  refine exc_storeX PySem.F.store_RuntimeError inK₁ hx₁ T.over T.tak T.hdC (fun h₃ tk₃ dx k₃ dn dne hx₃ hn₃ => ?_)
  show wpAny _ _ (execs _ _) _ _ _
  exact wpAny_execs_nil (hq h₃ tk₃ dx ⟨fun b o hb e => k₃ b o hb (k b o e), hx₃, Nat.le_of_lt (Nat.lt_of_lt_of_le hn.lt dn), dne, hn₃⟩)
abbrev s_TooMany_init : Stmt := inClass (topS 18) 0
abbrev XT_TooMany (K : PySem.W.Frag) (mg : Str → Option Value) (C fI : Addr) : Prop := XTxt K mg "TooMany" "limit" "OverflowError.__new__" [.type "OverflowError", .type "ArithmeticError", .type "Exception", .type "BaseException", .type "object"] C fI
/-- the error TooMany as the top has made it -/
def XDef_TooMany (K : PySem.W.Frag) (mg : Str → Option Value) : Prop := ∃ (C fI : Addr) (fd : FuncData), XT_TooMany K mg C fI ∧ Fun K "__init__" "TooMany.__init__" s_TooMany_init fI fd
theorem init_TooMany {K : PySem.W.Frag} {mg : Str → Option Value} {C fI : Addr} {fd : FuncData} (T : XT_TooMany K mg C fI) (F : Fun K "__init__" "TooMany.__init__" s_TooMany_init fI fd) : InitDoes K C fI "limit" := by
  intro prog w A R s x t0 v inK lim hx fresh room hq
  obtain ⟨oc, od, kV, doc, pm, an, cdv, ct, osl, rfl, lk, hcd⟩ := F.ex
  refine Att.call_fn (binds := [("self", .ref x), ("limit", v)]) inK lim lk hcd room (BindsTo.of_eq (by first | rfl | with_unfolding_all rfl)) (by first | rfl | decide) (fun s₁ IC => ?_) rfl rfl rfl
  obtain ⟨h₁, tk₁, rfl⟩ := IC.toInCall.same
  have k := IC.toInCall.keep
  have hn := IC.toInCall.ns
  have inK₁ : K.In h₁ := inK.keeps k
  have hx₁ := k _ _ hx
  show wpAny _ _ (execs _ _) _ _ _
  refine wpAny_execs_cons (plainObj_wpAny_Assign_Attribute ?_)
  refine wpAny_Name (wpAny_loadName_local (v := v) (by rfl) (by rfl) hn (by first | rfl | with_unfolding_all rfl | kernel_rfl) ?_) (by decide)
  refine wpAny_Name (wpAny_loadName_local (v := .ref x) (by rfl) (by rfl) hn (by first | rfl | with_unfolding_all rfl | kernel_rfl) ?_) (by decide)
  refine PySem.W.set_plain inK₁ (ox := PySem.W.excObj C t0 none .none) (od := none) ⟨hx₁, rfl, rfl, trivial⟩ T.sa ?_
  refine exc_storeX PySem.F.store_OverflowError inK₁ hx₁ T.over T.tak T.hdC (fun h₃ tk₃ dx k₃ dn dne hx₃ hn₃ => ?_)
  show wpAny _ _ (execs _ _) _ _ _
  exact wpAny_execs_nil (hq h₃ tk₃ dx ⟨fun b o hb e => k₃ b o hb (k b o e), hx₃, Nat.le_of_lt (Nat.lt_of_lt_of_le hn.lt dn), dne, hn₃⟩)
abbrev s_Refused_init : Stmt := inClass (topS 19) 0
abbrev XT_Refused (K : PySem.W.Frag) (mg : Str → Option Value) (C fI : Addr) : Prop := XTxt K mg "Refused" "pledge" "ArithmeticError.__new__" [.type "ArithmeticError", .type "Exception", .type "BaseException", .type "object"] C fI
/-- the error Refused as the top has made it -/
def XDef_Refused (K : PySem.W.Frag) (mg : Str → Option Value) : Prop := ∃ (C fI : Addr) (fd : FuncData), XT_Refused K mg C fI ∧ Fun K "__init__" "Refused.__init__" s_Refused_init fI fd
theorem init_Refused {K : PySem.W.Frag} {mg : Str → Option Value} {C fI : Addr} {fd : FuncData} (T : XT_Refused K mg C fI) (F : Fun K "__init__" "Refused.__init__" s_Refused_init fI fd) : InitDoes K C fI "pledge" := by
  intro prog w A R s x t0 v inK lim hx fresh room hq
  obtain ⟨oc, od, kV, doc, pm, an, cdv, ct, osl, rfl, lk, hcd⟩ := F.ex
  refine Att.call_fn (binds := [("self", .ref x), ("pledge", v)]) inK lim lk hcd room (BindsTo.of_eq (by first | rfl | with_unfolding_all rfl)) (by first | rfl | decide) (fun s₁ IC => ?_) rfl rfl rfl
  obtain ⟨h₁, tk₁, rfl⟩ := IC.toInCall.same
  have k := IC.toInCall.keep
  have hn := IC.toInCall.ns
  have inK₁ : K.In h₁ := inK.keeps k
  have hx₁ := k _ _ hx
  show wpAny _ _ (execs _ _) _ _ _
  refine wpAny_execs_cons (plainObj_wpAny_Assign_Attribute ?_)
  refine wpAny_Name (wpAny_loadName_local (v := v) (by rfl) (by rfl) hn (by first | rfl | with_unfolding_all rfl | kernel_rfl) ?_) (by decide)
  refine wpAny_Name (wpAny_loadName_local (v := .ref x) (by rfl) (by rfl) hn (by first | rfl | with_unfolding_all rfl | kernel_rfl) ?_) (by decide)
  refine PySem.W.set_plain inK₁ (ox := PySem.W.excObj C t0 none .none) (od := none) ⟨hx₁, rfl, rfl, trivial⟩ T.sa ?_
  refine exc_storeX PySem.F.store_ArithmeticError inK₁ hx₁ T.over T.tak T.hdC (fun h₃ tk₃ dx k₃ dn dne hx₃ hn₃ => ?_)
  show wpAny _ _ (execs _ _) _ _ _
  exact wpAny_execs_nil (hq h₃ tk₃ dx ⟨fun b o hb e => k₃ b o hb (k b o e), hx₃, Nat.le_of_lt (Nat.lt_of_lt_of_le hn.lt dn), dne, hn₃⟩)
abbrev s_Spoilt_init : Stmt := inClass (topS 20) 0
abbrev XT_Spoilt (K : PySem.W.Frag) (mg : Str → Option Value) (C fI : Addr) : Prop := XTxt K mg "Spoilt" "row" "ArithmeticError.__new__" [.type "ArithmeticError", .type "Exception", .type "BaseException", .type "object"] C fI
/-- the error Spoilt as the top has made it -/
def XDef_Spoilt (K : PySem.W.Frag) (mg : Str → Option Value) : Prop := ∃ (C fI : Addr) (fd : FuncData), XT_Spoilt K mg C fI ∧ Fun K "__init__" "Spoilt.__init__" s_Spoilt_init fI fd
theorem init_Spoilt {K : PySem.W.Frag} {mg : Str → Option Value} {C fI : Addr} {fd : FuncData} (T : XT_Spoilt K mg C fI) (F : Fun K "__init__" "Spoilt.__init__" s_Spoilt_init fI fd) : InitDoes K C fI "row" := by
  intro prog w A R s x t0 v inK lim hx fresh room hq
  obtain ⟨oc, od, kV, doc, pm, an, cdv, ct, osl, rfl, lk, hcd⟩ := F.ex
  refine Att.call_fn (binds := [("self", .ref x), ("row", v)]) inK lim lk hcd room (BindsTo.of_eq (by first | rfl | with_unfolding_all rfl)) (by first | rfl | decide) (fun s₁ IC => ?_) rfl rfl rfl
  obtain ⟨h₁, tk₁, rfl⟩ := IC.toInCall.same
  have k := IC.toInCall.keep
  have hn := IC.toInCall.ns
  have inK₁ : K.In h₁ := inK.keeps k
  have hx₁ := k _ _ hx
  show wpAny _ _ (execs _ _) _ _ _
  refine wpAny_execs_cons (plainObj_wpAny_Assign_Attribute ?_)
  refine wpAny_Name (wpAny_loadName_local (v := v) (by rfl) (by rfl) hn (by first | rfl | with_unfolding_all rfl | kernel_rfl) ?_) (by decide)
  refine wpAny_Name (wpAny_loadName_local (v := .ref x) (by rfl) (by rfl) hn (by first | rfl | with_unfolding_all rfl | kernel_rfl) ?_) (by decide)
  refine PySem.W.set_plain inK₁ (ox := PySem.W.excObj C t0 none .none) (od := none) ⟨hx₁, rfl, rfl, trivial⟩ T.sa ?_
  refine exc_storeX PySem.F.store_ArithmeticError inK₁ hx₁ T.over T.tak T.hdC (fun h₃ tk₃ dx k₃ dn dne hx₃ hn₃ => ?_)
  show wpAny _ _ (execs _ _) _ _ _
  exact wpAny_execs_nil (hq h₃ tk₃ dx ⟨fun b o hb e => k₃ b o hb (k b o e), hx₃, Nat.le_of_lt (Nat.lt_of_lt_of_le hn.lt dn), dne, hn₃⟩)
/-- all errors of the program, c i the i-th -/
structure Errs (K : PySem.W.Frag) (mg : Str → Option Value) (c : Nat → Addr) : Prop where
  tab : tabB K ((List.range 20).map c) = true
  p_LinkError : XPln K mg "LinkError" "ValueError.__new__" "ValueError.__init__" [.type "ValueError", .type "Exception", .type "BaseException", .type "object"] (c 0)
  p_InvalidKinds : XPln K mg "InvalidKinds" "ValueError.__new__" "ValueError.__init__" [.type "ValueError", .type "Exception", .type "BaseException", .type "object"] (c 1)
  p_InvalidRow : XPln K mg "InvalidRow" "ValueError.__new__" "ValueError.__init__" [.type "ValueError", .type "Exception", .type "BaseException", .type "object"] (c 2)
  p_InvalidReader : XPln K mg "InvalidReader" "ValueError.__new__" "ValueError.__init__" [.type "ValueError", .type "Exception", .type "BaseException", .type "object"] (c 3)
  p_InvalidPage : XPln K mg "InvalidPage" "ValueError.__new__" "ValueError.__init__" [.type "ValueError", .type "Exception", .type "BaseException", .type "object"] (c 4)
  p_InvalidBook : XPln K mg "InvalidBook" "ValueError.__new__" "ValueError.__init__" [.type "ValueError", .type "Exception", .type "BaseException", .type "object"] (c 5)
  p_InvalidTree : XPln K mg "InvalidTree" "ValueError.__new__" "ValueError.__init__" [.type "ValueError", .type "Exception", .type "BaseException", .type "object"] (c 6)
  p_InvalidHeap : XPln K mg "InvalidHeap" "ValueError.__new__" "ValueError.__init__" [.type "ValueError", .type "Exception", .type "BaseException", .type "object"] (c 7)
  p_InvalidPlan : XPln K mg "InvalidPlan" "ValueError.__new__" "ValueError.__init__" [.type "ValueError", .type "Exception", .type "BaseException", .type "object"] (c 8)
  p_InvalidPaper : XPln K mg "InvalidPaper" "ValueError.__new__" "ValueError.__init__" [.type "ValueError", .type "Exception", .type "BaseException", .type "object"] (c 9)
  p_InvalidOperation : XPln K mg "InvalidOperation" "ValueError.__new__" "ValueError.__init__" [.type "ValueError", .type "Exception", .type "BaseException", .type "object"] (c 10)
  x_ParseError : ∃ (fI : Addr) (fd : FuncData), XT_ParseError K mg (c 11) fI ∧ Fun K "__init__" "ParseError.__init__" s_ParseError_init fI fd
  x_UnknownName : ∃ (fI : Addr) (fd : FuncData), XT_UnknownName K mg (c 12) fI ∧ Fun K "__init__" "UnknownName.__init__" s_UnknownName_init fI fd
  x_AbsentKey : ∃ (fI : Addr) (fd : FuncData), XT_AbsentKey K mg (c 13) fI ∧ Fun K "__init__" "AbsentKey.__init__" s_AbsentKey_init fI fd
  x_EmptyHeap : ∃ (fI : Addr) (fd : FuncData), XT_EmptyHeap K mg (c 14) fI ∧ Fun K "__init__" "EmptyHeap.__init__" s_EmptyHeap_init fI fd
  x_InvalidNumber : ∃ (fI : Addr) (fd : FuncData), XT_InvalidNumber K mg (c 15) fI ∧ Fun K "__init__" "InvalidNumber.__init__" s_InvalidNumber_init fI fd
  x_NothingToUndo : ∃ (fI : Addr) (fd : FuncData), XT_NothingToUndo K mg (c 16) fI ∧ Fun K "__init__" "NothingToUndo.__init__" s_NothingToUndo_init fI fd
  x_TooMany : ∃ (fI : Addr) (fd : FuncData), XT_TooMany K mg (c 17) fI ∧ Fun K "__init__" "TooMany.__init__" s_TooMany_init fI fd
  x_Refused : ∃ (fI : Addr) (fd : FuncData), XT_Refused K mg (c 18) fI ∧ Fun K "__init__" "Refused.__init__" s_Refused_init fI fd
  x_Spoilt : ∃ (fI : Addr) (fd : FuncData), XT_Spoilt K mg (c 19) fI ∧ Fun K "__init__" "Spoilt.__init__" s_Spoilt_init fI fd
/-- what the walk asks of the top -/
structure Top (K : PySem.W.Frag) (mg : Str → Option Value) : Prop where
  b_ArithmeticError : mg "ArithmeticError" = none
  b_IndexError : mg "IndexError" = none
  b_KeyError : mg "KeyError" = none
  b_LookupError : mg "LookupError" = none
  b_OverflowError : mg "OverflowError" = none
  b_RuntimeError : mg "RuntimeError" = none
  b_ValueError : mg "ValueError" = none
  b_abs : mg "abs" = none
  b_bool : mg "bool" = none
  b_int : mg "int" = none
  b_isinstance : mg "isinstance" = none
  b_len : mg "len" = none
  b_max : mg "max" = none
  b_min : mg "min" = none
  b_range : mg "range" = none
  b_repr : mg "repr" = none
  b_str : mg "str" = none
  g_MAX_FIGURES : ∃ t, mg "MAX_FIGURES" = some (.int 60 t)
  g__TOO_LONG : ∃ t, mg "_TOO_LONG" = some (.int 1000000000000000000000000000000000000000000000000000000000000 t)
  d_is_integer : Def K mg "is_integer" "is_integer" s_is_integer ["value"]
  d_is_count : Def K mg "is_count" "is_count" s_is_count ["value"]
  d_law_dice : Def K mg "_law_dice" "_law_dice" s_law_dice ["_law_script", "_law_spot"]
  d_law_roll : Def K mg "_law_roll" "_law_roll" s_law_roll ["_law_dice_here", "_law_total"]
  d_law_pick : Def K mg "_law_pick" "_law_pick" s_law_pick ["_law_dice_here", "_law_items"]
  d_law_number : Def K mg "_law_number" "_law_number" s_law_number ["_law_dice_here"]
  d_law_own : Def K mg "_law_own" "_law_own" s_law_own ["_law_error"]
  d_law_all : Def K mg "_law_all" "_law_all" s_law_all ["_law_error"]
  d_law_messages : Def K mg "_law_messages" "_law_messages" s_law_messages []
  d_law_kept : Def K mg "_law_kept" "_law_kept" s_law_kept ["_law_value", "_law_index"]
  d_law_caught : Def K mg "_law_caught" "_law_caught" s_law_caught ["_law_value", "_law_way"]
  d_law_right : Def K mg "_law_right" "_law_right" s_law_right ["_law_value", "_law_index"]
  errs : ∃ c, Errs K mg c
end Kl

set_option maxRecDepth 100000
set_option maxHeartbeats 4000000
namespace Kl
open PySem PySem.Spec PyProof.Rows L2 Gx Mx
section
variable {P : Program} {w : World} {K : PySem.W.Frag} {mg : Str → Option Value} {base : Heap}
/-! ### kinds of values -/
theorem tyx_same {H H' : Hp} (sm : Same H H') {v : V} {t : Value} (h : TyX K H v t) : TyX K H' v t := by
  cases h with
  | base b =>
    cases b with
    | non => exact .base .non
    | bl x => exact .base (.bl x)
    | int i => exact .base (.int i)
    | str x => exact .base (.str x)
    | flt x => exact .base (.flt x)
    | lst e => exact .base (.lst (sm _ _ e))
    | frz e => exact .base (.frz (sm _ _ e))
    | tup e => exact .base (.tup (sm _ _ e))
    | dK e => exact .base (.dK (sm _ _ e))
    | dT e => exact .base (.dT (sm _ _ e))
    | ins e cl ha hn htk hm => exact .base (.ins (sm _ _ e) cl ha hn htk hm)
  | byt b => exact .byt b
  | set e => exact .set (sm _ _ e)
  | kList e c => exact .kList e c
  | kTuple e c => exact .kTuple e c
  | kDict e c => exact .kDict e c
  | fTuple e => exact .fTuple (sm _ _ e)
  | fDict e => exact .fDict (sm _ _ e)
/-- the value is no instance of this built-in class -/
def Not (K : PySem.W.Frag) (H : Hp) (v : V) (T : String) : Prop := ∃ t, TyX K H v t ∧ PySem.W.kitOne K t (.type T) = some false
theorem Not.same {H H' : Hp} (sm : Same H H') {v : V} {T : String} (h : Not K H v T) : Not K H' v T := by
  obtain ⟨t, a, b⟩ := h
  exact ⟨t, tyx_same sm a, b⟩
/-- text, or not -/
def NameArg (K : PySem.W.Frag) (H : Hp) (v : V) : Prop := (∃ z : Str, v = .str z ∧ z.length ≤ sizeLine) ∨ ((∀ z, v ≠ .str z) ∧ Not K H v "str")
theorem NameArg.same {H H' : Hp} (sm : Same H H') {v : V} (h : NameArg K H v) : NameArg K H' v := by
  rcases h with h | ⟨a, b⟩
  · exact .inl h
  · exact .inr ⟨a, b.same sm⟩
/-- int, truth, or neither -/
def IntArg (K : PySem.W.Frag) (H : Hp) (v : V) : Prop := (∃ i, v = .int i) ∨ (∃ b, v = .bl b) ∨ ((∀ i, v ≠ .int i) ∧ Not K H v "int")
theorem IntArg.same {H H' : Hp} (sm : Same H H') {v : V} (h : IntArg K H v) : IntArg K H' v := by
  rcases h with h | h | ⟨a, b⟩
  · exact .inl h
  · exact .inr (.inl h)
  · exact .inr (.inr ⟨a, b.same sm⟩)
/-! ### is_integer, is_count -/
def TEN60 : Int := 1000000000000000000000000000000000000000000000000000000000000
def intV : V → Bool
  | .int i => decide (-TEN60 < i) && decide (i < TEN60)
  | _ => false
def cntV : V → Bool
  | .int i => (decide (-TEN60 < i) && decide (i < TEN60)) && decide (0 ≤ i)
  | _ => false
def spInt (K : PySem.W.Frag) : Sp := fun vs H Q _ => ∃ v : V, vs = [v] ∧ IntArg K H v ∧ Q (.bl (intV v)) H
theorem ok_int {f : Addr} {fd : FuncData} (F : Fun K "is_integer" "is_integer" s_is_integer f fd) (T : Top K mg) : FnOk P w K mg base CX0 1 f fd ["value"] (spInt K) := by
  obtain ⟨tm, gm⟩ := T.g__TOO_LONG
  refine F.ok sc_is_integer (fun vs H Q E h => ?_) (fun cdv A outer s H vs Q E hr h => ?_)
  · obtain ⟨v, rfl, _⟩ := h
    rfl
  · obtain ⟨v, rfl, hv, q⟩ := h
    refine ⟨_, pss_cons (ps_if (PW.pt (pw_or (pt_not (pt_val (pe_callB call_isi (by rfl) T.b_isinstance (by decide +kernel) (pa_cons (pv 0) (pa_cons (pe_bltn (v := .ty "int") (by rfl) T.b_int (by decide +kernel) rfl) pa_nil)))))
          (pw_or1 (pt_val (pe_callB call_isi (by rfl) T.b_isinstance (by decide +kernel) (pa_cons (pv 0) (pa_cons (pe_bltn (v := .ty "bool") (by rfl) T.b_bool (by decide +kernel) rfl) pa_nil)))))))
        (pss_one (ps_ret pe_bl)) pss_nil)
      (pss_one (ps_ret (pe_chain op_lt op_lt (pe_un un_neg (pe_glob (v := .int TEN60) (by rfl) gm ⟨_, rfl⟩)) (pv 0) (pe_glob (v := .int TEN60) (by rfl) gm ⟨_, rfl⟩)))), ?_⟩
    rcases hv with ⟨i, rfl⟩ | ⟨b, rfl⟩ | ⟨hn, t, ht, hk⟩
    · refine ⟨_, rfl, _, .ty "int", .type "int", .type "int", true, rfl, .ty _, .base (.int i), kit_ty (by decide +kernel), true, rfl, ?_⟩
      refine ⟨_, rfl, _, .ty "bool", .type "int", .type "bool", false, rfl, .ty _, .base (.int i), kit_ty (by decide +kernel), false, rfl, ?_⟩
      refine ⟨_, rfl, _, rfl, _, _, rfl, rfl, _, rfl, ?_⟩
      have q' : Q (.bl (decide (-TEN60 < i) && decide (i < TEN60))) H := q
      cases e : decide (-TEN60 < i) with
      | false =>
        rw [e] at q'
        exact q'
      | true =>
        rw [e] at q'
        exact ⟨_, _, rfl, rfl, q'⟩
    · refine ⟨_, rfl, _, .ty "int", .type "bool", .type "int", true, rfl, .ty _, .base (.bl b), kit_ty (by decide +kernel), true, rfl, ?_⟩
      exact ⟨_, rfl, _, .ty "bool", .type "bool", .type "bool", true, rfl, .ty _, .base (.bl b), kit_ty (by decide +kernel), true, rfl, q⟩
    · refine ⟨_, rfl, _, .ty "int", t, .type "int", false, rfl, .ty _, ht, hk, false, rfl, ?_⟩
      have e : intV v = false := by
        cases v with
        | int i => exact absurd rfl (hn i)
        | _ => rfl
      rw [e] at q
      exact q
def spCnt (K : PySem.W.Frag) : Sp := fun vs H Q _ => ∃ v : V, vs = [v] ∧ IntArg K H v ∧ Q (.bl (cntV v)) H
theorem ok_cnt {f : Addr} {fd : FuncData} (F : Fun K "is_count" "is_count" s_is_count f fd) (T : Top K mg) : FnOk P w K mg base CX0 2 f fd ["value"] (spCnt K) := by
  have ci : Cal P w K mg base 1 "is_integer" ["value"] (spInt K) := T.d_is_integer.cal fun f fd F => ok_int F T
  refine F.ok sc_is_count (fun vs H Q E h => ?_) (fun cdv A outer s H vs Q E hr h => ?_)
  · obtain ⟨v, rfl, _⟩ := h
    rfl
  · obtain ⟨v, rfl, hv, q⟩ := h
    refine ⟨_, pss_one (ps_ret (pe_and (pe_cal ci hr (by rfl) (pa_cons (pv 0) pa_nil)) (pe_one (pe_cmpR op_ge (pv 0) pe_int (nomark _))))), ?_⟩
    refine ⟨_, rfl, v, rfl, hv, _, rfl, ?_⟩
    cases v with
    | int i =>
      have q' : Q (.bl (intV (.int i) && decide (0 ≤ i))) H := q
      cases e : intV (.int i) with
      | false =>
        rw [e] at q'
        exact q'
      | true =>
        rw [e] at q'
        exact ⟨_, rfl, _, _, rfl, rfl, q'⟩
    | _ => exact q
end
end Kl

set_option maxRecDepth 100000
set_option maxHeartbeats 4000000
namespace Kl
open PySem PySem.Spec PyProof.Rows L2 Gx Mx
section
variable {P : Program} {w : World} {K : PySem.W.Frag} {mg : Str → Option Value} {base : Heap}
/-! ### the law's dice -/
def spDice (K : PySem.W.Frag) : Sp := fun vs H Q _ => ∃ (a : Addr) (ns : List Int) (i : Nat), vs = [.ref a, .int i] ∧ SqL K H a (ns.map V.int) ∧ ns.length ≤ 63 ∧ i ≤ 1000 ∧
  ∀ (p : Addr) (x b : Int), H p = none → Q (.ref p) (upd H p (.lst [.int x, .int b, .int 0]))
theorem ok_dice {f : Addr} {fd : FuncData} (F : Fun K "_law_dice" "_law_dice" s_law_dice f fd) (T : Top K mg) : FnOk P w K mg base CX0 1 f fd ["_law_script", "_law_spot"] (spDice K) := by
  refine F.ok sc_law_dice (fun vs H Q E h => ?_) (fun cdv A outer s H vs Q E hr h => ?_)
  · obtain ⟨a, ns, i, rfl, _⟩ := h
    rfl
  · obtain ⟨a, ns, i, rfl, hS, hlen, hi, q⟩ := h
    refine ⟨_, pss_cut (ps_set (i := 2) sc_law_dice.nd rfl (.inl rfl) (pe_ifExp
        (pt_cmpR op_lt (pv 1) (pe_callB call_len_seq (by rfl) T.b_len PySem.boot_len (pa_cons (pv 0) pa_nil)) (nomark _))
        (pe_callTy call_int1 (by rfl) T.b_int (by decide +kernel) (pa_cons (pe_ix ix_list (pv 0) (pv 1) (fun _ _ => rfl)) pa_nil))
        (pe_op op_add (pe_op op_mul pe_int (pv 1)) pe_int)))
      (pss_cons (ps_set (i := 3) sc_law_dice.nd rfl (.inl rfl) (pe_op op_mod
        (pe_callB (call_max2 rfl) (by rfl) T.b_max (by decide +kernel) (pa_cons pe_int (pa_cons (pe_op op_sub
          (pe_callB call_abs (by rfl) T.b_abs (by decide +kernel) (pa_cons (pv 2) pa_nil)) (pe_op op_pow pe_int pe_int)) pa_nil)))
        (pe_op op_mulW (pe_op op_pow pe_int pe_int) (pe_op op_pow pe_int pe_int))))
      (pss_one (ps_ret (pe_lst (pa_cons (pv 3) (pa_cons
        (pe_op op_add (pe_op op_add (pe_op op_add (pe_op op_mul (pe_op op_mod (pe_callB call_abs (by rfl) T.b_abs (by decide +kernel) (pa_cons (pv 2) pa_nil)) pe_int) pe_int)
          (pe_op op_mul pe_int (pv 1)))
          (pe_op op_mul pe_int (pe_callTy call_int1 (by rfl) T.b_int (by decide +kernel) (pa_cons (pe_cmpR op_lt (pv 2) pe_int (nomark _)) pa_nil)))) pe_int)
        (pa_cons pe_int pa_nil))))))), ?_⟩
    refine ⟨fun σ' H' => ∃ c : Int, σ' = [some (.ref a), some (.int i), some (.int c), none] ∧ H' = H, ?_, ?_⟩
    · refine ⟨_, rfl, .ref a, rfl, a, _, rfl, .inl hS, _, _, rfl, rfl, _, rfl, ite2 (fun e => ?_) (fun e => ?_)⟩
      · have e' : i < ns.length := by
          have := of_decide_eq_true e
          rw [List.length_map] at this
          omega
        refine ⟨.ref a, rfl, .int i, rfl, a, _, _, .int ns[i], rfl, rfl, hS, atI_nat (by rw [List.getElem?_map, List.getElem?_eq_getElem e']; rfl), .inl ⟨_, rfl, ns[i], rfl, rfl⟩⟩
      · refine ⟨_, rfl, _, _, rfl, rfl, .inl ⟨by decide, by decide⟩, _, _, rfl, rfl, _, rfl, rfl⟩
    · rintro σ' H' ⟨c, rfl, rfl⟩
      refine ⟨_, rfl, _, rfl, ?_⟩
      refine ⟨_, _, rfl, rfl, ⟨by decide, by decide, by decide⟩, ?_⟩
      refine ⟨_, _, rfl, rfl, ?_⟩
      refine ⟨_, _, rfl, ?_⟩
      refine ⟨_, _, rfl, rfl, ⟨by decide, by decide, by decide⟩, ?_⟩
      refine ⟨_, _, rfl, rfl, ⟨by decide, by decide, by decide⟩, ?_⟩
      refine ⟨_, _, rfl, rfl, wide_mul (a := 200) (b := 200) (by decide) (by decide) (by decide) (by decide) (by decide), ?_⟩
      refine ⟨_, _, rfl, rfl, by show (0 : Int) < _; decide, ?_⟩
      generalize (if (if c < 0 then -c else c) - 10 ^ Int.toNat 17 > 0 then (if c < 0 then -c else c) - 10 ^ Int.toNat 17 else 0) % (10 ^ Int.toNat 60 * 10 ^ Int.toNat 60) = left
      refine ⟨_, rfl, _, rfl, _, rfl, _, _, rfl, rfl, by show (0 : Int) < _; decide, _, _, rfl, rfl, .inr ⟨by decide, by decide⟩, ?_⟩
      refine ⟨_, rfl, _, _, rfl, rfl, .inl ⟨by decide, by decide⟩, _, _, rfl, rfl, _, rfl, _, _, rfl, rfl, .inr ⟨_, rfl, ?_⟩⟩
      refine ⟨_, _, rfl, rfl, .inl ⟨by decide, by decide⟩, _, _, rfl, rfl, _, _, rfl, rfl, by show 3 ≤ sizeLine; decide, fun p hp => ?_⟩
      exact q p _ _ hp
def spRoll : Sp := fun vs H Q _ => ∃ (d : Addr) (t : Int), vs = [.ref d, .int t] ∧ DiceAt H d ∧ 0 < t ∧ t.natAbs.log2 < 9000 ∧
  ∀ (r x b c : Int), 0 ≤ r → r < t → Q (.int r) (upd H d (.lst [.int x, .int b, .int c]))
theorem ok_roll {f : Addr} {fd : FuncData} (F : Fun K "_law_roll" "_law_roll" s_law_roll f fd) (T : Top K mg) : FnOk P w K mg base CX0 1 f fd ["_law_dice_here", "_law_total"] spRoll := by
  refine F.ok sc_law_roll (fun vs H Q E h => ?_) (fun cdv A outer s H vs Q E hr h => ?_)
  · obtain ⟨d, t, rfl, _⟩ := h
    rfl
  · obtain ⟨d, t, rfl, ⟨x, b, c, hd⟩, ht, ht2, q⟩ := h
    refine ⟨_, pss_cons (ps_if (pt_cmpR op_gt (pe_ix ix_list (pv 0) pe_int (fun _ _ => rfl)) pe_int (nomark _))
        (pss_cons (ps_set (i := 2) sc_law_roll.nd rfl (.inl rfl) (pe_op op_mod (pe_callTy call_int1 (by rfl) T.b_int (by decide +kernel) (pa_cons (pe_ix ix_list (pv 0) pe_int (fun _ _ => rfl)) pa_nil)) (pv 1)))
        (pss_cons (ps_asg (pe_op op_fdivW (pe_ix ix_list (pv 0) pe_int (fun _ _ => rfl)) (pv 1)) (pg_sub (pv 0) pe_int set_list))
        (pss_one (ps_ret (pv 2))))) pss_nil)
      (pss_cons (ps_asg (pe_op op_add (pe_ix ix_list (pv 0) pe_int (fun _ _ => rfl)) pe_int) (pg_sub (pv 0) pe_int set_list))
      (pss_cons (ps_set (i := 3) sc_law_roll.nd rfl (.inl rfl) (pe_op op_mod (pe_callTy call_int1 (by rfl) T.b_int (by decide +kernel) (pa_cons
        (pe_op op_add (pe_ix ix_list (pv 0) pe_int (fun _ _ => rfl)) (pe_op op_mul pe_int (pe_ix ix_list (pv 0) pe_int (fun _ _ => rfl)))) pa_nil)) pe_int))
      (pss_cons (ps_set (i := 4) sc_law_roll.nd rfl (.inl rfl) (pe_op op_add (pe_op op_mul (pe_op op_mod (pe_callTy call_int1 (by rfl) T.b_int (by decide +kernel) (pa_cons
        (pe_op op_add (pe_op op_mul (pv 3) (pv 3)) (pe_op op_mul pe_int (pe_ix ix_list (pv 0) pe_int (fun _ _ => rfl)))) pa_nil)) pe_int) pe_int) (pv 3)))
      (pss_one (ps_ret (pe_op op_mod (pe_callTy call_int1 (by rfl) T.b_int (by decide +kernel) (pa_cons (pe_op op_fdiv (pv 4) pe_int) pa_nil)) (pv 1))))))), ?_⟩
    have at0 : ∀ (x y z : V), atI [x, y, z] 0 = some x := fun x y z => atI_nat (j := 0) rfl
    have at1 : ∀ (x y z : V), atI [x, y, z] 1 = some y := fun x y z => atI_nat (j := 1) rfl
    have at2 : ∀ (x y z : V), atI [x, y, z] 2 = some z := fun x y z => atI_nat (j := 2) rfl
    have hS : SqL K H d [.int x, .int b, .int c] := .inl (.inl hd)
    refine ⟨_, rfl, d, _, _, _, rfl, rfl, hS, at0 _ _ _, _, _, rfl, rfl, _, rfl, ite2 (fun e => ?_) (fun e => ?_)⟩
    · refine ⟨_, rfl, d, _, _, _, rfl, rfl, hS, at0 _ _ _, .inl ⟨_, rfl, _, rfl, _, _, rfl, rfl, ht, ?_⟩⟩
      refine ⟨_, rfl, d, _, _, _, rfl, rfl, hS, at0 _ _ _, _, rfl, _, _, rfl, rfl, ⟨ht, ht2⟩, ?_⟩
      refine ⟨_, rfl, d, _, _, 0, rfl, rfl, hd, rfl, ?_⟩
      refine ⟨_, rfl, ?_⟩
      exact q _ _ _ _ (Int.emod_nonneg _ (by omega)) (Int.emod_lt_of_pos _ ht)
    · refine ⟨_, rfl, d, _, _, _, rfl, rfl, hS, at2 _ _ _, _, _, rfl, rfl, ?_⟩
      refine ⟨_, rfl, d, _, _, 2, rfl, rfl, hd, rfl, ?_⟩
      have hd1 : (upd H d (.lst ([V.int x, V.int b, V.int c].set 2 (.int (c + 1))))) d = some (.lst [V.int x, V.int b, V.int (c + 1)]) := upd_same
      have hS1 : SqL K (upd H d (.lst ([V.int x, V.int b, V.int c].set 2 (.int (c + 1))))) d [V.int x, V.int b, V.int (c + 1)] := .inl (.inl hd1)
      refine ⟨_, rfl, d, _, _, _, rfl, rfl, hS1, at1 _ _ _, _, rfl, d, _, _, _, rfl, rfl, hS1, at2 _ _ _, _, _, rfl, rfl, .inl ⟨by decide, by decide⟩, _, _, rfl, rfl, .inl ⟨_, rfl, ?_⟩⟩
      refine ⟨_, _, rfl, rfl, by show (0 : Int) < _; decide, ?_⟩
      have h1 := Int.emod_nonneg (b + 7919 * (c + 1)) (show (2305843009213693907 : Int) ≠ 0 by decide)
      have h2 := Int.emod_lt_of_pos (b + 7919 * (c + 1)) (show (0 : Int) < 2305843009213693907 by decide)
      generalize (b + 7919 * (c + 1)) % 2305843009213693907 = one at h1 h2
      refine ⟨_, rfl, _, rfl, _, _, rfl, rfl, .inl ⟨by omega, by omega⟩, _, rfl, d, _, _, _, rfl, rfl, hS1, at2 _ _ _, _, _, rfl, rfl, .inl ⟨by decide, by decide⟩, _, _, rfl, rfl, .inl ⟨_, rfl, ?_⟩⟩
      refine ⟨_, _, rfl, rfl, by show (0 : Int) < _; decide, _, _, rfl, rfl, .inr ⟨by decide, by decide⟩, _, rfl, _, _, rfl, rfl, ?_⟩
      refine ⟨_, rfl, _, _, rfl, rfl, ⟨by decide, by decide⟩, .inl ⟨_, rfl, _, rfl, _, _, rfl, rfl, ht, ?_⟩⟩
      exact q _ _ _ _ (Int.emod_nonneg _ (by omega)) (Int.emod_lt_of_pos _ ht)
/-- what may be picked from: the items of a list, a tuple, a text -/
def Items (K : PySem.W.Frag) (H : Hp) (d : Addr) (x : V) (xs : List V) : Prop :=
  (∃ p, x = .ref p ∧ p ≠ d ∧ (SqL K H p xs ∨ SqT K H p xs)) ∨ ∃ z : Str, x = .str z ∧ xs = signV z ∧ z.length ≤ sizeLine
def spPick (K : PySem.W.Frag) : Sp := fun vs H Q _ => ∃ (d : Addr) (x : V) (xs : List V), vs = [.ref d, x] ∧ DiceAt H d ∧ Items K H d x xs ∧ xs ≠ [] ∧ xs.length ≤ 100000 ∧
  ∀ (v : V) (x b c : Int), v ∈ xs → Q v (upd H d (.lst [.int x, .int b, .int c]))
theorem log2_small {n : Nat} (h : n ≤ 100000) : ((n : Int).natAbs).log2 < 9000 := by
  have h1 : ((n : Int).natAbs) < 2 ^ 20 := by
    rw [Int.natAbs_natCast]
    exact Nat.lt_of_le_of_lt h (by decide)
  exact Nat.lt_of_lt_of_le (PySem.Flt.log2_lt_of (by decide) h1) (by decide)
theorem ok_pick {f : Addr} {fd : FuncData} (F : Fun K "_law_pick" "_law_pick" s_law_pick f fd) (T : Top K mg) : FnOk P w K mg base CX0 2 f fd ["_law_dice_here", "_law_items"] (spPick K) := by
  have cr : Cal P w K mg base 1 "_law_roll" ["_law_dice_here", "_law_total"] spRoll := T.d_law_roll.cal fun f fd F => ok_roll F T
  refine F.ok sc_law_pick (fun vs H Q E h => ?_) (fun cdv A outer s H vs Q E hr h => ?_)
  · obtain ⟨d, x, xs, rfl, _⟩ := h
    rfl
  · obtain ⟨d, x, xs, rfl, hd, hI, hne, hlen, q⟩ := h
    refine ⟨_, pss_one (ps_ret (pe_ix ix_seq (pv 1) (pe_cal cr hr (by rfl) (pa_cons (pv 0) (pa_cons (pe_callB call_len (by rfl) T.b_len PySem.boot_len (pa_cons (pv 1) pa_nil)) pa_nil))) (fun _ _ => rfl))), ?_⟩
    have hpos : 0 < xs.length := List.length_pos_iff.mpr hne
    rcases hI with ⟨p, rfl, hp, hs⟩ | ⟨z, rfl, rfl, hz⟩
    · refine ⟨_, rfl, _, rfl, _, rfl, _, (xs.length : Nat), rfl, ?_, ?_⟩
      · rcases hs with hs | hs
        · exact .inl ⟨_, hs, rfl⟩
        · exact .inr ⟨_, hs, rfl⟩
      · refine ⟨d, _, rfl, hd, by omega, log2_small hlen, fun r x b c h0 h1 => ?_⟩
        obtain ⟨v, hv, ha⟩ := atI_int (xs := xs) h0 h1
        rcases hs with hs | hs
        · exact .inl ⟨p, _, _, v, rfl, rfl, sqL_ne hp hs, ha, q v x b c hv⟩
        · exact .inr (.inl ⟨p, _, _, v, rfl, rfl, sqT_ne hp hs, ha, q v x b c hv⟩)
    · have hlz := signV_len z
      refine ⟨_, rfl, _, rfl, _, rfl, _, (z.length : Nat), rfl, ⟨hz, rfl⟩, ?_⟩
      refine ⟨d, _, rfl, hd, by omega, log2_small (by omega), fun r x b c h0 h1 => ?_⟩
      obtain ⟨v, hv, ha⟩ := atI_int (xs := z.cps.toList) h0 (by rw [Array.length_toList]; exact h1)
      exact .inr (.inr ⟨z, r, v, rfl, rfl, hz, ha, q _ x b c (List.mem_map.mpr ⟨_, hv, rfl⟩)⟩)
end
end Kl

set_option maxRecDepth 100000
set_option maxHeartbeats 4000000
namespace Kl
open PySem PySem.Spec PyProof.Rows L2 Gx Mx
/-! ### all but the dice stays -/
/-- all but what stands at d is as it was -/
def SameX (d : Addr) (H H' : Hp) : Prop := ∀ b o, b ≠ d → H b = some o → H' b = some o
theorem SameX.refl (d : Addr) (H : Hp) : SameX d H H := fun _ _ _ e => e
theorem SameX.trans {d : Addr} {H H' H'' : Hp} (h : SameX d H H') (h' : SameX d H' H'') : SameX d H H'' := fun b o n e => h' b o n (h b o n e)
theorem SameX.atd {d : Addr} {H H' : Hp} {o : HO} (h : SameX d H H') : SameX d H (upd H' d o) := fun b u n e => by rw [upd_ne n]; exact h b u n e
theorem SameX.new {d p : Addr} {H H' : Hp} {o : HO} (h : SameX d H H') (n : H' p = none) : SameX d H (upd H' p o) := fun b u nb e => by
  have e' := h b u nb e
  rw [upd_ne (ne_of_none e' n)]
  exact e'
theorem SameX.at {d p : Addr} {H H' : Hp} {o : HO} (h : SameX d H H') (n : H p = none) : SameX d H (upd H' p o) := fun b u nb e => by
  rw [upd_ne (ne_of_none e n)]
  exact h b u nb e
theorem SameX.of {d : Addr} {H H' : Hp} (h : Same H H') : SameX d H H' := fun b o _ e => h b o e
theorem SameX.free {d p : Addr} {H H' : Hp} (h : SameX d H H') (n : p ≠ d) (e : H' p = none) : H p = none := by
  cases q : H p with
  | none => rfl
  | some o => rw [h p o n q] at e; cases e
theorem dice_ne {H : Hp} {d p : Addr} (h : DiceAt H d) (e : H p = none) : p ≠ d := fun q => by
  obtain ⟨_, _, _, h⟩ := h
  rw [q, h] at e
  cases e
theorem dice_upd {H : Hp} {d p : Addr} {o : HO} (h : DiceAt H d) (n : p ≠ d) : DiceAt (upd H p o) d := by
  obtain ⟨a, b, c, h⟩ := h
  exact ⟨a, b, c, by rw [upd_ne n.symm]; exact h⟩
theorem dice_new {H : Hp} {d : Addr} (x b c : Int) : DiceAt (upd H d (.lst [.int x, .int b, .int c])) d := ⟨_, _, _, upd_same⟩
end Kl

set_option maxRecDepth 100000
set_option maxHeartbeats 4000000
namespace Kl
open PySem PySem.Spec PyProof.Rows L2 Gx Mx
/-! ### the words of an error -/
def m01 (s : Str) (b : Bool) : Str := Txt.mul s (if b then 1 else 0)

def ow1 (i : Nat) : Str := m01 "k" (subC i 1) ++ m01 "r" (subC i 2)
def ow2 (i : Nat) : Str := ow1 i ++ m01 "d" (subC i 3) ++ m01 "p" (subC i 4)
def ow3 (i : Nat) : Str := ow2 i ++ m01 "b" (subC i 5) ++ m01 "t" (subC i 6)
def ow4 (i : Nat) : Str := ow3 i ++ m01 "h" (subC i 7) ++ m01 "l" (subC i 8)
def ow5 (i : Nat) : Str := ow4 i ++ m01 "q" (subC i 9) ++ m01 "o" (subC i 10)
def ow6 (i : Nat) : Str := ow5 i ++ m01 "x" (subC i 11) ++ m01 "U" (subC i 12)
def ow7 (i : Nat) : Str := ow6 i ++ m01 "A" (subC i 13) ++ m01 "E" (subC i 14)
def ow8 (i : Nat) : Str := ow7 i ++ m01 "N" (subC i 15) ++ m01 "Z" (subC i 16)
def ow9 (i : Nat) : Str := ow8 i ++ m01 "M" (subC i 17) ++ m01 "R" (subC i 18)
def ow10 (i : Nat) : Str := ow9 i ++ m01 "S" (subC i 19)
/-- the letter of the i-th error -/
def ownL (i : Nat) : Str := if i = 0 then "" else ⟨#[(("krdpbthlqoxUAENZMRS" : Str).cps.getD (i - 1) 0)]⟩
theorem ow_eq : ∀ i, i < 20 → ow10 i = ownL i := by decide +kernel
theorem bw0 : ∀ i, i < 20 → (m01 "k" (subC i 1)).length + (m01 "r" (subC i 2)).length ≤ sizeLine := by decide +kernel
theorem bw1 : ∀ i, i < 20 → (ow1 i).length + (m01 "d" (subC i 3)).length ≤ sizeLine := by decide +kernel
theorem bw2 : ∀ i, i < 20 → (ow1 i ++ m01 "d" (subC i 3)).length + (m01 "p" (subC i 4)).length ≤ sizeLine := by decide +kernel
theorem bw3 : ∀ i, i < 20 → (ow2 i).length + (m01 "b" (subC i 5)).length ≤ sizeLine := by decide +kernel
theorem bw4 : ∀ i, i < 20 → (ow2 i ++ m01 "b" (subC i 5)).length + (m01 "t" (subC i 6)).length ≤ sizeLine := by decide +kernel
theorem bw5 : ∀ i, i < 20 → (ow3 i).length + (m01 "h" (subC i 7)).length ≤ sizeLine := by decide +kernel
theorem bw6 : ∀ i, i < 20 → (ow3 i ++ m01 "h" (subC i 7)).length + (m01 "l" (subC i 8)).length ≤ sizeLine := by decide +kernel
theorem bw7 : ∀ i, i < 20 → (ow4 i).length + (m01 "q" (subC i 9)).length ≤ sizeLine := by decide +kernel
theorem bw8 : ∀ i, i < 20 → (ow4 i ++ m01 "q" (subC i 9)).length + (m01 "o" (subC i 10)).length ≤ sizeLine := by decide +kernel
theorem bw9 : ∀ i, i < 20 → (ow5 i).length + (m01 "x" (subC i 11)).length ≤ sizeLine := by decide +kernel
theorem bw10 : ∀ i, i < 20 → (ow5 i ++ m01 "x" (subC i 11)).length + (m01 "U" (subC i 12)).length ≤ sizeLine := by decide +kernel
theorem bw11 : ∀ i, i < 20 → (ow6 i).length + (m01 "A" (subC i 13)).length ≤ sizeLine := by decide +kernel
theorem bw12 : ∀ i, i < 20 → (ow6 i ++ m01 "A" (subC i 13)).length + (m01 "E" (subC i 14)).length ≤ sizeLine := by decide +kernel
theorem bw13 : ∀ i, i < 20 → (ow7 i).length + (m01 "N" (subC i 15)).length ≤ sizeLine := by decide +kernel
theorem bw14 : ∀ i, i < 20 → (ow7 i ++ m01 "N" (subC i 15)).length + (m01 "Z" (subC i 16)).length ≤ sizeLine := by decide +kernel
theorem bw15 : ∀ i, i < 20 → (ow8 i).length + (m01 "M" (subC i 17)).length ≤ sizeLine := by decide +kernel
theorem bw16 : ∀ i, i < 20 → (ow8 i ++ m01 "M" (subC i 17)).length + (m01 "R" (subC i 18)).length ≤ sizeLine := by decide +kernel
theorem bw17 : ∀ i, i < 20 → (ow9 i).length + (m01 "S" (subC i 19)).length ≤ sizeLine := by decide +kernel
theorem mok (s : Str) (b : Bool) (h : s.length ≤ 20) : MulOk s (if b then 1 else 0) := by
  cases b
  · refine ⟨by decide, fun h1 => ?_, fun h1 => ?_⟩
    · exact absurd h1 (by decide)
    · exact absurd h1 (by decide)
  · refine ⟨by decide, fun h1 h2 => ?_, fun h1 h2 => ?_⟩
    · exact absurd h2 (by simp)
    · exact absurd h2 (by simp)
section
variable {P : Program} {w : World} {K : PySem.W.Frag} {mg : Str → Option Value} {base : Heap} {c : Nat → Addr}
def spOwn (K : PySem.W.Frag) (c : Nat → Addr) : Sp := fun vs H Q _ => ∃ (e : Addr) (i : Nat) (d : Option Addr) (fs : List (Str × V)), vs = [.ref e] ∧ i < 20 ∧ ExAt H e (c i) d fs ∧ Q (.str (ownL i)) H
theorem ok_own {f : Addr} {fd : FuncData} (F : Fun K "_law_own" "_law_own" s_law_own f fd) (T : Top K mg) (ER : Errs K mg c) : FnOk P w K mg base CX0 1 f fd ["_law_error"] (spOwn K c) := by
  have tb := ER.tab
  have g0 : mg "LinkError" = some (.ref (c 0)) := ER.p_LinkError.gC
  have g1 : mg "InvalidKinds" = some (.ref (c 1)) := ER.p_InvalidKinds.gC
  have g2 : mg "InvalidRow" = some (.ref (c 2)) := ER.p_InvalidRow.gC
  have g3 : mg "InvalidReader" = some (.ref (c 3)) := ER.p_InvalidReader.gC
  have g4 : mg "InvalidPage" = some (.ref (c 4)) := ER.p_InvalidPage.gC
  have g5 : mg "InvalidBook" = some (.ref (c 5)) := ER.p_InvalidBook.gC
  have g6 : mg "InvalidTree" = some (.ref (c 6)) := ER.p_InvalidTree.gC
  have g7 : mg "InvalidHeap" = some (.ref (c 7)) := ER.p_InvalidHeap.gC
  have g8 : mg "InvalidPlan" = some (.ref (c 8)) := ER.p_InvalidPlan.gC
  have g9 : mg "InvalidPaper" = some (.ref (c 9)) := ER.p_InvalidPaper.gC
  have g10 : mg "InvalidOperation" = some (.ref (c 10)) := ER.p_InvalidOperation.gC
  obtain ⟨fI11, fd11, TX11, FX11⟩ := ER.x_ParseError
  have g11 : mg "ParseError" = some (.ref (c 11)) := TX11.gC
  obtain ⟨fI12, fd12, TX12, FX12⟩ := ER.x_UnknownName
  have g12 : mg "UnknownName" = some (.ref (c 12)) := TX12.gC
  obtain ⟨fI13, fd13, TX13, FX13⟩ := ER.x_AbsentKey
  have g13 : mg "AbsentKey" = some (.ref (c 13)) := TX13.gC
  obtain ⟨fI14, fd14, TX14, FX14⟩ := ER.x_EmptyHeap
  have g14 : mg "EmptyHeap" = some (.ref (c 14)) := TX14.gC
  obtain ⟨fI15, fd15, TX15, FX15⟩ := ER.x_InvalidNumber
  have g15 : mg "InvalidNumber" = some (.ref (c 15)) := TX15.gC
  obtain ⟨fI16, fd16, TX16, FX16⟩ := ER.x_NothingToUndo
  have g16 : mg "NothingToUndo" = some (.ref (c 16)) := TX16.gC
  obtain ⟨fI17, fd17, TX17, FX17⟩ := ER.x_TooMany
  have g17 : mg "TooMany" = some (.ref (c 17)) := TX17.gC
  obtain ⟨fI18, fd18, TX18, FX18⟩ := ER.x_Refused
  have g18 : mg "Refused" = some (.ref (c 18)) := TX18.gC
  obtain ⟨fI19, fd19, TX19, FX19⟩ := ER.x_Spoilt
  have g19 : mg "Spoilt" = some (.ref (c 19)) := TX19.gC
  refine F.ok sc_law_own (fun vs H Q E h => ?_) (fun cdv A outer s H vs Q E hr h => ?_)
  · obtain ⟨e, i, d, fs, rfl, _⟩ := h
    rfl
  · obtain ⟨e, i, d, fs, rfl, hi, hx, q⟩ := h
    have hc := tab_cls tb hi
    refine ⟨_, pss_cons (ps_set (i := 1) sc_law_own.nd rfl (.inl rfl) (pe_op op_add_str (pe_op op_mul_text pe_str (pe_callTy call_int1 (by rfl) T.b_int (by decide +kernel) (pa_cons (pe_callB call_isV (by rfl) T.b_isinstance (by decide +kernel) (pa_cons (pv 0) (pa_cons (pe_glob (v := .ref (c 1)) (by rfl) g1 rfl) pa_nil))) pa_nil))) (pe_op op_mul_text pe_str (pe_callTy call_int1 (by rfl) T.b_int (by decide +kernel) (pa_cons (pe_callB call_isV (by rfl) T.b_isinstance (by decide +kernel) (pa_cons (pv 0) (pa_cons (pe_glob (v := .ref (c 2)) (by rfl) g2 rfl) pa_nil))) pa_nil)))))
      (pss_cons (ps_set (i := 1) sc_law_own.nd rfl (.inl rfl) (pe_op op_add_str (pe_op op_add_str (pv 1) (pe_op op_mul_text pe_str (pe_callTy call_int1 (by rfl) T.b_int (by decide +kernel) (pa_cons (pe_callB call_isV (by rfl) T.b_isinstance (by decide +kernel) (pa_cons (pv 0) (pa_cons (pe_glob (v := .ref (c 3)) (by rfl) g3 rfl) pa_nil))) pa_nil)))) (pe_op op_mul_text pe_str (pe_callTy call_int1 (by rfl) T.b_int (by decide +kernel) (pa_cons (pe_callB call_isV (by rfl) T.b_isinstance (by decide +kernel) (pa_cons (pv 0) (pa_cons (pe_glob (v := .ref (c 4)) (by rfl) g4 rfl) pa_nil))) pa_nil)))))
      (pss_cons (ps_set (i := 1) sc_law_own.nd rfl (.inl rfl) (pe_op op_add_str (pe_op op_add_str (pv 1) (pe_op op_mul_text pe_str (pe_callTy call_int1 (by rfl) T.b_int (by decide +kernel) (pa_cons (pe_callB call_isV (by rfl) T.b_isinstance (by decide +kernel) (pa_cons (pv 0) (pa_cons (pe_glob (v := .ref (c 5)) (by rfl) g5 rfl) pa_nil))) pa_nil)))) (pe_op op_mul_text pe_str (pe_callTy call_int1 (by rfl) T.b_int (by decide +kernel) (pa_cons (pe_callB call_isV (by rfl) T.b_isinstance (by decide +kernel) (pa_cons (pv 0) (pa_cons (pe_glob (v := .ref (c 6)) (by rfl) g6 rfl) pa_nil))) pa_nil)))))
      (pss_cons (ps_set (i := 1) sc_law_own.nd rfl (.inl rfl) (pe_op op_add_str (pe_op op_add_str (pv 1) (pe_op op_mul_text pe_str (pe_callTy call_int1 (by rfl) T.b_int (by decide +kernel) (pa_cons (pe_callB call_isV (by rfl) T.b_isinstance (by decide +kernel) (pa_cons (pv 0) (pa_cons (pe_glob (v := .ref (c 7)) (by rfl) g7 rfl) pa_nil))) pa_nil)))) (pe_op op_mul_text pe_str (pe_callTy call_int1 (by rfl) T.b_int (by decide +kernel) (pa_cons (pe_callB call_isV (by rfl) T.b_isinstance (by decide +kernel) (pa_cons (pv 0) (pa_cons (pe_glob (v := .ref (c 8)) (by rfl) g8 rfl) pa_nil))) pa_nil)))))
      (pss_cons (ps_set (i := 1) sc_law_own.nd rfl (.inl rfl) (pe_op op_add_str (pe_op op_add_str (pv 1) (pe_op op_mul_text pe_str (pe_callTy call_int1 (by rfl) T.b_int (by decide +kernel) (pa_cons (pe_callB call_isV (by rfl) T.b_isinstance (by decide +kernel) (pa_cons (pv 0) (pa_cons (pe_glob (v := .ref (c 9)) (by rfl) g9 rfl) pa_nil))) pa_nil)))) (pe_op op_mul_text pe_str (pe_callTy call_int1 (by rfl) T.b_int (by decide +kernel) (pa_cons (pe_callB call_isV (by rfl) T.b_isinstance (by decide +kernel) (pa_cons (pv 0) (pa_cons (pe_glob (v := .ref (c 10)) (by rfl) g10 rfl) pa_nil))) pa_nil)))))
      (pss_cons (ps_set (i := 1) sc_law_own.nd rfl (.inl rfl) (pe_op op_add_str (pe_op op_add_str (pv 1) (pe_op op_mul_text pe_str (pe_callTy call_int1 (by rfl) T.b_int (by decide +kernel) (pa_cons (pe_callB call_isV (by rfl) T.b_isinstance (by decide +kernel) (pa_cons (pv 0) (pa_cons (pe_glob (v := .ref (c 11)) (by rfl) g11 rfl) pa_nil))) pa_nil)))) (pe_op op_mul_text pe_str (pe_callTy call_int1 (by rfl) T.b_int (by decide +kernel) (pa_cons (pe_callB call_isV (by rfl) T.b_isinstance (by decide +kernel) (pa_cons (pv 0) (pa_cons (pe_glob (v := .ref (c 12)) (by rfl) g12 rfl) pa_nil))) pa_nil)))))
      (pss_cons (ps_set (i := 1) sc_law_own.nd rfl (.inl rfl) (pe_op op_add_str (pe_op op_add_str (pv 1) (pe_op op_mul_text pe_str (pe_callTy call_int1 (by rfl) T.b_int (by decide +kernel) (pa_cons (pe_callB call_isV (by rfl) T.b_isinstance (by decide +kernel) (pa_cons (pv 0) (pa_cons (pe_glob (v := .ref (c 13)) (by rfl) g13 rfl) pa_nil))) pa_nil)))) (pe_op op_mul_text pe_str (pe_callTy call_int1 (by rfl) T.b_int (by decide +kernel) (pa_cons (pe_callB call_isV (by rfl) T.b_isinstance (by decide +kernel) (pa_cons (pv 0) (pa_cons (pe_glob (v := .ref (c 14)) (by rfl) g14 rfl) pa_nil))) pa_nil)))))
      (pss_cons (ps_set (i := 1) sc_law_own.nd rfl (.inl rfl) (pe_op op_add_str (pe_op op_add_str (pv 1) (pe_op op_mul_text pe_str (pe_callTy call_int1 (by rfl) T.b_int (by decide +kernel) (pa_cons (pe_callB call_isV (by rfl) T.b_isinstance (by decide +kernel) (pa_cons (pv 0) (pa_cons (pe_glob (v := .ref (c 15)) (by rfl) g15 rfl) pa_nil))) pa_nil)))) (pe_op op_mul_text pe_str (pe_callTy call_int1 (by rfl) T.b_int (by decide +kernel) (pa_cons (pe_callB call_isV (by rfl) T.b_isinstance (by decide +kernel) (pa_cons (pv 0) (pa_cons (pe_glob (v := .ref (c 16)) (by rfl) g16 rfl) pa_nil))) pa_nil)))))
      (pss_cons (ps_set (i := 1) sc_law_own.nd rfl (.inl rfl) (pe_op op_add_str (pe_op op_add_str (pv 1) (pe_op op_mul_text pe_str (pe_callTy call_int1 (by rfl) T.b_int (by decide +kernel) (pa_cons (pe_callB call_isV (by rfl) T.b_isinstance (by decide +kernel) (pa_cons (pv 0) (pa_cons (pe_glob (v := .ref (c 17)) (by rfl) g17 rfl) pa_nil))) pa_nil)))) (pe_op op_mul_text pe_str (pe_callTy call_int1 (by rfl) T.b_int (by decide +kernel) (pa_cons (pe_callB call_isV (by rfl) T.b_isinstance (by decide +kernel) (pa_cons (pv 0) (pa_cons (pe_glob (v := .ref (c 18)) (by rfl) g18 rfl) pa_nil))) pa_nil)))))
      (pss_one (ps_ret (pe_op op_add_str (pv 1) (pe_op op_mul_text pe_str (pe_callTy call_int1 (by rfl) T.b_int (by decide +kernel) (pa_cons (pe_callB call_isV (by rfl) T.b_isinstance (by decide +kernel) (pa_cons (pv 0) (pa_cons (pe_glob (v := .ref (c 19)) (by rfl) g19 rfl) pa_nil))) pa_nil)))))))))))))), ?_⟩
    refine ⟨_, rfl, e, c i, d, fs, _, _, _, rfl, hx, hc, .own _, tab_own tb hi (j := 1) (by decide), .inr ⟨_, rfl, _, _, rfl, rfl, mok _ _ (by decide +kernel), _, rfl, e, c i, d, fs, _, _, _, rfl, hx, hc, .own _, tab_own tb hi (j := 2) (by decide), .inr ⟨_, rfl, _, _, rfl, rfl, mok _ _ (by decide +kernel), _, _, rfl, rfl, bw0 i hi, ?_⟩⟩⟩
    refine ⟨_, rfl, _, rfl, e, c i, d, fs, _, _, _, rfl, hx, hc, .own _, tab_own tb hi (j := 3) (by decide), .inr ⟨_, rfl, _, _, rfl, rfl, mok _ _ (by decide +kernel), _, _, rfl, rfl, bw1 i hi, _, rfl, e, c i, d, fs, _, _, _, rfl, hx, hc, .own _, tab_own tb hi (j := 4) (by decide), .inr ⟨_, rfl, _, _, rfl, rfl, mok _ _ (by decide +kernel), _, _, rfl, rfl, bw2 i hi, ?_⟩⟩⟩
    refine ⟨_, rfl, _, rfl, e, c i, d, fs, _, _, _, rfl, hx, hc, .own _, tab_own tb hi (j := 5) (by decide), .inr ⟨_, rfl, _, _, rfl, rfl, mok _ _ (by decide +kernel), _, _, rfl, rfl, bw3 i hi, _, rfl, e, c i, d, fs, _, _, _, rfl, hx, hc, .own _, tab_own tb hi (j := 6) (by decide), .inr ⟨_, rfl, _, _, rfl, rfl, mok _ _ (by decide +kernel), _, _, rfl, rfl, bw4 i hi, ?_⟩⟩⟩
    refine ⟨_, rfl, _, rfl, e, c i, d, fs, _, _, _, rfl, hx, hc, .own _, tab_own tb hi (j := 7) (by decide), .inr ⟨_, rfl, _, _, rfl, rfl, mok _ _ (by decide +kernel), _, _, rfl, rfl, bw5 i hi, _, rfl, e, c i, d, fs, _, _, _, rfl, hx, hc, .own _, tab_own tb hi (j := 8) (by decide), .inr ⟨_, rfl, _, _, rfl, rfl, mok _ _ (by decide +kernel), _, _, rfl, rfl, bw6 i hi, ?_⟩⟩⟩
    refine ⟨_, rfl, _, rfl, e, c i, d, fs, _, _, _, rfl, hx, hc, .own _, tab_own tb hi (j := 9) (by decide), .inr ⟨_, rfl, _, _, rfl, rfl, mok _ _ (by decide +kernel), _, _, rfl, rfl, bw7 i hi, _, rfl, e, c i, d, fs, _, _, _, rfl, hx, hc, .own _, tab_own tb hi (j := 10) (by decide), .inr ⟨_, rfl, _, _, rfl, rfl, mok _ _ (by decide +kernel), _, _, rfl, rfl, bw8 i hi, ?_⟩⟩⟩
    refine ⟨_, rfl, _, rfl, e, c i, d, fs, _, _, _, rfl, hx, hc, .own _, tab_own tb hi (j := 11) (by decide), .inr ⟨_, rfl, _, _, rfl, rfl, mok _ _ (by decide +kernel), _, _, rfl, rfl, bw9 i hi, _, rfl, e, c i, d, fs, _, _, _, rfl, hx, hc, .own _, tab_own tb hi (j := 12) (by decide), .inr ⟨_, rfl, _, _, rfl, rfl, mok _ _ (by decide +kernel), _, _, rfl, rfl, bw10 i hi, ?_⟩⟩⟩
    refine ⟨_, rfl, _, rfl, e, c i, d, fs, _, _, _, rfl, hx, hc, .own _, tab_own tb hi (j := 13) (by decide), .inr ⟨_, rfl, _, _, rfl, rfl, mok _ _ (by decide +kernel), _, _, rfl, rfl, bw11 i hi, _, rfl, e, c i, d, fs, _, _, _, rfl, hx, hc, .own _, tab_own tb hi (j := 14) (by decide), .inr ⟨_, rfl, _, _, rfl, rfl, mok _ _ (by decide +kernel), _, _, rfl, rfl, bw12 i hi, ?_⟩⟩⟩
    refine ⟨_, rfl, _, rfl, e, c i, d, fs, _, _, _, rfl, hx, hc, .own _, tab_own tb hi (j := 15) (by decide), .inr ⟨_, rfl, _, _, rfl, rfl, mok _ _ (by decide +kernel), _, _, rfl, rfl, bw13 i hi, _, rfl, e, c i, d, fs, _, _, _, rfl, hx, hc, .own _, tab_own tb hi (j := 16) (by decide), .inr ⟨_, rfl, _, _, rfl, rfl, mok _ _ (by decide +kernel), _, _, rfl, rfl, bw14 i hi, ?_⟩⟩⟩
    refine ⟨_, rfl, _, rfl, e, c i, d, fs, _, _, _, rfl, hx, hc, .own _, tab_own tb hi (j := 17) (by decide), .inr ⟨_, rfl, _, _, rfl, rfl, mok _ _ (by decide +kernel), _, _, rfl, rfl, bw15 i hi, _, rfl, e, c i, d, fs, _, _, _, rfl, hx, hc, .own _, tab_own tb hi (j := 18) (by decide), .inr ⟨_, rfl, _, _, rfl, rfl, mok _ _ (by decide +kernel), _, _, rfl, rfl, bw16 i hi, ?_⟩⟩⟩
    refine ⟨_, rfl, _, rfl, e, c i, d, fs, _, _, _, rfl, hx, hc, .own _, tab_own tb hi (j := 19) (by decide), .inr ⟨_, rfl, _, _, rfl, rfl, mok _ _ (by decide +kernel), _, _, rfl, rfl, bw17 i hi, ?_⟩⟩
    have e1 := ow_eq i hi
    rw [← e1] at q
    exact q
end
end Kl

set_option maxRecDepth 100000
set_option maxHeartbeats 4000000
namespace Kl
open PySem PySem.Spec PyProof.Rows L2 Gx Mx
/-! ### all bases of an error -/
def mB (s b : String) (i : Nat) : Str := m01 (Str.ofString s) (subB i b)
def al1 (i : Nat) : Str := ownL i ++ " " ++ m01 "link " (subC i 0)
def al2 (i : Nat) : Str := al1 i ++ mB "value " "ValueError" i ++ mB "key " "KeyError" i
def al3 (i : Nat) : Str := al2 i ++ mB "index " "IndexError" i ++ mB "lookup " "LookupError" i
def al4 (i : Nat) : Str := al3 i ++ mB "runtime " "RuntimeError" i
def al5 (i : Nat) : Str := al4 i ++ mB "overflow " "OverflowError" i
def al6 (i : Nat) : Str := al5 i ++ mB "arithmetic " "ArithmeticError" i
def allL (i : Nat) : Str := ownL i ++ (if i ≤ 11 then " link value " else if i ≤ 13 then " key lookup " else if i = 14 then " lookup " else if i = 15 then " index lookup " else if i = 16 then " runtime " else if i = 17 then " overflow arithmetic " else " arithmetic ")
theorem al_eq : ∀ i, i < 20 → al6 i = allL i := by decide +kernel
theorem bl0 : ∀ i, i < 20 → (ownL i).length + ((" " : Str)).length ≤ sizeLine := by decide +kernel
theorem bl1 : ∀ i, i < 20 → (ownL i ++ " ").length + (m01 "link " (subC i 0)).length ≤ sizeLine := by decide +kernel
theorem bl2 : ∀ i, i < 20 → (al1 i).length + (mB "value " "ValueError" i).length ≤ sizeLine := by decide +kernel
theorem bl3 : ∀ i, i < 20 → (al1 i ++ mB "value " "ValueError" i).length + (mB "key " "KeyError" i).length ≤ sizeLine := by decide +kernel
theorem bl4 : ∀ i, i < 20 → (al2 i).length + (mB "index " "IndexError" i).length ≤ sizeLine := by decide +kernel
theorem bl5 : ∀ i, i < 20 → (al2 i ++ mB "index " "IndexError" i).length + (mB "lookup " "LookupError" i).length ≤ sizeLine := by decide +kernel
theorem bl6 : ∀ i, i < 20 → (al3 i).length + (mB "runtime " "RuntimeError" i).length ≤ sizeLine := by decide +kernel
theorem bl7 : ∀ i, i < 20 → (al4 i).length + (mB "overflow " "OverflowError" i).length ≤ sizeLine := by decide +kernel
theorem bl8 : ∀ i, i < 20 → (al5 i).length + (mB "arithmetic " "ArithmeticError" i).length ≤ sizeLine := by decide +kernel
section
variable {P : Program} {w : World} {K : PySem.W.Frag} {mg : Str → Option Value} {base : Heap} {c : Nat → Addr}
def spAll (K : PySem.W.Frag) (c : Nat → Addr) : Sp := fun vs H Q _ => ∃ (e : Addr) (i : Nat) (d : Option Addr) (fs : List (Str × V)), vs = [.ref e] ∧ i < 20 ∧ ExAt H e (c i) d fs ∧ Q (.str (allL i)) H
theorem ok_all {f : Addr} {fd : FuncData} (F : Fun K "_law_all" "_law_all" s_law_all f fd) (T : Top K mg) (ER : Errs K mg c) : FnOk P w K mg base CX0 2 f fd ["_law_error"] (spAll K c) := by
  have tb := ER.tab
  have g0 : mg "LinkError" = some (.ref (c 0)) := ER.p_LinkError.gC
  have co : Cal P w K mg base 1 "_law_own" ["_law_error"] (spOwn K c) := T.d_law_own.cal fun f fd F => ok_own F T ER
  refine F.ok sc_law_all (fun vs H Q E h => ?_) (fun cdv A outer s H vs Q E hr h => ?_)
  · obtain ⟨e, i, d, fs, rfl, _⟩ := h
    rfl
  · obtain ⟨e, i, d, fs, rfl, hi, hx, q⟩ := h
    have hc := tab_cls tb hi
    refine ⟨_, pss_cons (ps_set (i := 1) sc_law_all.nd rfl (.inl rfl) (pe_op op_add_str (pe_op op_add_str (pe_cal co hr (by rfl) (pa_cons (pv 0) pa_nil)) pe_str) (pe_op op_mul_text pe_str (pe_callTy call_int1 (by rfl) T.b_int (by decide +kernel) (pa_cons (pe_callB call_isV (by rfl) T.b_isinstance (by decide +kernel) (pa_cons (pv 0) (pa_cons (pe_glob (v := .ref (c 0)) (by rfl) g0 rfl) pa_nil))) pa_nil)))))
      (pss_cons (ps_set (i := 1) sc_law_all.nd rfl (.inl rfl) (pe_op op_add_str (pe_op op_add_str (pv 1) (pe_op op_mul_text pe_str (pe_callTy call_int1 (by rfl) T.b_int (by decide +kernel) (pa_cons (pe_callB call_isV (by rfl) T.b_isinstance (by decide +kernel) (pa_cons (pv 0) (pa_cons (pe_bltn (v := .ty "ValueError") (by rfl) T.b_ValueError (by decide +kernel) rfl) pa_nil))) pa_nil)))) (pe_op op_mul_text pe_str (pe_callTy call_int1 (by rfl) T.b_int (by decide +kernel) (pa_cons (pe_callB call_isV (by rfl) T.b_isinstance (by decide +kernel) (pa_cons (pv 0) (pa_cons (pe_bltn (v := .ty "KeyError") (by rfl) T.b_KeyError (by decide +kernel) rfl) pa_nil))) pa_nil)))))
      (pss_cons (ps_set (i := 1) sc_law_all.nd rfl (.inl rfl) (pe_op op_add_str (pe_op op_add_str (pv 1) (pe_op op_mul_text pe_str (pe_callTy call_int1 (by rfl) T.b_int (by decide +kernel) (pa_cons (pe_callB call_isV (by rfl) T.b_isinstance (by decide +kernel) (pa_cons (pv 0) (pa_cons (pe_bltn (v := .ty "IndexError") (by rfl) T.b_IndexError (by decide +kernel) rfl) pa_nil))) pa_nil)))) (pe_op op_mul_text pe_str (pe_callTy call_int1 (by rfl) T.b_int (by decide +kernel) (pa_cons (pe_callB call_isV (by rfl) T.b_isinstance (by decide +kernel) (pa_cons (pv 0) (pa_cons (pe_bltn (v := .ty "LookupError") (by rfl) T.b_LookupError (by decide +kernel) rfl) pa_nil))) pa_nil)))))
      (pss_cons (ps_set (i := 1) sc_law_all.nd rfl (.inl rfl) (pe_op op_add_str (pv 1) (pe_op op_mul_text pe_str (pe_callTy call_int1 (by rfl) T.b_int (by decide +kernel) (pa_cons (pe_callB call_isV (by rfl) T.b_isinstance (by decide +kernel) (pa_cons (pv 0) (pa_cons (pe_bltn (v := .ty "RuntimeError") (by rfl) T.b_RuntimeError (by decide +kernel) rfl) pa_nil))) pa_nil)))))
      (pss_cons (ps_set (i := 1) sc_law_all.nd rfl (.inl rfl) (pe_op op_add_str (pv 1) (pe_op op_mul_text pe_str (pe_callTy call_int1 (by rfl) T.b_int (by decide +kernel) (pa_cons (pe_callB call_isV (by rfl) T.b_isinstance (by decide +kernel) (pa_cons (pv 0) (pa_cons (pe_bltn (v := .ty "OverflowError") (by rfl) T.b_OverflowError (by decide +kernel) rfl) pa_nil))) pa_nil)))))
      (pss_one (ps_ret (pe_op op_add_str (pv 1) (pe_op op_mul_text pe_str (pe_callTy call_int1 (by rfl) T.b_int (by decide +kernel) (pa_cons (pe_callB call_isV (by rfl) T.b_isinstance (by decide +kernel) (pa_cons (pv 0) (pa_cons (pe_bltn (v := .ty "ArithmeticError") (by rfl) T.b_ArithmeticError (by decide +kernel) rfl) pa_nil))) pa_nil)))))))))), ?_⟩
    refine ⟨_, rfl, e, i, d, fs, rfl, hi, hx, _, _, rfl, rfl, bl0 i hi, _, rfl, e, c i, d, fs, _, _, _, rfl, hx, hc, .own _, tab_own tb hi (j := 0) (by decide), .inr ⟨_, rfl, _, _, rfl, rfl, mok _ _ (by decide +kernel), _, _, rfl, rfl, bl1 i hi, ?_⟩⟩
    refine ⟨_, rfl, _, rfl, e, c i, d, fs, _, _, _, rfl, hx, hc, .ty _, tab_blt tb hi (b := "ValueError") (by decide), .inr ⟨_, rfl, _, _, rfl, rfl, mok _ _ (by decide +kernel), _, _, rfl, rfl, bl2 i hi, _, rfl, e, c i, d, fs, _, _, _, rfl, hx, hc, .ty _, tab_blt tb hi (b := "KeyError") (by decide), .inr ⟨_, rfl, _, _, rfl, rfl, mok _ _ (by decide +kernel), _, _, rfl, rfl, bl3 i hi, ?_⟩⟩⟩
    refine ⟨_, rfl, _, rfl, e, c i, d, fs, _, _, _, rfl, hx, hc, .ty _, tab_blt tb hi (b := "IndexError") (by decide), .inr ⟨_, rfl, _, _, rfl, rfl, mok _ _ (by decide +kernel), _, _, rfl, rfl, bl4 i hi, _, rfl, e, c i, d, fs, _, _, _, rfl, hx, hc, .ty _, tab_blt tb hi (b := "LookupError") (by decide), .inr ⟨_, rfl, _, _, rfl, rfl, mok _ _ (by decide +kernel), _, _, rfl, rfl, bl5 i hi, ?_⟩⟩⟩
    refine ⟨_, rfl, _, rfl, e, c i, d, fs, _, _, _, rfl, hx, hc, .ty _, tab_blt tb hi (b := "RuntimeError") (by decide), .inr ⟨_, rfl, _, _, rfl, rfl, mok _ _ (by decide +kernel), _, _, rfl, rfl, bl6 i hi, ?_⟩⟩
    refine ⟨_, rfl, _, rfl, e, c i, d, fs, _, _, _, rfl, hx, hc, .ty _, tab_blt tb hi (b := "OverflowError") (by decide), .inr ⟨_, rfl, _, _, rfl, rfl, mok _ _ (by decide +kernel), _, _, rfl, rfl, bl7 i hi, ?_⟩⟩
    refine ⟨_, rfl, _, rfl, e, c i, d, fs, _, _, _, rfl, hx, hc, .ty _, tab_blt tb hi (b := "ArithmeticError") (by decide), .inr ⟨_, rfl, _, _, rfl, rfl, mok _ _ (by decide +kernel), _, _, rfl, rfl, bl8 i hi, ?_⟩⟩
    have e1 := al_eq i hi
    rw [← e1] at q
    exact q
end
end Kl

set_option maxRecDepth 100000
set_option maxHeartbeats 4000000
namespace Kl
open PySem PySem.Spec PyProof.Rows L2 Gx Mx
section
variable {P : Program} {w : World} {K : PySem.W.Frag} {mg : Str → Option Value} {base : Heap} {c : Nat → Addr}
/-! ### the errors made with a message -/
def msgs : List Str := [allL 1, allL 2, allL 3, allL 4, allL 5, allL 6, allL 7, allL 8, allL 9, allL 10, allL 0]
def spMess : Sp := fun vs H Q _ => vs = [] ∧ ∀ (p : Addr) (H' : Hp), Same H H' → H' p = some (.lst (msgs.map V.str)) → Q (.ref p) H'
theorem ok_mess {f : Addr} {fd : FuncData} (F : Fun K "_law_messages" "_law_messages" s_law_messages f fd) (T : Top K mg) (ER : Errs K mg c) : FnOk P w K mg base CX0 3 f fd [] spMess := by
  have ca : Cal P w K mg base 2 "_law_all" ["_law_error"] (spAll K c) := T.d_law_all.cal fun f fd F => ok_all F T ER
  refine F.ok sc_law_messages (fun vs H Q E h => ?_) (fun cdv A outer s H vs Q E hr h => ?_)
  · obtain ⟨rfl, _⟩ := h
    rfl
  · obtain ⟨rfl, q⟩ := h
    refine ⟨_, pss_cons (ps_set (i := 0) sc_law_messages.nd rfl (.inl rfl) (pe_lst (pa_cons (pe_cal ca hr (by rfl) (pa_cons (pe_mkP PySem.F.excBase_ValueError ER.p_InvalidKinds (pa_cons pe_str pa_nil) (by rfl)) pa_nil)) (pa_cons (pe_cal ca hr (by rfl) (pa_cons (pe_mkP PySem.F.excBase_ValueError ER.p_InvalidRow (pa_cons pe_str pa_nil) (by rfl)) pa_nil)) (pa_cons (pe_cal ca hr (by rfl) (pa_cons (pe_mkP PySem.F.excBase_ValueError ER.p_InvalidReader (pa_cons pe_str pa_nil) (by rfl)) pa_nil)) pa_nil)))))
      (pss_cons (ps_set (i := 0) sc_law_messages.nd rfl (.inl rfl) (pe_op op_cat (pv 0) (pe_lst (pa_cons (pe_cal ca hr (by rfl) (pa_cons (pe_mkP PySem.F.excBase_ValueError ER.p_InvalidPage (pa_cons pe_str pa_nil) (by rfl)) pa_nil)) (pa_cons (pe_cal ca hr (by rfl) (pa_cons (pe_mkP PySem.F.excBase_ValueError ER.p_InvalidBook (pa_cons pe_str pa_nil) (by rfl)) pa_nil)) (pa_cons (pe_cal ca hr (by rfl) (pa_cons (pe_mkP PySem.F.excBase_ValueError ER.p_InvalidTree (pa_cons pe_str pa_nil) (by rfl)) pa_nil)) pa_nil))))))
      (pss_cons (ps_set (i := 0) sc_law_messages.nd rfl (.inl rfl) (pe_op op_cat (pv 0) (pe_lst (pa_cons (pe_cal ca hr (by rfl) (pa_cons (pe_mkP PySem.F.excBase_ValueError ER.p_InvalidHeap (pa_cons pe_str pa_nil) (by rfl)) pa_nil)) (pa_cons (pe_cal ca hr (by rfl) (pa_cons (pe_mkP PySem.F.excBase_ValueError ER.p_InvalidPlan (pa_cons pe_str pa_nil) (by rfl)) pa_nil)) (pa_cons (pe_cal ca hr (by rfl) (pa_cons (pe_mkP PySem.F.excBase_ValueError ER.p_InvalidPaper (pa_cons pe_str pa_nil) (by rfl)) pa_nil)) pa_nil))))))
      (pss_one (ps_ret (pe_op op_cat (pv 0) (pe_lst (pa_cons (pe_cal ca hr (by rfl) (pa_cons (pe_mkP PySem.F.excBase_ValueError ER.p_InvalidOperation (pa_cons pe_str pa_nil) (by rfl)) pa_nil)) (pa_cons (pe_cal ca hr (by rfl) (pa_cons (pe_mkP PySem.F.excBase_ValueError ER.p_LinkError (pa_cons pe_str pa_nil) (by rfl)) pa_nil)) pa_nil)))))))), ?_⟩
    refine ⟨by show 1 ≤ 1000; decide, fun e1 ne1 => ⟨e1, 1, none, [], rfl, by decide, ⟨upd_same, fun dd h => by cases h⟩, ?_⟩⟩
    have s1 := same_at ne1 (Same.refl H) (o := ExV (c 1) e1 none)
    generalize upd H e1 (ExV (c 1) e1 none) = H1 at s1 ⊢
    have t1 := s1
    refine ⟨by show 1 ≤ 1000; decide, fun e2 ne2 => ⟨e2, 2, none, [], rfl, by decide, ⟨upd_same, fun dd h => by cases h⟩, ?_⟩⟩
    have s2 := same_at ne2 (Same.refl H1) (o := ExV (c 2) e2 none)
    generalize upd H1 e2 (ExV (c 2) e2 none) = H2 at s2 ⊢
    have t2 := t1.trans s2
    refine ⟨by show 1 ≤ 1000; decide, fun e3 ne3 => ⟨e3, 3, none, [], rfl, by decide, ⟨upd_same, fun dd h => by cases h⟩, ?_⟩⟩
    have s3 := same_at ne3 (Same.refl H2) (o := ExV (c 3) e3 none)
    generalize upd H2 e3 (ExV (c 3) e3 none) = H3 at s3 ⊢
    have t3 := t2.trans s3
    refine ⟨by show 3 ≤ sizeLine; decide, fun pl0 npl0 => ?_⟩
    have s4 := same_at npl0 (Same.refl H3) (o := .lst [V.str (allL 1), V.str (allL 2), V.str (allL 3)])
    have e_l0 : upd H3 pl0 (.lst [V.str (allL 1), V.str (allL 2), V.str (allL 3)]) pl0 = some (.lst [V.str (allL 1), V.str (allL 2), V.str (allL 3)]) := upd_same
    generalize upd H3 pl0 (.lst [V.str (allL 1), V.str (allL 2), V.str (allL 3)]) = H4 at s4 e_l0 ⊢
    have t4 := t3.trans s4
    refine ⟨_, rfl, by show 1 ≤ 1000; decide, fun e5 ne5 => ⟨e5, 4, none, [], rfl, by decide, ⟨upd_same, fun dd h => by cases h⟩, ?_⟩⟩
    have s5 := same_at ne5 (Same.refl H4) (o := ExV (c 4) e5 none)
    generalize upd H4 e5 (ExV (c 4) e5 none) = H5 at s5 ⊢
    have t5 := t4.trans s5
    refine ⟨by show 1 ≤ 1000; decide, fun e6 ne6 => ⟨e6, 5, none, [], rfl, by decide, ⟨upd_same, fun dd h => by cases h⟩, ?_⟩⟩
    have s6 := same_at ne6 (Same.refl H5) (o := ExV (c 5) e6 none)
    generalize upd H5 e6 (ExV (c 5) e6 none) = H6 at s6 ⊢
    have t6 := t5.trans s6
    refine ⟨by show 1 ≤ 1000; decide, fun e7 ne7 => ⟨e7, 6, none, [], rfl, by decide, ⟨upd_same, fun dd h => by cases h⟩, ?_⟩⟩
    have s7 := same_at ne7 (Same.refl H6) (o := ExV (c 6) e7 none)
    generalize upd H6 e7 (ExV (c 6) e7 none) = H7 at s7 ⊢
    have t7 := t6.trans s7
    refine ⟨by show 3 ≤ sizeLine; decide, fun pl1 npl1 => ?_⟩
    have s8 := same_at npl1 (Same.refl H7) (o := .lst [V.str (allL 4), V.str (allL 5), V.str (allL 6)])
    have e_l1 : upd H7 pl1 (.lst [V.str (allL 4), V.str (allL 5), V.str (allL 6)]) pl1 = some (.lst [V.str (allL 4), V.str (allL 5), V.str (allL 6)]) := upd_same
    generalize upd H7 pl1 (.lst [V.str (allL 4), V.str (allL 5), V.str (allL 6)]) = H8 at s8 e_l1 ⊢
    have t8 := t7.trans s8
    have x1 : Same H4 H8 := (s5.trans (s6.trans (s7.trans s8)))
    refine ⟨pl0, pl1, _, _, rfl, rfl, x1 _ _ e_l0, e_l1, by show _ ≤ sizeLine; decide, fun pc1 npc1 => ?_⟩
    have s9 := same_at npc1 (Same.refl H8) (o := .lst ([V.str (allL 1), V.str (allL 2), V.str (allL 3)] ++ [V.str (allL 4), V.str (allL 5), V.str (allL 6)]))
    have e_c1 : upd H8 pc1 (.lst ([V.str (allL 1), V.str (allL 2), V.str (allL 3)] ++ [V.str (allL 4), V.str (allL 5), V.str (allL 6)])) pc1 = some (.lst ([V.str (allL 1), V.str (allL 2), V.str (allL 3)] ++ [V.str (allL 4), V.str (allL 5), V.str (allL 6)])) := upd_same
    generalize upd H8 pc1 (.lst ([V.str (allL 1), V.str (allL 2), V.str (allL 3)] ++ [V.str (allL 4), V.str (allL 5), V.str (allL 6)])) = H9 at s9 e_c1 ⊢
    have t9 := t8.trans s9
    refine ⟨_, rfl, by show 1 ≤ 1000; decide, fun e10 ne10 => ⟨e10, 7, none, [], rfl, by decide, ⟨upd_same, fun dd h => by cases h⟩, ?_⟩⟩
    have s10 := same_at ne10 (Same.refl H9) (o := ExV (c 7) e10 none)
    generalize upd H9 e10 (ExV (c 7) e10 none) = H10 at s10 ⊢
    have t10 := t9.trans s10
    refine ⟨by show 1 ≤ 1000; decide, fun e11 ne11 => ⟨e11, 8, none, [], rfl, by decide, ⟨upd_same, fun dd h => by cases h⟩, ?_⟩⟩
    have s11 := same_at ne11 (Same.refl H10) (o := ExV (c 8) e11 none)
    generalize upd H10 e11 (ExV (c 8) e11 none) = H11 at s11 ⊢
    have t11 := t10.trans s11
    refine ⟨by show 1 ≤ 1000; decide, fun e12 ne12 => ⟨e12, 9, none, [], rfl, by decide, ⟨upd_same, fun dd h => by cases h⟩, ?_⟩⟩
    have s12 := same_at ne12 (Same.refl H11) (o := ExV (c 9) e12 none)
    generalize upd H11 e12 (ExV (c 9) e12 none) = H12 at s12 ⊢
    have t12 := t11.trans s12
    refine ⟨by show 3 ≤ sizeLine; decide, fun pl2 npl2 => ?_⟩
    have s13 := same_at npl2 (Same.refl H12) (o := .lst [V.str (allL 7), V.str (allL 8), V.str (allL 9)])
    have e_l2 : upd H12 pl2 (.lst [V.str (allL 7), V.str (allL 8), V.str (allL 9)]) pl2 = some (.lst [V.str (allL 7), V.str (allL 8), V.str (allL 9)]) := upd_same
    generalize upd H12 pl2 (.lst [V.str (allL 7), V.str (allL 8), V.str (allL 9)]) = H13 at s13 e_l2 ⊢
    have t13 := t12.trans s13
    have x2 : Same H9 H13 := (s10.trans (s11.trans (s12.trans s13)))
    refine ⟨pc1, pl2, _, _, rfl, rfl, x2 _ _ e_c1, e_l2, by show _ ≤ sizeLine; decide, fun pc2 npc2 => ?_⟩
    have s14 := same_at npc2 (Same.refl H13) (o := .lst (([V.str (allL 1), V.str (allL 2), V.str (allL 3)] ++ [V.str (allL 4), V.str (allL 5), V.str (allL 6)]) ++ [V.str (allL 7), V.str (allL 8), V.str (allL 9)]))
    have e_c2 : upd H13 pc2 (.lst (([V.str (allL 1), V.str (allL 2), V.str (allL 3)] ++ [V.str (allL 4), V.str (allL 5), V.str (allL 6)]) ++ [V.str (allL 7), V.str (allL 8), V.str (allL 9)])) pc2 = some (.lst (([V.str (allL 1), V.str (allL 2), V.str (allL 3)] ++ [V.str (allL 4), V.str (allL 5), V.str (allL 6)]) ++ [V.str (allL 7), V.str (allL 8), V.str (allL 9)])) := upd_same
    generalize upd H13 pc2 (.lst (([V.str (allL 1), V.str (allL 2), V.str (allL 3)] ++ [V.str (allL 4), V.str (allL 5), V.str (allL 6)]) ++ [V.str (allL 7), V.str (allL 8), V.str (allL 9)])) = H14 at s14 e_c2 ⊢
    have t14 := t13.trans s14
    refine ⟨_, rfl, by show 1 ≤ 1000; decide, fun e15 ne15 => ⟨e15, 10, none, [], rfl, by decide, ⟨upd_same, fun dd h => by cases h⟩, ?_⟩⟩
    have s15 := same_at ne15 (Same.refl H14) (o := ExV (c 10) e15 none)
    generalize upd H14 e15 (ExV (c 10) e15 none) = H15 at s15 ⊢
    have t15 := t14.trans s15
    refine ⟨by show 1 ≤ 1000; decide, fun e16 ne16 => ⟨e16, 0, none, [], rfl, by decide, ⟨upd_same, fun dd h => by cases h⟩, ?_⟩⟩
    have s16 := same_at ne16 (Same.refl H15) (o := ExV (c 0) e16 none)
    generalize upd H15 e16 (ExV (c 0) e16 none) = H16 at s16 ⊢
    have t16 := t15.trans s16
    refine ⟨by show 2 ≤ sizeLine; decide, fun pl3 npl3 => ?_⟩
    have s17 := same_at npl3 (Same.refl H16) (o := .lst [V.str (allL 10), V.str (allL 0)])
    have e_l3 : upd H16 pl3 (.lst [V.str (allL 10), V.str (allL 0)]) pl3 = some (.lst [V.str (allL 10), V.str (allL 0)]) := upd_same
    generalize upd H16 pl3 (.lst [V.str (allL 10), V.str (allL 0)]) = H17 at s17 e_l3 ⊢
    have t17 := t16.trans s17
    have x3 : Same H14 H17 := (s15.trans (s16.trans s17))
    refine ⟨pc2, pl3, _, _, rfl, rfl, x3 _ _ e_c2, e_l3, by show _ ≤ sizeLine; decide, fun p np => ?_⟩
    exact q p _ (t17.trans (same_at np (Same.refl H17))) upd_same
end
end Kl

set_option maxRecDepth 100000
set_option maxHeartbeats 4000000
namespace Gx
open PySem PySem.Spec PyProof.Rows L2 SeqAt
open AutoSeq1 (wpAny_loadPart')
/-! ### a dict is no tuple -/
theorem tup_eq_dict (l b : Addr) (items : Array Value) (n : Nat) (dd dd2 : Option Addr) (sl sl2 : Array (Option Value)) (d2 : Data) :
    Meets (Builtin.«tuple.__eq__» ⟨[.ref l, .ref b], []⟩) (fun _ R s => s.heap.get? l = some { cls := .type "tuple", dict := dd, data := .seq items n, slots := sl } ∧ s.heap.get? b = some { cls := .type "dict", dict := dd2, data := d2, slots := sl2 } ∧ R (.ok (.ret .notImplemented)) s) :=
  .of_wp fun prog w A R s h => by obtain ⟨hp, g, d, tk, os⟩ := s; obtain ⟨hl, hb, h⟩ := h; have f1 := F.sub_dict_tuple; wp_walk using wpAny_loadPart' hl, wpAny_loadPart' hb; exact ⟨_, rfl, h⟩
theorem dict_eq_tup {prog : Program} {w : World} {A : Around} {E : Value → Shared → Prop} {s : Shared} {Q : Value → Shared → Prop} {a b : Addr} (da : s.TypeIs (.ref a) "dict") (hb : s.TypeIs (.ref b) "tuple") (h : Q .notImplemented s) :
    wpAny (model prog w) A (call (.builtin "dict.__eq__") [.ref a, .ref b]) Q E s := by
  refine wpAny_call_entry PySem.F.slot_dict_eq da PySem.F.entry_dict_eq ?_ (PySem.F.args_dict_eq_2 _ _)
  show wpAny _ _ (Builtin.Dict.dictSlotArgs "__eq__" ⟨[.ref a, .ref b], []⟩ >>= _) _ _ s
  refine wpAny_bind ?_
  unfold Builtin.Dict.dictSlotArgs
  refine wpAny_bind (wpAny_notOrdered_dict da ?_)
  show wpAny _ _ (pure (Value.ref a, Value.ref b)) _ _ s
  refine wpAny_pure ?_
  refine wpAny_bind (wpAny_isInstance (T := "tuple") hb PySem.F.sub_tuple_dict ?_)
  simp only [Bool.not_false, if_true]
  exact wpAny_bind (wpAny_rule (wpAny_bind (wpAny_pure (wpAny_pure ⟨_, rfl, h⟩))))
section
variable {A : Around} {s : Shared}
theorem eqAt_tup_dict {l b : Addr} {items : Array Value} {ob : Obj} (hl : s.heap.IsTuple l items) (hb : s.heap.get? b = some ob) (hcb : ob.cls = .type "dict") (hu : A.units < cLine) : EqAt A s (.ref l) (.ref b) false := by
  obtain ⟨⟨cls, dd, data, sl⟩, ho, hc, n, hd⟩ := id hl
  simp only at hc hd
  subst hc hd
  obtain ⟨cls2, dd2, data2, sl2⟩ := ob
  simp only at hcb
  subst hcb
  have hne : l ≠ b := fun e => by
    subst e
    rw [ho] at hb
    exact absurd (congrArg Obj.cls (Option.some.inj hb)) (by simp)
  refine .of_refs hne fun prog w E Q h => ?_
  exact rc_eq_decline_or (k := false) ⟨_, ho, rfl⟩ ⟨_, hb, rfl⟩ (by decide) F.sub_dict_tuple F.slot_tuple_eq F.slot_dict_eq_refl
    (fun _ hq => call_meets F.slot_tuple_eq ⟨_, ho, rfl⟩ F.entry_tuple_eq (F.args_tuple_eq_2 _ _) (tup_eq_dict l b items n dd dd2 sl sl2 data2) ⟨ho, hb, hq⟩)
    (fun _ hq => dict_eq_tup ⟨_, hb, rfl⟩ ⟨_, ho, rfl⟩ hq)
    (fun _ hq => wpAny_isSame_ref_other' hne ho hb (by simp) hq) (.inr hu) h
end
section
variable {X : Cx}
/-- x in a list, data that are not deep -/
def rInF (K : PySem.W.Frag) : R2 := fun x y H Q => ∃ d ds, Dp K H x d ∧ Dp K H y (.list ds) ∧ d.canLay0 = true ∧ PyData.canLayAll0 ds = true ∧ d.depth ≤ 10 ∧ Q (.bl (ds.any fun z => PyData.eqv z d)) H
theorem op_inF (hu : X.A.units + 64 < cLine) : OpR X (compareOp .In) (rInF X.K) := by
  intro pins s σ H x y v u Q I rx ry h
  obtain ⟨d, ds, hd, he, sd, se, dp, q⟩ := h
  obtain ⟨as, r1⟩ := Dp.reads I d x v hd rx
  obtain ⟨bs, r2⟩ := Dp.reads I (.list ds) y u he ry
  exact SeqAt.in_list_reads r2 r1 se sd (by omega) ⟨.bl _, H, I, rfl, q⟩
/-- a dict in a list of tuples: it is not in it -/
def rInDict (K : PySem.W.Frag) : R2 := fun x y H Q => ∃ (a l : Addr) (kvs : List (Key × V)) (ps : List Addr), x = .ref a ∧ H a = some (.dK kvs) ∧ y = .ref l ∧ SqL K H l (ps.map V.ref) ∧ (∀ p ∈ ps, ∃ xs, SqT K H p xs) ∧ Q (.bl false) H
theorem op_inDict (hu : X.A.units + 64 < cLine) : OpR X (compareOp .In) (rInDict X.K) := by
  intro pins s σ H x y v u Q I rx ry h
  obtain ⟨a, l, kvs, ps, rfl, ea, rfl, hl, hp, q⟩ := h
  cases rx
  cases ry
  obtain ⟨its, rv, pl, hz⟩ := I.list hl
  have ei := refs_at rv
  subst ei
  obtain ⟨_, _, vs, _, hd⟩ := dk_of I.hok ea
  obtain ⟨ob, hb, hD⟩ := Heap.dictOf_iff.mp hd
  have hcb : ob.cls = .type "dict" := by
    obtain ⟨es, ep, ex, _⟩ := hD
    exact ex.1
  refine SeqAt.in_listAt (fun _ => false) pl.isList (fun y hy => ?_) ⟨.bl false, H, I, ?_, q⟩
  · rw [List.mem_toArray] at hy
    obtain ⟨p, hpm, rfl⟩ := List.mem_map.mp hy
    obtain ⟨xs, hx⟩ := hp p hpm
    obtain ⟨its2, _, ht, _⟩ := I.tuple hx
    exact eqAt_tup_dict ht hb hcb (by show X.A.units + 1 < cLine; omega)
  · show Value.bool _ = Value.bool false
    rw [Array.any_eq_false' |>.mpr (fun _ _ => by simp)]
end
end Gx

set_option maxRecDepth 100000
set_option maxHeartbeats 4000000
/-! repr of data with a dict in them; lists that are not the table of modules -/
namespace Gx
open PySem PySem.Spec PyProof.Rows L2
/-- what repr shows: data without dicts, or the dict {7: 7} -/
inductive Shw (K : PySem.W.Frag) (H : Hp) : V → PyData → Prop
  | dp {v : V} {d : PyData} (h : Dp K H v d) (nd : d.hasDict = false) : Shw K H v d
  | d7 {a : Addr} (e : H a = some (.dK [(Sum.inl 7, .int 7)])) : Shw K H (.ref a) (.dict [(.int 7, .int 7)])
section
variable {X : Cx} {pins : List (Addr × Obj)} {σ : L2.St} {H : Hp} {s : Shared}
theorem far (I : Inv X pins σ H s) : 1 < s.heap.objs.size := by
  obtain ⟨o, es, ep, e, _⟩ := I.ok.mod.glob
  have h := Heap.lt_size (I.bk _ _ e)
  exact Nat.lt_trans (by decide) h
theorem d7_reads {a : Addr} (I : Inv X pins σ H s) (e : H a = some (.dK [(Sum.inl 7, .int 7)])) : Reads s.heap (.ref a) (.dict [(.int 7, .int 7)]) [a] ∧ a ≠ sysModules := by
  obtain ⟨_, hs, vs, kv, hd⟩ := dk_of I.hok e
  obtain ⟨o, ho, es, ep, ex, hdat, _, pr, _⟩ := Heap.dictOf_iff.mp hd
  obtain ⟨en, t1, t2, h1, h2, h3⟩ : ∃ (en : DictEntry) (t1 t2 : Tok), es.toList = [en] ∧ en.key = .int 7 t1 ∧ en.val = .int 7 t2 := by
    unfold KV at kv
    cases kv with
    | @cons p q ps qs h r =>
      cases r
      obtain ⟨k1, v1⟩ := q
      obtain ⟨rfl, t2, hv⟩ := h
      generalize hes : es.toList = l at pr
      cases pr with
      | @cons en kv1 es1 kvs1 hk hv1 r1 =>
        cases r1
        rcases keyIs_shape (show keyIs (Sum.inl 7) en.key = true from hk) with ⟨i, t, e1, e2⟩ | ⟨x, t, e1, e2⟩
        · cases e1
          exact ⟨en, t, t2, rfl, e2, hv1.trans hv⟩
        · cases e1
  refine ⟨?_, fun h => by rw [h] at hs; exact absurd hs (by decide)⟩
  have r := Reads.dict (kvs := [(.int 7, .int 7)]) (as := []) (bs := []) ho ex.1 hdat
    (by rw [h1]; show ReadsAll s.heap [en.key] [.int 7] []; rw [h2]; exact ReadsAll.cons (as := []) (bs := []) (Reads.int 7 t1) ReadsAll.nil)
    (by rw [h1]; show ReadsAll s.heap [en.val] [.int 7] []; rw [h3]; exact ReadsAll.cons (as := []) (bs := []) (Reads.int 7 t2) ReadsAll.nil)
  exact r
end
section
variable {X : Cx}
def rReprX (K : PySem.W.Frag) : List V → Hp → VK → Prop := fun xs H Q => ∃ (x : V) (d : PyData), xs = [x] ∧ Shw K H x d ∧ d.showable = true ∧ d.depth ≤ 60 ∧ d.shown.length ≤ sizeLine ∧ Q (.str d.shown) H
theorem call_reprX (g : Gd X.A) (hu : X.A.units + 64 < cLine) : CallR X (.builtin "repr") (rReprX X.K) := by
  intro pins s σ H xs us Q I r h
  obtain ⟨x, d, rfl, hd, h1, h3, h4, q⟩ := h
  cases hd with
  | dp hd nd => exact call_reprD g hu pins s σ H _ us Q I r ⟨x, d, rfl, hd, h1, nd, h3, h4, q⟩
  | d7 e =>
    obtain ⟨u, rfl, rx⟩ := vals1 r
    cases (show u = Value.ref _ from rx)
    obtain ⟨hr, hn⟩ := d7_reads I e
    exact repr_ref hr h1 (fun _ hm => hn (List.mem_singleton.mp hm).symm) h4 g (by omega) fun h' u tk hk => ⟨.str _, H, I.kept (t' := tk) hk, ⟨_, rfl⟩, q⟩
end
/-! ### repr of a list of tuples of a text and a value -/
/-- values that hold no list -/
inductive Shs (K : PySem.W.Frag) (H : Hp) : V → PyData → Prop
  | non : Shs K H .non .none
  | bl (b : Bool) : Shs K H (.bl b) (.bool b)
  | int (i : Int) : Shs K H (.int i) (.int i)
  | str (x : Str) : Shs K H (.str x) (.str x)
  | d7 {a : Addr} (e : H a = some (.dK [(Sum.inl 7, .int 7)])) : Shs K H (.ref a) (.dict [(.int 7, .int 7)])
def zipT : List (Str × V) → List PyData → List PyData
  | p :: l, d :: ds => .tuple [.str p.1, d] :: zipT l ds
  | _, _ => []
def PrsAt (H : Hp) (ts : List Addr) (l : List (Str × V)) : Prop := Paired (fun t (p : Str × V) => H t = some (.tup [.str p.1, p.2])) ts l
section
variable {X : Cx} {pins : List (Addr × Obj)} {σ : L2.St} {H : Hp} {s : Shared}
theorem shs_reads (I : Inv X pins σ H s) {v : V} {d : PyData} {u : Value} (h : Shs X.K H v d) (r : RelV v u) : ∃ as, Reads s.heap u d as ∧ sysModules ∉ as := by
  cases h with
  | non => cases (show u = Value.none from r); exact ⟨_, Reads.none, by simp⟩
  | bl b => cases (show u = Value.bool b from r); exact ⟨_, Reads.bool b, by simp⟩
  | int i => obtain ⟨t, rfl⟩ := (show ∃ t, u = Value.int i t from r); exact ⟨_, Reads.int i t, by simp⟩
  | str x => obtain ⟨t, rfl⟩ := (show ∃ t, u = Value.str x t from r); exact ⟨_, Reads.str x t, by simp⟩
  | d7 e =>
    cases (show u = Value.ref _ from r)
    obtain ⟨hr, hn⟩ := d7_reads I e
    exact ⟨_, hr, fun hm => hn (List.mem_singleton.mp hm).symm⟩
theorem prs_reads (I : Inv X pins σ H s) : ∀ {ts : List Addr} {l : List (Str × V)} {ds : List PyData}, PrsAt H ts l → Paired (fun (p : Str × V) d => Shs X.K H p.2 d) l ds → ∃ as, ReadsAll s.heap (ts.map Value.ref) (zipT l ds) as ∧ sysModules ∉ as
  | _, _, _, .nil, .nil => ⟨_, ReadsAll.nil, by simp⟩
  | t :: ts, p :: l, d :: ds, .cons ht rt, .cons hd rd => by
    obtain ⟨as, h1, n1⟩ := prs_reads I rt rd
    obtain ⟨_, its, rv, o, ho, hc, n, hdat⟩ := (show ObjOk X.prog X.w H s.heap t (.tup [.str p.1, p.2]) from I.hok t _ ht)
    cases rv with
    | cons r1 rr =>
      cases rr with
      | cons r2 rr =>
        cases rr
        obtain ⟨tk, rfl⟩ := (show ∃ t, _ = Value.str p.1 t from r1)
        obtain ⟨bs, h2, n2⟩ := shs_reads I hd r2
        refine ⟨_, ReadsAll.cons (Reads.tuple ho hc hdat (ReadsAll.cons (Reads.str _ _) (ReadsAll.cons h2 ReadsAll.nil))) h1, ?_⟩
        simp only [List.nil_append, List.append_nil, List.mem_append, not_or]
        exact ⟨n2, n1⟩
end
theorem prs_dp {K : PySem.W.Frag} {H : Hp} : ∀ {ts : List Addr} {l : List (Str × V)} {ds : List PyData}, PrsAt H ts l → Paired (fun (p : Str × V) d => Dp K H p.2 d) l ds → DpAll K H (ts.map V.ref) (zipT l ds)
  | _, _, _, .nil, .nil => .nil
  | _ :: _, _ :: _, _ :: _, .cons ht rt, .cons hd rd => .cons (.tup (.inl (.inl ht)) (.cons (.str _) (.cons hd .nil))) (prs_dp rt rd)
section
variable {X : Cx}
def rReprL (K : PySem.W.Frag) : List V → Hp → VK → Prop := fun xs H Q => ∃ (L : Addr) (ts : List Addr) (l : List (Str × V)) (ds : List PyData), xs = [.ref L] ∧ H L = some (.lst (ts.map V.ref)) ∧ L ≠ sysModules ∧ PrsAt H ts l ∧
  ((Paired (fun (p : Str × V) d => Dp K H p.2 d) l ds ∧ (PyData.list (zipT l ds)).hasDict = false) ∨ Paired (fun (p : Str × V) d => Shs K H p.2 d) l ds) ∧ (PyData.list (zipT l ds)).showable = true ∧ (PyData.list (zipT l ds)).depth ≤ 60 ∧ (PyData.list (zipT l ds)).shown.length ≤ sizeLine ∧ Q (.str (PyData.list (zipT l ds)).shown) H
theorem call_reprL (g : Gd X.A) (hu : X.A.units + 64 < cLine) : CallR X (.builtin "repr") (rReprL X.K) := by
  intro pins s σ H xs us Q I r h
  obtain ⟨L, ts, l, ds, rfl, eL, nL, hp, hd, h1, h3, h4, q⟩ := h
  rcases hd with ⟨hd, nd⟩ | hd
  · exact call_reprD g hu pins s σ H _ us Q I r ⟨.ref L, _, rfl, .lst (.inl (.inl eL)) (prs_dp hp hd), h1, nd, h3, h4, q⟩
  · obtain ⟨u, rfl, rx⟩ := vals1 r
    cases (show u = Value.ref L from rx)
    obtain ⟨_, its, n, rv, e⟩ := (show ObjOk X.prog X.w H s.heap L (.lst (ts.map V.ref)) from I.hok L _ eL)
    have ei := refs_at rv
    subst ei
    obtain ⟨as, hr, nr⟩ := prs_reads I hp hd
    refine repr_ref (Reads.list e rfl rfl (by rw [List.toList_toArray]; exact hr)) h1 (fun _ hm => ?_) h4 g (by omega) fun h' u tk hk => ⟨.str _, H, I.kept (t' := tk) hk, ⟨_, rfl⟩, q⟩
    rcases List.mem_cons.mp hm with h | h
    · exact nL h.symm
    · exact nr h
/-- list + list, the sum far from the table of modules -/
def rCatN : R2 := fun x y H Q => ∃ l b xs zs, x = .ref l ∧ y = .ref b ∧ H l = some (.lst xs) ∧ H b = some (.lst zs) ∧ xs.length + zs.length ≤ sizeLine ∧ ∀ p, H p = none → p ≠ sysModules → Q (.ref p) (upd H p (.lst (xs ++ zs)))
theorem op_catN : OpR X (binaryOp .Add) rCatN := by
  intro pins s σ H x y v u Q I rx ry h
  obtain ⟨l, b, xs, zs, rfl, rfl, el, eb, hz, q⟩ := h
  cases rx
  cases ry
  obtain ⟨za, ia, na, ra, la, ea⟩ := I.lstM el
  obtain ⟨zb, ib, nb, rb, lb, eb'⟩ := I.lstM eb
  refine PySem.P.add_list ea eb' ?_ (by rw [List.size_toArray, List.size_toArray]; omega)
  have e : ia.toArray ++ ib.toArray = (ia ++ ib).toArray := by simp
  rw [e]
  exact ⟨.ref _, _, I.lnew (t' := s.toks) (ra.append rb) (by rw [List.length_append]; omega), rfl, q _ I.fresh (Nat.ne_of_gt (far I))⟩
end
end Gx

set_option maxRecDepth 100000
set_option maxHeartbeats 4000000
namespace Kl
open PySem PySem.Spec PyProof.Rows L2 Gx Mx
section
variable {P : Program} {w : World} {K : PySem.W.Frag} {mg : Str → Option Value} {base : Heap} {c : Nat → Addr}
/-! ### what the errors keep -/
theorem exAt_same {H H' : Hp} (s : Same H H') {e C : Addr} {d : Option Addr} {fs : List (Str × V)} (h : ExAt H e C d fs) : ExAt H' e C d fs := ⟨s _ _ h.1, fun dd e => s _ _ (h.2 dd e)⟩
theorem exAt_new {H : Hp} {e C d : Addr} {fs : List (Str × V)} (z : e ≠ d) : ExAt (upd (upd H d (.xd fs)) e (ExV C e (some d))) e C (some d) fs :=
  ⟨upd_same, fun dd h => by
    cases h
    rw [upd_ne z.symm]
    exact upd_same⟩
def keptL (v ix : V) : List (Str × V) := [(allL 11, ix), (allL 12, v), (allL 13, v), (allL 14, v), (allL 15, v), (allL 16, v), (allL 17, v), (allL 18, v), (allL 19, v)]
def spKept : Sp := fun vs H Q _ => ∃ v ix : V, vs = [v, ix] ∧ ∀ (p : Addr) (H' : Hp) (ts : List Addr), p ≠ sysModules → Same H H' → H' p = some (.lst (ts.map V.ref)) → PrsAt H' ts (keptL v ix) → Q (.ref p) H'
theorem ok_kept {f : Addr} {fd : FuncData} (F : Fun K "_law_kept" "_law_kept" s_law_kept f fd) (T : Top K mg) (ER : Errs K mg c) : FnOk P w K mg base CX0 3 f fd ["_law_value", "_law_index"] spKept := by
  have ca : Cal P w K mg base 2 "_law_all" ["_law_error"] (spAll K c) := T.d_law_all.cal fun f fd F => ok_all F T ER
  obtain ⟨fI11, fd11, TX11, FX11⟩ := ER.x_ParseError
  obtain ⟨fI12, fd12, TX12, FX12⟩ := ER.x_UnknownName
  obtain ⟨fI13, fd13, TX13, FX13⟩ := ER.x_AbsentKey
  obtain ⟨fI14, fd14, TX14, FX14⟩ := ER.x_EmptyHeap
  obtain ⟨fI15, fd15, TX15, FX15⟩ := ER.x_InvalidNumber
  obtain ⟨fI16, fd16, TX16, FX16⟩ := ER.x_NothingToUndo
  obtain ⟨fI17, fd17, TX17, FX17⟩ := ER.x_TooMany
  obtain ⟨fI18, fd18, TX18, FX18⟩ := ER.x_Refused
  obtain ⟨fI19, fd19, TX19, FX19⟩ := ER.x_Spoilt
  refine F.ok sc_law_kept (fun vs H Q E h => ?_) (fun cdv A outer s H vs Q E hr h => ?_)
  · obtain ⟨v, ix, rfl, _⟩ := h
    rfl
  · obtain ⟨v, ix, rfl, q⟩ := h
    refine ⟨_, pss_cons (ps_par3 (i := 2) (j := 3) (l := 4) rfl sc_law_kept.nd rfl rfl rfl (by decide) (by decide) (by decide) rfl rfl rfl (pa_cons (pe_mkV (xbase_of PySem.F.excBase_ValueError) TX11 (init_ParseError TX11 FX11) hr (pa_cons (pv 1) pa_nil) (by rfl)) (pa_cons (pe_mkV (xbase_KeyError) TX12 (init_UnknownName TX12 FX12) hr (pa_cons (pv 0) pa_nil) (by rfl)) (pa_cons (pe_mkV (xbase_KeyError) TX13 (init_AbsentKey TX13 FX13) hr (pa_cons (pv 0) pa_nil) (by rfl)) pa_nil))) (by rfl))
      (pss_cons (ps_par (i := 5) (j := 6) rfl sc_law_kept.nd rfl rfl (by decide) rfl rfl (pa_cons (pe_mkV (xbase_of PySem.F.excBase_LookupError) TX14 (init_EmptyHeap TX14 FX14) hr (pa_cons (pv 0) pa_nil) (by rfl)) (pa_cons (pe_mkV (xbase_of PySem.F.excBase_IndexError) TX15 (init_InvalidNumber TX15 FX15) hr (pa_cons (pv 0) pa_nil) (by rfl)) pa_nil)) (by rfl))
      (pss_cons (ps_par (i := 7) (j := 8) rfl sc_law_kept.nd rfl rfl (by decide) rfl rfl (pa_cons (pe_mkV (xbase_of PySem.F.excBase_RuntimeError) TX16 (init_NothingToUndo TX16 FX16) hr (pa_cons (pv 0) pa_nil) (by rfl)) (pa_cons (pe_mkV (xbase_of PySem.F.excBase_OverflowError) TX17 (init_TooMany TX17 FX17) hr (pa_cons (pv 0) pa_nil) (by rfl)) pa_nil)) (by rfl))
      (pss_cons (ps_par (i := 9) (j := 10) rfl sc_law_kept.nd rfl rfl (by decide) rfl rfl (pa_cons (pe_mkV (xbase_of PySem.F.excBase_ArithmeticError) TX18 (init_Refused TX18 FX18) hr (pa_cons (pv 0) pa_nil) (by rfl)) (pa_cons (pe_mkV (xbase_of PySem.F.excBase_ArithmeticError) TX19 (init_Spoilt TX19 FX19) hr (pa_cons (pv 0) pa_nil) (by rfl)) pa_nil)) (by rfl))
      (pss_cons (ps_set (i := 11) sc_law_kept.nd rfl (.inl rfl) (pe_lst (pa_cons (pe_tup (pa_cons (pe_cal ca hr (by rfl) (pa_cons (pv 2) pa_nil)) (pa_cons (pe_getV TX11 (pv 2)) pa_nil))) (pa_cons (pe_tup (pa_cons (pe_cal ca hr (by rfl) (pa_cons (pv 3) pa_nil)) (pa_cons (pe_getV TX12 (pv 3)) pa_nil))) (pa_cons (pe_tup (pa_cons (pe_cal ca hr (by rfl) (pa_cons (pv 4) pa_nil)) (pa_cons (pe_getV TX13 (pv 4)) pa_nil))) pa_nil)))))
      (pss_cons (ps_set (i := 11) sc_law_kept.nd rfl (.inl rfl) (pe_op op_cat (pv 11) (pe_lst (pa_cons (pe_tup (pa_cons (pe_cal ca hr (by rfl) (pa_cons (pv 5) pa_nil)) (pa_cons (pe_getV TX14 (pv 5)) pa_nil))) (pa_cons (pe_tup (pa_cons (pe_cal ca hr (by rfl) (pa_cons (pv 6) pa_nil)) (pa_cons (pe_getV TX15 (pv 6)) pa_nil))) (pa_cons (pe_tup (pa_cons (pe_cal ca hr (by rfl) (pa_cons (pv 7) pa_nil)) (pa_cons (pe_getV TX16 (pv 7)) pa_nil))) pa_nil))))))
      (pss_cons (ps_set (i := 11) sc_law_kept.nd rfl (.inl rfl) (pe_op op_cat (pv 11) (pe_lst (pa_cons (pe_tup (pa_cons (pe_cal ca hr (by rfl) (pa_cons (pv 8) pa_nil)) (pa_cons (pe_getV TX17 (pv 8)) pa_nil))) (pa_cons (pe_tup (pa_cons (pe_cal ca hr (by rfl) (pa_cons (pv 9) pa_nil)) (pa_cons (pe_getV TX18 (pv 9)) pa_nil))) pa_nil)))))
      (pss_one (ps_ret (pe_op op_catN (pv 11) (pe_lst (pa_cons (pe_tup (pa_cons (pe_cal ca hr (by rfl) (pa_cons (pv 10) pa_nil)) (pa_cons (pe_getV TX19 (pv 10)) pa_nil))) pa_nil))))))))))), ?_⟩
    refine ⟨_, rfl, _, rfl, fun d11 e11 nd11 ne11 z11 => ?_⟩
    have x11 : ExAt (upd (upd H d11 (.xd [("number", ix)])) e11 (ExV (c 11) e11 (some d11))) e11 (c 11) (some d11) [("number", ix)] := exAt_new z11
    have s1 : Same H (upd (upd H d11 (.xd [("number", ix)])) e11 (ExV (c 11) e11 (some d11))) := same_at ne11 (same_at nd11 (Same.refl H))
    generalize upd (upd H d11 (.xd [("number", ix)])) e11 (ExV (c 11) e11 (some d11)) = H1 at x11 s1 ⊢
    have t1 := s1
    refine ⟨_, rfl, _, rfl, fun d12 e12 nd12 ne12 z12 => ?_⟩
    have x12 : ExAt (upd (upd H1 d12 (.xd [("word", v)])) e12 (ExV (c 12) e12 (some d12))) e12 (c 12) (some d12) [("word", v)] := exAt_new z12
    have s2 : Same H1 (upd (upd H1 d12 (.xd [("word", v)])) e12 (ExV (c 12) e12 (some d12))) := same_at ne12 (same_at nd12 (Same.refl H1))
    generalize upd (upd H1 d12 (.xd [("word", v)])) e12 (ExV (c 12) e12 (some d12)) = H2 at x12 s2 ⊢
    have x11 := exAt_same s2 x11
    have t2 := t1.trans s2
    refine ⟨_, rfl, _, rfl, fun d13 e13 nd13 ne13 z13 => ?_⟩
    have x13 : ExAt (upd (upd H2 d13 (.xd [("absent", v)])) e13 (ExV (c 13) e13 (some d13))) e13 (c 13) (some d13) [("absent", v)] := exAt_new z13
    have s3 : Same H2 (upd (upd H2 d13 (.xd [("absent", v)])) e13 (ExV (c 13) e13 (some d13))) := same_at ne13 (same_at nd13 (Same.refl H2))
    generalize upd (upd H2 d13 (.xd [("absent", v)])) e13 (ExV (c 13) e13 (some d13)) = H3 at x13 s3 ⊢
    have x11 := exAt_same s3 x11
    have x12 := exAt_same s3 x12
    have t3 := t2.trans s3
    refine ⟨_, _, _, rfl, ?_⟩
    refine ⟨_, rfl, _, rfl, fun d14 e14 nd14 ne14 z14 => ?_⟩
    have x14 : ExAt (upd (upd H3 d14 (.xd [("deed", v)])) e14 (ExV (c 14) e14 (some d14))) e14 (c 14) (some d14) [("deed", v)] := exAt_new z14
    have s4 : Same H3 (upd (upd H3 d14 (.xd [("deed", v)])) e14 (ExV (c 14) e14 (some d14))) := same_at ne14 (same_at nd14 (Same.refl H3))
    generalize upd (upd H3 d14 (.xd [("deed", v)])) e14 (ExV (c 14) e14 (some d14)) = H4 at x14 s4 ⊢
    have x11 := exAt_same s4 x11
    have x12 := exAt_same s4 x12
    have x13 := exAt_same s4 x13
    have t4 := t3.trans s4
    refine ⟨_, rfl, _, rfl, fun d15 e15 nd15 ne15 z15 => ?_⟩
    have x15 : ExAt (upd (upd H4 d15 (.xd [("value", v)])) e15 (ExV (c 15) e15 (some d15))) e15 (c 15) (some d15) [("value", v)] := exAt_new z15
    have s5 : Same H4 (upd (upd H4 d15 (.xd [("value", v)])) e15 (ExV (c 15) e15 (some d15))) := same_at ne15 (same_at nd15 (Same.refl H4))
    generalize upd (upd H4 d15 (.xd [("value", v)])) e15 (ExV (c 15) e15 (some d15)) = H5 at x15 s5 ⊢
    have x11 := exAt_same s5 x11
    have x12 := exAt_same s5 x12
    have x13 := exAt_same s5 x13
    have x14 := exAt_same s5 x14
    have t5 := t4.trans s5
    refine ⟨_, _, rfl, ?_⟩
    refine ⟨_, rfl, _, rfl, fun d16 e16 nd16 ne16 z16 => ?_⟩
    have x16 : ExAt (upd (upd H5 d16 (.xd [("many", v)])) e16 (ExV (c 16) e16 (some d16))) e16 (c 16) (some d16) [("many", v)] := exAt_new z16
    have s6 : Same H5 (upd (upd H5 d16 (.xd [("many", v)])) e16 (ExV (c 16) e16 (some d16))) := same_at ne16 (same_at nd16 (Same.refl H5))
    generalize upd (upd H5 d16 (.xd [("many", v)])) e16 (ExV (c 16) e16 (some d16)) = H6 at x16 s6 ⊢
    have x11 := exAt_same s6 x11
    have x12 := exAt_same s6 x12
    have x13 := exAt_same s6 x13
    have x14 := exAt_same s6 x14
    have x15 := exAt_same s6 x15
    have t6 := t5.trans s6
    refine ⟨_, rfl, _, rfl, fun d17 e17 nd17 ne17 z17 => ?_⟩
    have x17 : ExAt (upd (upd H6 d17 (.xd [("limit", v)])) e17 (ExV (c 17) e17 (some d17))) e17 (c 17) (some d17) [("limit", v)] := exAt_new z17
    have s7 : Same H6 (upd (upd H6 d17 (.xd [("limit", v)])) e17 (ExV (c 17) e17 (some d17))) := same_at ne17 (same_at nd17 (Same.refl H6))
    generalize upd (upd H6 d17 (.xd [("limit", v)])) e17 (ExV (c 17) e17 (some d17)) = H7 at x17 s7 ⊢
    have x11 := exAt_same s7 x11
    have x12 := exAt_same s7 x12
    have x13 := exAt_same s7 x13
    have x14 := exAt_same s7 x14
    have x15 := exAt_same s7 x15
    have x16 := exAt_same s7 x16
    have t7 := t6.trans s7
    refine ⟨_, _, rfl, ?_⟩
    refine ⟨_, rfl, _, rfl, fun d18 e18 nd18 ne18 z18 => ?_⟩
    have x18 : ExAt (upd (upd H7 d18 (.xd [("pledge", v)])) e18 (ExV (c 18) e18 (some d18))) e18 (c 18) (some d18) [("pledge", v)] := exAt_new z18
    have s8 : Same H7 (upd (upd H7 d18 (.xd [("pledge", v)])) e18 (ExV (c 18) e18 (some d18))) := same_at ne18 (same_at nd18 (Same.refl H7))
    generalize upd (upd H7 d18 (.xd [("pledge", v)])) e18 (ExV (c 18) e18 (some d18)) = H8 at x18 s8 ⊢
    have x11 := exAt_same s8 x11
    have x12 := exAt_same s8 x12
    have x13 := exAt_same s8 x13
    have x14 := exAt_same s8 x14
    have x15 := exAt_same s8 x15
    have x16 := exAt_same s8 x16
    have x17 := exAt_same s8 x17
    have t8 := t7.trans s8
    refine ⟨_, rfl, _, rfl, fun d19 e19 nd19 ne19 z19 => ?_⟩
    have x19 : ExAt (upd (upd H8 d19 (.xd [("row", v)])) e19 (ExV (c 19) e19 (some d19))) e19 (c 19) (some d19) [("row", v)] := exAt_new z19
    have s9 : Same H8 (upd (upd H8 d19 (.xd [("row", v)])) e19 (ExV (c 19) e19 (some d19))) := same_at ne19 (same_at nd19 (Same.refl H8))
    generalize upd (upd H8 d19 (.xd [("row", v)])) e19 (ExV (c 19) e19 (some d19)) = H9 at x19 s9 ⊢
    have x11 := exAt_same s9 x11
    have x12 := exAt_same s9 x12
    have x13 := exAt_same s9 x13
    have x14 := exAt_same s9 x14
    have x15 := exAt_same s9 x15
    have x16 := exAt_same s9 x16
    have x17 := exAt_same s9 x17
    have x18 := exAt_same s9 x18
    have t9 := t8.trans s9
    refine ⟨_, _, rfl, ?_⟩
    refine ⟨_, rfl, e11, 11, some d11, _, rfl, by decide, x11, _, rfl, e11, d11, ix, rfl, x11, by show 2 ≤ sizeLine; decide, fun ta11 nta11 => ?_⟩
    have f11 : (upd H9 ta11 (.tup [.str (allL 11), ix])) ta11 = some (.tup [.str (allL 11), ix]) := by exact upd_same
    have s10 := same_at nta11 (Same.refl H9) (o := .tup [.str (allL 11), ix])
    generalize upd H9 ta11 (.tup [.str (allL 11), ix]) = H10 at f11 s10 ⊢
    have x11 := exAt_same s10 x11
    have x12 := exAt_same s10 x12
    have x13 := exAt_same s10 x13
    have x14 := exAt_same s10 x14
    have x15 := exAt_same s10 x15
    have x16 := exAt_same s10 x16
    have x17 := exAt_same s10 x17
    have x18 := exAt_same s10 x18
    have x19 := exAt_same s10 x19
    have t10 := t9.trans s10
    refine ⟨_, rfl, e12, 12, some d12, _, rfl, by decide, x12, _, rfl, e12, d12, v, rfl, x12, by show 2 ≤ sizeLine; decide, fun ta12 nta12 => ?_⟩
    have f12 : (upd H10 ta12 (.tup [.str (allL 12), v])) ta12 = some (.tup [.str (allL 12), v]) := by exact upd_same
    have s11 := same_at nta12 (Same.refl H10) (o := .tup [.str (allL 12), v])
    generalize upd H10 ta12 (.tup [.str (allL 12), v]) = H11 at f12 s11 ⊢
    have x11 := exAt_same s11 x11
    have x12 := exAt_same s11 x12
    have x13 := exAt_same s11 x13
    have x14 := exAt_same s11 x14
    have x15 := exAt_same s11 x15
    have x16 := exAt_same s11 x16
    have x17 := exAt_same s11 x17
    have x18 := exAt_same s11 x18
    have x19 := exAt_same s11 x19
    have f11 := s11 _ _ f11
    have t11 := t10.trans s11
    refine ⟨_, rfl, e13, 13, some d13, _, rfl, by decide, x13, _, rfl, e13, d13, v, rfl, x13, by show 2 ≤ sizeLine; decide, fun ta13 nta13 => ?_⟩
    have f13 : (upd H11 ta13 (.tup [.str (allL 13), v])) ta13 = some (.tup [.str (allL 13), v]) := by exact upd_same
    have s12 := same_at nta13 (Same.refl H11) (o := .tup [.str (allL 13), v])
    generalize upd H11 ta13 (.tup [.str (allL 13), v]) = H12 at f13 s12 ⊢
    have x11 := exAt_same s12 x11
    have x12 := exAt_same s12 x12
    have x13 := exAt_same s12 x13
    have x14 := exAt_same s12 x14
    have x15 := exAt_same s12 x15
    have x16 := exAt_same s12 x16
    have x17 := exAt_same s12 x17
    have x18 := exAt_same s12 x18
    have x19 := exAt_same s12 x19
    have f11 := s12 _ _ f11
    have f12 := s12 _ _ f12
    have t12 := t11.trans s12
    refine ⟨by show 3 ≤ sizeLine; decide, fun pl0 npl0 => ?_⟩
    have gl0 : upd H12 pl0 (.lst [V.ref ta11, V.ref ta12, V.ref ta13]) pl0 = some (.lst [V.ref ta11, V.ref ta12, V.ref ta13]) := upd_same
    have s13 := same_at npl0 (Same.refl H12) (o := .lst [V.ref ta11, V.ref ta12, V.ref ta13])
    generalize upd H12 pl0 (.lst [V.ref ta11, V.ref ta12, V.ref ta13]) = H13 at gl0 s13 ⊢
    have x11 := exAt_same s13 x11
    have x12 := exAt_same s13 x12
    have x13 := exAt_same s13 x13
    have x14 := exAt_same s13 x14
    have x15 := exAt_same s13 x15
    have x16 := exAt_same s13 x16
    have x17 := exAt_same s13 x17
    have x18 := exAt_same s13 x18
    have x19 := exAt_same s13 x19
    have f11 := s13 _ _ f11
    have f12 := s13 _ _ f12
    have f13 := s13 _ _ f13
    have t13 := t12.trans s13
    refine ⟨_, rfl, ?_⟩
    refine ⟨_, rfl, e14, 14, some d14, _, rfl, by decide, x14, _, rfl, e14, d14, v, rfl, x14, by show 2 ≤ sizeLine; decide, fun ta14 nta14 => ?_⟩
    have f14 : (upd H13 ta14 (.tup [.str (allL 14), v])) ta14 = some (.tup [.str (allL 14), v]) := by exact upd_same
    have s14 := same_at nta14 (Same.refl H13) (o := .tup [.str (allL 14), v])
    generalize upd H13 ta14 (.tup [.str (allL 14), v]) = H14 at f14 s14 ⊢
    have x11 := exAt_same s14 x11
    have x12 := exAt_same s14 x12
    have x13 := exAt_same s14 x13
    have x14 := exAt_same s14 x14
    have x15 := exAt_same s14 x15
    have x16 := exAt_same s14 x16
    have x17 := exAt_same s14 x17
    have x18 := exAt_same s14 x18
    have x19 := exAt_same s14 x19
    have f11 := s14 _ _ f11
    have f12 := s14 _ _ f12
    have f13 := s14 _ _ f13
    have gl0 := s14 _ _ gl0
    have t14 := t13.trans s14
    refine ⟨_, rfl, e15, 15, some d15, _, rfl, by decide, x15, _, rfl, e15, d15, v, rfl, x15, by show 2 ≤ sizeLine; decide, fun ta15 nta15 => ?_⟩
    have f15 : (upd H14 ta15 (.tup [.str (allL 15), v])) ta15 = some (.tup [.str (allL 15), v]) := by exact upd_same
    have s15 := same_at nta15 (Same.refl H14) (o := .tup [.str (allL 15), v])
    generalize upd H14 ta15 (.tup [.str (allL 15), v]) = H15 at f15 s15 ⊢
    have x11 := exAt_same s15 x11
    have x12 := exAt_same s15 x12
    have x13 := exAt_same s15 x13
    have x14 := exAt_same s15 x14
    have x15 := exAt_same s15 x15
    have x16 := exAt_same s15 x16
    have x17 := exAt_same s15 x17
    have x18 := exAt_same s15 x18
    have x19 := exAt_same s15 x19
    have f11 := s15 _ _ f11
    have f12 := s15 _ _ f12
    have f13 := s15 _ _ f13
    have gl0 := s15 _ _ gl0
    have f14 := s15 _ _ f14
    have t15 := t14.trans s15
    refine ⟨_, rfl, e16, 16, some d16, _, rfl, by decide, x16, _, rfl, e16, d16, v, rfl, x16, by show 2 ≤ sizeLine; decide, fun ta16 nta16 => ?_⟩
    have f16 : (upd H15 ta16 (.tup [.str (allL 16), v])) ta16 = some (.tup [.str (allL 16), v]) := by exact upd_same
    have s16 := same_at nta16 (Same.refl H15) (o := .tup [.str (allL 16), v])
    generalize upd H15 ta16 (.tup [.str (allL 16), v]) = H16 at f16 s16 ⊢
    have x11 := exAt_same s16 x11
    have x12 := exAt_same s16 x12
    have x13 := exAt_same s16 x13
    have x14 := exAt_same s16 x14
    have x15 := exAt_same s16 x15
    have x16 := exAt_same s16 x16
    have x17 := exAt_same s16 x17
    have x18 := exAt_same s16 x18
    have x19 := exAt_same s16 x19
    have f11 := s16 _ _ f11
    have f12 := s16 _ _ f12
    have f13 := s16 _ _ f13
    have gl0 := s16 _ _ gl0
    have f14 := s16 _ _ f14
    have f15 := s16 _ _ f15
    have t16 := t15.trans s16
    refine ⟨by show 3 ≤ sizeLine; decide, fun pl1 npl1 => ?_⟩
    have gl1 : upd H16 pl1 (.lst [V.ref ta14, V.ref ta15, V.ref ta16]) pl1 = some (.lst [V.ref ta14, V.ref ta15, V.ref ta16]) := upd_same
    have s17 := same_at npl1 (Same.refl H16) (o := .lst [V.ref ta14, V.ref ta15, V.ref ta16])
    generalize upd H16 pl1 (.lst [V.ref ta14, V.ref ta15, V.ref ta16]) = H17 at gl1 s17 ⊢
    have x11 := exAt_same s17 x11
    have x12 := exAt_same s17 x12
    have x13 := exAt_same s17 x13
    have x14 := exAt_same s17 x14
    have x15 := exAt_same s17 x15
    have x16 := exAt_same s17 x16
    have x17 := exAt_same s17 x17
    have x18 := exAt_same s17 x18
    have x19 := exAt_same s17 x19
    have f11 := s17 _ _ f11
    have f12 := s17 _ _ f12
    have f13 := s17 _ _ f13
    have gl0 := s17 _ _ gl0
    have f14 := s17 _ _ f14
    have f15 := s17 _ _ f15
    have f16 := s17 _ _ f16
    have t17 := t16.trans s17
    refine ⟨pl0, pl1, _, _, rfl, rfl, gl0, gl1, by show 6 ≤ sizeLine; decide, fun pc1 npc1 => ?_⟩
    have gc1 : upd H17 pc1 (.lst ([V.ref ta11, V.ref ta12, V.ref ta13] ++ [V.ref ta14, V.ref ta15, V.ref ta16])) pc1 = some (.lst ([V.ref ta11, V.ref ta12, V.ref ta13] ++ [V.ref ta14, V.ref ta15, V.ref ta16])) := upd_same
    have s18 := same_at npc1 (Same.refl H17) (o := .lst ([V.ref ta11, V.ref ta12, V.ref ta13] ++ [V.ref ta14, V.ref ta15, V.ref ta16]))
    generalize upd H17 pc1 (.lst ([V.ref ta11, V.ref ta12, V.ref ta13] ++ [V.ref ta14, V.ref ta15, V.ref ta16])) = H18 at gc1 s18 ⊢
    have x11 := exAt_same s18 x11
    have x12 := exAt_same s18 x12
    have x13 := exAt_same s18 x13
    have x14 := exAt_same s18 x14
    have x15 := exAt_same s18 x15
    have x16 := exAt_same s18 x16
    have x17 := exAt_same s18 x17
    have x18 := exAt_same s18 x18
    have x19 := exAt_same s18 x19
    have f11 := s18 _ _ f11
    have f12 := s18 _ _ f12
    have f13 := s18 _ _ f13
    have gl0 := s18 _ _ gl0
    have f14 := s18 _ _ f14
    have f15 := s18 _ _ f15
    have f16 := s18 _ _ f16
    have gl1 := s18 _ _ gl1
    have t18 := t17.trans s18
    refine ⟨_, rfl, ?_⟩
    refine ⟨_, rfl, e17, 17, some d17, _, rfl, by decide, x17, _, rfl, e17, d17, v, rfl, x17, by show 2 ≤ sizeLine; decide, fun ta17 nta17 => ?_⟩
    have f17 : (upd H18 ta17 (.tup [.str (allL 17), v])) ta17 = some (.tup [.str (allL 17), v]) := by exact upd_same
    have s19 := same_at nta17 (Same.refl H18) (o := .tup [.str (allL 17), v])
    generalize upd H18 ta17 (.tup [.str (allL 17), v]) = H19 at f17 s19 ⊢
    have x11 := exAt_same s19 x11
    have x12 := exAt_same s19 x12
    have x13 := exAt_same s19 x13
    have x14 := exAt_same s19 x14
    have x15 := exAt_same s19 x15
    have x16 := exAt_same s19 x16
    have x17 := exAt_same s19 x17
    have x18 := exAt_same s19 x18
    have x19 := exAt_same s19 x19
    have f11 := s19 _ _ f11
    have f12 := s19 _ _ f12
    have f13 := s19 _ _ f13
    have gl0 := s19 _ _ gl0
    have f14 := s19 _ _ f14
    have f15 := s19 _ _ f15
    have f16 := s19 _ _ f16
    have gl1 := s19 _ _ gl1
    have gc1 := s19 _ _ gc1
    have t19 := t18.trans s19
    refine ⟨_, rfl, e18, 18, some d18, _, rfl, by decide, x18, _, rfl, e18, d18, v, rfl, x18, by show 2 ≤ sizeLine; decide, fun ta18 nta18 => ?_⟩
    have f18 : (upd H19 ta18 (.tup [.str (allL 18), v])) ta18 = some (.tup [.str (allL 18), v]) := by exact upd_same
    have s20 := same_at nta18 (Same.refl H19) (o := .tup [.str (allL 18), v])
    generalize upd H19 ta18 (.tup [.str (allL 18), v]) = H20 at f18 s20 ⊢
    have x11 := exAt_same s20 x11
    have x12 := exAt_same s20 x12
    have x13 := exAt_same s20 x13
    have x14 := exAt_same s20 x14
    have x15 := exAt_same s20 x15
    have x16 := exAt_same s20 x16
    have x17 := exAt_same s20 x17
    have x18 := exAt_same s20 x18
    have x19 := exAt_same s20 x19
    have f11 := s20 _ _ f11
    have f12 := s20 _ _ f12
    have f13 := s20 _ _ f13
    have gl0 := s20 _ _ gl0
    have f14 := s20 _ _ f14
    have f15 := s20 _ _ f15
    have f16 := s20 _ _ f16
    have gl1 := s20 _ _ gl1
    have gc1 := s20 _ _ gc1
    have f17 := s20 _ _ f17
    have t20 := t19.trans s20
    refine ⟨by show 2 ≤ sizeLine; decide, fun pl2 npl2 => ?_⟩
    have gl2 : upd H20 pl2 (.lst [V.ref ta17, V.ref ta18]) pl2 = some (.lst [V.ref ta17, V.ref ta18]) := upd_same
    have s21 := same_at npl2 (Same.refl H20) (o := .lst [V.ref ta17, V.ref ta18])
    generalize upd H20 pl2 (.lst [V.ref ta17, V.ref ta18]) = H21 at gl2 s21 ⊢
    have x11 := exAt_same s21 x11
    have x12 := exAt_same s21 x12
    have x13 := exAt_same s21 x13
    have x14 := exAt_same s21 x14
    have x15 := exAt_same s21 x15
    have x16 := exAt_same s21 x16
    have x17 := exAt_same s21 x17
    have x18 := exAt_same s21 x18
    have x19 := exAt_same s21 x19
    have f11 := s21 _ _ f11
    have f12 := s21 _ _ f12
    have f13 := s21 _ _ f13
    have gl0 := s21 _ _ gl0
    have f14 := s21 _ _ f14
    have f15 := s21 _ _ f15
    have f16 := s21 _ _ f16
    have gl1 := s21 _ _ gl1
    have gc1 := s21 _ _ gc1
    have f17 := s21 _ _ f17
    have f18 := s21 _ _ f18
    have t21 := t20.trans s21
    refine ⟨pc1, pl2, _, _, rfl, rfl, gc1, gl2, by show 8 ≤ sizeLine; decide, fun pc2 npc2 => ?_⟩
    have gc2 : upd H21 pc2 (.lst (([V.ref ta11, V.ref ta12, V.ref ta13] ++ [V.ref ta14, V.ref ta15, V.ref ta16]) ++ [V.ref ta17, V.ref ta18])) pc2 = some (.lst (([V.ref ta11, V.ref ta12, V.ref ta13] ++ [V.ref ta14, V.ref ta15, V.ref ta16]) ++ [V.ref ta17, V.ref ta18])) := upd_same
    have s22 := same_at npc2 (Same.refl H21) (o := .lst (([V.ref ta11, V.ref ta12, V.ref ta13] ++ [V.ref ta14, V.ref ta15, V.ref ta16]) ++ [V.ref ta17, V.ref ta18]))
    generalize upd H21 pc2 (.lst (([V.ref ta11, V.ref ta12, V.ref ta13] ++ [V.ref ta14, V.ref ta15, V.ref ta16]) ++ [V.ref ta17, V.ref ta18])) = H22 at gc2 s22 ⊢
    have x11 := exAt_same s22 x11
    have x12 := exAt_same s22 x12
    have x13 := exAt_same s22 x13
    have x14 := exAt_same s22 x14
    have x15 := exAt_same s22 x15
    have x16 := exAt_same s22 x16
    have x17 := exAt_same s22 x17
    have x18 := exAt_same s22 x18
    have x19 := exAt_same s22 x19
    have f11 := s22 _ _ f11
    have f12 := s22 _ _ f12
    have f13 := s22 _ _ f13
    have gl0 := s22 _ _ gl0
    have f14 := s22 _ _ f14
    have f15 := s22 _ _ f15
    have f16 := s22 _ _ f16
    have gl1 := s22 _ _ gl1
    have gc1 := s22 _ _ gc1
    have f17 := s22 _ _ f17
    have f18 := s22 _ _ f18
    have gl2 := s22 _ _ gl2
    have t22 := t21.trans s22
    refine ⟨_, rfl, ?_⟩
    refine ⟨_, rfl, e19, 19, some d19, _, rfl, by decide, x19, _, rfl, e19, d19, v, rfl, x19, by show 2 ≤ sizeLine; decide, fun ta19 nta19 => ?_⟩
    have f19 : (upd H22 ta19 (.tup [.str (allL 19), v])) ta19 = some (.tup [.str (allL 19), v]) := by exact upd_same
    have s23 := same_at nta19 (Same.refl H22) (o := .tup [.str (allL 19), v])
    generalize upd H22 ta19 (.tup [.str (allL 19), v]) = H23 at f19 s23 ⊢
    have x11 := exAt_same s23 x11
    have x12 := exAt_same s23 x12
    have x13 := exAt_same s23 x13
    have x14 := exAt_same s23 x14
    have x15 := exAt_same s23 x15
    have x16 := exAt_same s23 x16
    have x17 := exAt_same s23 x17
    have x18 := exAt_same s23 x18
    have x19 := exAt_same s23 x19
    have f11 := s23 _ _ f11
    have f12 := s23 _ _ f12
    have f13 := s23 _ _ f13
    have gl0 := s23 _ _ gl0
    have f14 := s23 _ _ f14
    have f15 := s23 _ _ f15
    have f16 := s23 _ _ f16
    have gl1 := s23 _ _ gl1
    have gc1 := s23 _ _ gc1
    have f17 := s23 _ _ f17
    have f18 := s23 _ _ f18
    have gl2 := s23 _ _ gl2
    have gc2 := s23 _ _ gc2
    have t23 := t22.trans s23
    refine ⟨by show 1 ≤ sizeLine; decide, fun pl3 npl3 => ?_⟩
    have gl3 : upd H23 pl3 (.lst [V.ref ta19]) pl3 = some (.lst [V.ref ta19]) := upd_same
    have s24 := same_at npl3 (Same.refl H23) (o := .lst [V.ref ta19])
    generalize upd H23 pl3 (.lst [V.ref ta19]) = H24 at gl3 s24 ⊢
    have x11 := exAt_same s24 x11
    have x12 := exAt_same s24 x12
    have x13 := exAt_same s24 x13
    have x14 := exAt_same s24 x14
    have x15 := exAt_same s24 x15
    have x16 := exAt_same s24 x16
    have x17 := exAt_same s24 x17
    have x18 := exAt_same s24 x18
    have x19 := exAt_same s24 x19
    have f11 := s24 _ _ f11
    have f12 := s24 _ _ f12
    have f13 := s24 _ _ f13
    have gl0 := s24 _ _ gl0
    have f14 := s24 _ _ f14
    have f15 := s24 _ _ f15
    have f16 := s24 _ _ f16
    have gl1 := s24 _ _ gl1
    have gc1 := s24 _ _ gc1
    have f17 := s24 _ _ f17
    have f18 := s24 _ _ f18
    have gl2 := s24 _ _ gl2
    have gc2 := s24 _ _ gc2
    have f19 := s24 _ _ f19
    have t24 := t23.trans s24
    refine ⟨pc2, pl3, _, _, rfl, rfl, gc2, gl3, by show 9 ≤ sizeLine; decide, fun p np far => ?_⟩
    have s := same_at np (Same.refl H24) (o := .lst ((([V.ref ta11, V.ref ta12, V.ref ta13] ++ [V.ref ta14, V.ref ta15, V.ref ta16]) ++ [V.ref ta17, V.ref ta18]) ++ [V.ref ta19]))
    exact q p _ [ta11, ta12, ta13, ta14, ta15, ta16, ta17, ta18, ta19] far (t24.trans s) upd_same (.cons (s _ _ f11) (.cons (s _ _ f12) (.cons (s _ _ f13) (.cons (s _ _ f14) (.cons (s _ _ f15) (.cons (s _ _ f16) (.cons (s _ _ f17) (.cons (s _ _ f18) (.cons (s _ _ f19) .nil)))))))))
end
end Kl

set_option maxRecDepth 100000
set_option maxHeartbeats 4000000
namespace Kl
open PySem PySem.Spec PyProof.Rows L2 Gx Mx
section
variable {P : Program} {w : World} {K : PySem.W.Frag} {mg : Str → Option Value} {base : Heap} {c : Nat → Addr}
/-! ### the letter of an error that is held -/
def spOwnE (c : Nat → Addr) : SpE := fun ea ec ed vs H Q _ => vs = [.ref ea] ∧ ed = none ∧ ∃ i : Nat, i < 20 ∧ ec = .ref (c i) ∧ Q (.str (ownL i)) H
theorem ok_ownE {f : Addr} {fd : FuncData} (F : Fun K "_law_own" "_law_own" s_law_own f fd) (T : Top K mg) (ER : Errs K mg c) : FnE P w K mg base 1 f fd ["_law_error"] (spOwnE c) := by
  have tb := ER.tab
  have g0 : mg "LinkError" = some (.ref (c 0)) := ER.p_LinkError.gC
  have g1 : mg "InvalidKinds" = some (.ref (c 1)) := ER.p_InvalidKinds.gC
  have g2 : mg "InvalidRow" = some (.ref (c 2)) := ER.p_InvalidRow.gC
  have g3 : mg "InvalidReader" = some (.ref (c 3)) := ER.p_InvalidReader.gC
  have g4 : mg "InvalidPage" = some (.ref (c 4)) := ER.p_InvalidPage.gC
  have g5 : mg "InvalidBook" = some (.ref (c 5)) := ER.p_InvalidBook.gC
  have g6 : mg "InvalidTree" = some (.ref (c 6)) := ER.p_InvalidTree.gC
  have g7 : mg "InvalidHeap" = some (.ref (c 7)) := ER.p_InvalidHeap.gC
  have g8 : mg "InvalidPlan" = some (.ref (c 8)) := ER.p_InvalidPlan.gC
  have g9 : mg "InvalidPaper" = some (.ref (c 9)) := ER.p_InvalidPaper.gC
  have g10 : mg "InvalidOperation" = some (.ref (c 10)) := ER.p_InvalidOperation.gC
  obtain ⟨fI11, fd11, TX11, FX11⟩ := ER.x_ParseError
  have g11 : mg "ParseError" = some (.ref (c 11)) := TX11.gC
  obtain ⟨fI12, fd12, TX12, FX12⟩ := ER.x_UnknownName
  have g12 : mg "UnknownName" = some (.ref (c 12)) := TX12.gC
  obtain ⟨fI13, fd13, TX13, FX13⟩ := ER.x_AbsentKey
  have g13 : mg "AbsentKey" = some (.ref (c 13)) := TX13.gC
  obtain ⟨fI14, fd14, TX14, FX14⟩ := ER.x_EmptyHeap
  have g14 : mg "EmptyHeap" = some (.ref (c 14)) := TX14.gC
  obtain ⟨fI15, fd15, TX15, FX15⟩ := ER.x_InvalidNumber
  have g15 : mg "InvalidNumber" = some (.ref (c 15)) := TX15.gC
  obtain ⟨fI16, fd16, TX16, FX16⟩ := ER.x_NothingToUndo
  have g16 : mg "NothingToUndo" = some (.ref (c 16)) := TX16.gC
  obtain ⟨fI17, fd17, TX17, FX17⟩ := ER.x_TooMany
  have g17 : mg "TooMany" = some (.ref (c 17)) := TX17.gC
  obtain ⟨fI18, fd18, TX18, FX18⟩ := ER.x_Refused
  have g18 : mg "Refused" = some (.ref (c 18)) := TX18.gC
  obtain ⟨fI19, fd19, TX19, FX19⟩ := ER.x_Spoilt
  have g19 : mg "Spoilt" = some (.ref (c 19)) := TX19.gC
  refine okE F sc_law_own (fun ea ec ed vs H Q E h => ?_) (fun cdv A outer s H vs Q E p ec ed hz hf hr h => ?_)
  · obtain ⟨rfl, _⟩ := h
    rfl
  · obtain ⟨rfl, rfl, i, hi, rfl, q⟩ := h
    have hc := tab_cls tb hi
    refine ⟨_, pss_cons (ps_set (i := 1) sc_law_own.nd rfl (.inl rfl) (pe_op op_add_str (pe_op op_mul_text pe_str (pe_callTy call_int1 (by rfl) T.b_int (by decide +kernel) (pa_cons (pe_callB (call_isP (p := p) (List.mem_singleton.mpr rfl) hz hf) (by rfl) T.b_isinstance (by decide +kernel) (pa_cons (pv 0) (pa_cons (pe_glob (v := .ref (c 1)) (by rfl) g1 rfl) pa_nil))) pa_nil))) (pe_op op_mul_text pe_str (pe_callTy call_int1 (by rfl) T.b_int (by decide +kernel) (pa_cons (pe_callB (call_isP (p := p) (List.mem_singleton.mpr rfl) hz hf) (by rfl) T.b_isinstance (by decide +kernel) (pa_cons (pv 0) (pa_cons (pe_glob (v := .ref (c 2)) (by rfl) g2 rfl) pa_nil))) pa_nil)))))
      (pss_cons (ps_set (i := 1) sc_law_own.nd rfl (.inl rfl) (pe_op op_add_str (pe_op op_add_str (pv 1) (pe_op op_mul_text pe_str (pe_callTy call_int1 (by rfl) T.b_int (by decide +kernel) (pa_cons (pe_callB (call_isP (p := p) (List.mem_singleton.mpr rfl) hz hf) (by rfl) T.b_isinstance (by decide +kernel) (pa_cons (pv 0) (pa_cons (pe_glob (v := .ref (c 3)) (by rfl) g3 rfl) pa_nil))) pa_nil)))) (pe_op op_mul_text pe_str (pe_callTy call_int1 (by rfl) T.b_int (by decide +kernel) (pa_cons (pe_callB (call_isP (p := p) (List.mem_singleton.mpr rfl) hz hf) (by rfl) T.b_isinstance (by decide +kernel) (pa_cons (pv 0) (pa_cons (pe_glob (v := .ref (c 4)) (by rfl) g4 rfl) pa_nil))) pa_nil)))))
      (pss_cons (ps_set (i := 1) sc_law_own.nd rfl (.inl rfl) (pe_op op_add_str (pe_op op_add_str (pv 1) (pe_op op_mul_text pe_str (pe_callTy call_int1 (by rfl) T.b_int (by decide +kernel) (pa_cons (pe_callB (call_isP (p := p) (List.mem_singleton.mpr rfl) hz hf) (by rfl) T.b_isinstance (by decide +kernel) (pa_cons (pv 0) (pa_cons (pe_glob (v := .ref (c 5)) (by rfl) g5 rfl) pa_nil))) pa_nil)))) (pe_op op_mul_text pe_str (pe_callTy call_int1 (by rfl) T.b_int (by decide +kernel) (pa_cons (pe_callB (call_isP (p := p) (List.mem_singleton.mpr rfl) hz hf) (by rfl) T.b_isinstance (by decide +kernel) (pa_cons (pv 0) (pa_cons (pe_glob (v := .ref (c 6)) (by rfl) g6 rfl) pa_nil))) pa_nil)))))
      (pss_cons (ps_set (i := 1) sc_law_own.nd rfl (.inl rfl) (pe_op op_add_str (pe_op op_add_str (pv 1) (pe_op op_mul_text pe_str (pe_callTy call_int1 (by rfl) T.b_int (by decide +kernel) (pa_cons (pe_callB (call_isP (p := p) (List.mem_singleton.mpr rfl) hz hf) (by rfl) T.b_isinstance (by decide +kernel) (pa_cons (pv 0) (pa_cons (pe_glob (v := .ref (c 7)) (by rfl) g7 rfl) pa_nil))) pa_nil)))) (pe_op op_mul_text pe_str (pe_callTy call_int1 (by rfl) T.b_int (by decide +kernel) (pa_cons (pe_callB (call_isP (p := p) (List.mem_singleton.mpr rfl) hz hf) (by rfl) T.b_isinstance (by decide +kernel) (pa_cons (pv 0) (pa_cons (pe_glob (v := .ref (c 8)) (by rfl) g8 rfl) pa_nil))) pa_nil)))))
      (pss_cons (ps_set (i := 1) sc_law_own.nd rfl (.inl rfl) (pe_op op_add_str (pe_op op_add_str (pv 1) (pe_op op_mul_text pe_str (pe_callTy call_int1 (by rfl) T.b_int (by decide +kernel) (pa_cons (pe_callB (call_isP (p := p) (List.mem_singleton.mpr rfl) hz hf) (by rfl) T.b_isinstance (by decide +kernel) (pa_cons (pv 0) (pa_cons (pe_glob (v := .ref (c 9)) (by rfl) g9 rfl) pa_nil))) pa_nil)))) (pe_op op_mul_text pe_str (pe_callTy call_int1 (by rfl) T.b_int (by decide +kernel) (pa_cons (pe_callB (call_isP (p := p) (List.mem_singleton.mpr rfl) hz hf) (by rfl) T.b_isinstance (by decide +kernel) (pa_cons (pv 0) (pa_cons (pe_glob (v := .ref (c 10)) (by rfl) g10 rfl) pa_nil))) pa_nil)))))
      (pss_cons (ps_set (i := 1) sc_law_own.nd rfl (.inl rfl) (pe_op op_add_str (pe_op op_add_str (pv 1) (pe_op op_mul_text pe_str (pe_callTy call_int1 (by rfl) T.b_int (by decide +kernel) (pa_cons (pe_callB (call_isP (p := p) (List.mem_singleton.mpr rfl) hz hf) (by rfl) T.b_isinstance (by decide +kernel) (pa_cons (pv 0) (pa_cons (pe_glob (v := .ref (c 11)) (by rfl) g11 rfl) pa_nil))) pa_nil)))) (pe_op op_mul_text pe_str (pe_callTy call_int1 (by rfl) T.b_int (by decide +kernel) (pa_cons (pe_callB (call_isP (p := p) (List.mem_singleton.mpr rfl) hz hf) (by rfl) T.b_isinstance (by decide +kernel) (pa_cons (pv 0) (pa_cons (pe_glob (v := .ref (c 12)) (by rfl) g12 rfl) pa_nil))) pa_nil)))))
      (pss_cons (ps_set (i := 1) sc_law_own.nd rfl (.inl rfl) (pe_op op_add_str (pe_op op_add_str (pv 1) (pe_op op_mul_text pe_str (pe_callTy call_int1 (by rfl) T.b_int (by decide +kernel) (pa_cons (pe_callB (call_isP (p := p) (List.mem_singleton.mpr rfl) hz hf) (by rfl) T.b_isinstance (by decide +kernel) (pa_cons (pv 0) (pa_cons (pe_glob (v := .ref (c 13)) (by rfl) g13 rfl) pa_nil))) pa_nil)))) (pe_op op_mul_text pe_str (pe_callTy call_int1 (by rfl) T.b_int (by decide +kernel) (pa_cons (pe_callB (call_isP (p := p) (List.mem_singleton.mpr rfl) hz hf) (by rfl) T.b_isinstance (by decide +kernel) (pa_cons (pv 0) (pa_cons (pe_glob (v := .ref (c 14)) (by rfl) g14 rfl) pa_nil))) pa_nil)))))
      (pss_cons (ps_set (i := 1) sc_law_own.nd rfl (.inl rfl) (pe_op op_add_str (pe_op op_add_str (pv 1) (pe_op op_mul_text pe_str (pe_callTy call_int1 (by rfl) T.b_int (by decide +kernel) (pa_cons (pe_callB (call_isP (p := p) (List.mem_singleton.mpr rfl) hz hf) (by rfl) T.b_isinstance (by decide +kernel) (pa_cons (pv 0) (pa_cons (pe_glob (v := .ref (c 15)) (by rfl) g15 rfl) pa_nil))) pa_nil)))) (pe_op op_mul_text pe_str (pe_callTy call_int1 (by rfl) T.b_int (by decide +kernel) (pa_cons (pe_callB (call_isP (p := p) (List.mem_singleton.mpr rfl) hz hf) (by rfl) T.b_isinstance (by decide +kernel) (pa_cons (pv 0) (pa_cons (pe_glob (v := .ref (c 16)) (by rfl) g16 rfl) pa_nil))) pa_nil)))))
      (pss_cons (ps_set (i := 1) sc_law_own.nd rfl (.inl rfl) (pe_op op_add_str (pe_op op_add_str (pv 1) (pe_op op_mul_text pe_str (pe_callTy call_int1 (by rfl) T.b_int (by decide +kernel) (pa_cons (pe_callB (call_isP (p := p) (List.mem_singleton.mpr rfl) hz hf) (by rfl) T.b_isinstance (by decide +kernel) (pa_cons (pv 0) (pa_cons (pe_glob (v := .ref (c 17)) (by rfl) g17 rfl) pa_nil))) pa_nil)))) (pe_op op_mul_text pe_str (pe_callTy call_int1 (by rfl) T.b_int (by decide +kernel) (pa_cons (pe_callB (call_isP (p := p) (List.mem_singleton.mpr rfl) hz hf) (by rfl) T.b_isinstance (by decide +kernel) (pa_cons (pv 0) (pa_cons (pe_glob (v := .ref (c 18)) (by rfl) g18 rfl) pa_nil))) pa_nil)))))
      (pss_one (ps_ret (pe_op op_add_str (pv 1) (pe_op op_mul_text pe_str (pe_callTy call_int1 (by rfl) T.b_int (by decide +kernel) (pa_cons (pe_callB (call_isP (p := p) (List.mem_singleton.mpr rfl) hz hf) (by rfl) T.b_isinstance (by decide +kernel) (pa_cons (pv 0) (pa_cons (pe_glob (v := .ref (c 19)) (by rfl) g19 rfl) pa_nil))) pa_nil)))))))))))))), ?_⟩
    refine ⟨_, rfl, c i, _, _, _, rfl, rfl, hc, .own _, tab_own tb hi (j := 1) (by decide), .inr ⟨_, rfl, _, _, rfl, rfl, mok _ _ (by decide +kernel), _, rfl, c i, _, _, _, rfl, rfl, hc, .own _, tab_own tb hi (j := 2) (by decide), .inr ⟨_, rfl, _, _, rfl, rfl, mok _ _ (by decide +kernel), _, _, rfl, rfl, bw0 i hi, ?_⟩⟩⟩
    refine ⟨_, rfl, _, rfl, c i, _, _, _, rfl, rfl, hc, .own _, tab_own tb hi (j := 3) (by decide), .inr ⟨_, rfl, _, _, rfl, rfl, mok _ _ (by decide +kernel), _, _, rfl, rfl, bw1 i hi, _, rfl, c i, _, _, _, rfl, rfl, hc, .own _, tab_own tb hi (j := 4) (by decide), .inr ⟨_, rfl, _, _, rfl, rfl, mok _ _ (by decide +kernel), _, _, rfl, rfl, bw2 i hi, ?_⟩⟩⟩
    refine ⟨_, rfl, _, rfl, c i, _, _, _, rfl, rfl, hc, .own _, tab_own tb hi (j := 5) (by decide), .inr ⟨_, rfl, _, _, rfl, rfl, mok _ _ (by decide +kernel), _, _, rfl, rfl, bw3 i hi, _, rfl, c i, _, _, _, rfl, rfl, hc, .own _, tab_own tb hi (j := 6) (by decide), .inr ⟨_, rfl, _, _, rfl, rfl, mok _ _ (by decide +kernel), _, _, rfl, rfl, bw4 i hi, ?_⟩⟩⟩
    refine ⟨_, rfl, _, rfl, c i, _, _, _, rfl, rfl, hc, .own _, tab_own tb hi (j := 7) (by decide), .inr ⟨_, rfl, _, _, rfl, rfl, mok _ _ (by decide +kernel), _, _, rfl, rfl, bw5 i hi, _, rfl, c i, _, _, _, rfl, rfl, hc, .own _, tab_own tb hi (j := 8) (by decide), .inr ⟨_, rfl, _, _, rfl, rfl, mok _ _ (by decide +kernel), _, _, rfl, rfl, bw6 i hi, ?_⟩⟩⟩
    refine ⟨_, rfl, _, rfl, c i, _, _, _, rfl, rfl, hc, .own _, tab_own tb hi (j := 9) (by decide), .inr ⟨_, rfl, _, _, rfl, rfl, mok _ _ (by decide +kernel), _, _, rfl, rfl, bw7 i hi, _, rfl, c i, _, _, _, rfl, rfl, hc, .own _, tab_own tb hi (j := 10) (by decide), .inr ⟨_, rfl, _, _, rfl, rfl, mok _ _ (by decide +kernel), _, _, rfl, rfl, bw8 i hi, ?_⟩⟩⟩
    refine ⟨_, rfl, _, rfl, c i, _, _, _, rfl, rfl, hc, .own _, tab_own tb hi (j := 11) (by decide), .inr ⟨_, rfl, _, _, rfl, rfl, mok _ _ (by decide +kernel), _, _, rfl, rfl, bw9 i hi, _, rfl, c i, _, _, _, rfl, rfl, hc, .own _, tab_own tb hi (j := 12) (by decide), .inr ⟨_, rfl, _, _, rfl, rfl, mok _ _ (by decide +kernel), _, _, rfl, rfl, bw10 i hi, ?_⟩⟩⟩
    refine ⟨_, rfl, _, rfl, c i, _, _, _, rfl, rfl, hc, .own _, tab_own tb hi (j := 13) (by decide), .inr ⟨_, rfl, _, _, rfl, rfl, mok _ _ (by decide +kernel), _, _, rfl, rfl, bw11 i hi, _, rfl, c i, _, _, _, rfl, rfl, hc, .own _, tab_own tb hi (j := 14) (by decide), .inr ⟨_, rfl, _, _, rfl, rfl, mok _ _ (by decide +kernel), _, _, rfl, rfl, bw12 i hi, ?_⟩⟩⟩
    refine ⟨_, rfl, _, rfl, c i, _, _, _, rfl, rfl, hc, .own _, tab_own tb hi (j := 15) (by decide), .inr ⟨_, rfl, _, _, rfl, rfl, mok _ _ (by decide +kernel), _, _, rfl, rfl, bw13 i hi, _, rfl, c i, _, _, _, rfl, rfl, hc, .own _, tab_own tb hi (j := 16) (by decide), .inr ⟨_, rfl, _, _, rfl, rfl, mok _ _ (by decide +kernel), _, _, rfl, rfl, bw14 i hi, ?_⟩⟩⟩
    refine ⟨_, rfl, _, rfl, c i, _, _, _, rfl, rfl, hc, .own _, tab_own tb hi (j := 17) (by decide), .inr ⟨_, rfl, _, _, rfl, rfl, mok _ _ (by decide +kernel), _, _, rfl, rfl, bw15 i hi, _, rfl, c i, _, _, _, rfl, rfl, hc, .own _, tab_own tb hi (j := 18) (by decide), .inr ⟨_, rfl, _, _, rfl, rfl, mok _ _ (by decide +kernel), _, _, rfl, rfl, bw16 i hi, ?_⟩⟩⟩
    refine ⟨_, rfl, _, rfl, c i, _, _, _, rfl, rfl, hc, .own _, tab_own tb hi (j := 19) (by decide), .inr ⟨_, rfl, _, _, rfl, rfl, mok _ _ (by decide +kernel), _, _, rfl, rfl, bw17 i hi, ?_⟩⟩
    have e1 := ow_eq i hi
    rw [← e1] at q
    exact q
end
end Kl

set_option maxRecDepth 100000
set_option maxHeartbeats 4000000
namespace Gx
open PySem PySem.Spec PySem.W PySem.Calls PyProof.Rows L2
section
variable {X : Cx} {C : Addr} {cn : Str} {B mk ini : String} {bmB : List Value}
/-- raise cn(a), an own error without an __init__ of its own -/
def tMkR (C : Addr) (ta : TA) : L2.St → Hp → XK → Prop := fun σ H Q => ta σ H fun vs H1 => vs.length ≤ 1000 ∧ Q (.ref C) none H1
theorem pmk_P {a : Expr} {ta : TA} {p pos : Pos} (F : ExcBaseFacts B mk ini bmB) (T : XPln X.K X.mg cn mk ini bmB C) (XC : XCls X.K C) (ha : PA X [a] ta) (hg : Gl X cn)
    (hdb : (cn == ("__debug__" : Str)) = false := by decide) (hst : starEach (a :: []) X.env = (false, eval a X.env) :: starEach [] X.env := by rfl) (hpl : (backTo pos (starEach [] X.env)).any (·.1) = false := by rfl) :
    PMk X (.Call (.Name cn p) [a] [] pos) (tMkR C ta) := by
  intro pins s σ H Q I h
  refine wpAny_Call_Name_kw (ld_glob I hg T.gC ?_ hdb)
  refine PySem.W.callWith_K (h₀ := X.base) I.ok.mod.kin T.kC (thn (ha.run pos pins s σ H _ I h) ?_) hst hpl
  rintro us s1 ⟨vs, H1, I1, r1, hz, q1⟩
  refine ⟨I1.kIn, ?_⟩
  obtain ⟨nm, q, N, bs, bm, hd, sn, sub, ab, col, dd, k0, k1, k2, k3, k5, hC, tail⟩ := T.cls
  have hl : us.length ≤ sizeLine := by
    rw [← r1.length]
    exact Nat.le_trans hz (by decide)
  have tyC : typeIn X.K (.ref C) = some (.type "type") := by
    show (X.K.lookup C).map (·.cls) = _
    rw [hC]
    rfl
  obtain ⟨hp, g, dr, tk, os⟩ := s1
  refine PySem.W.call_B F (fun Y => excTail_contains Y bm tail) (I1.kIn _ _ hC) (looks_findIn I1.kIn T.iC) hl fun h' k he ht => ?_
  obtain ⟨G', g1, g2⟩ := restrict h' fun b => decide (b ≠ hp.objs.size + 1)
  have off : ∀ b, b ≠ hp.objs.size + 1 → G'.get? b = h'.get? b := fun b hb => g1 b (decide_eq_true hb)
  have gone : G'.get? (hp.objs.size + 1) = none := g2 _ (by simp)
  have old : ∀ b o, hp.get? b = some o → G'.get? b = some o := fun b o q => (off b (Nat.ne_of_lt (Nat.lt_succ_of_lt (Heap.lt_size q)))).trans (k b o q)
  have J : Inv X pins σ H1 ⟨G', g, dr, tk, os⟩ := I1.kept (t' := tk) old
  refine ⟨hp.objs.size + 1, _, _, ⟨G', g, dr, tk, os⟩, H1, .ref C, none, rfl, J, ?_, gone, he, ⟨rfl, rfl⟩, rfl, rfl, I1.hok.fresh (Nat.le_succ _), rfl, I1.bare, raises_own XC.ex tyC, q1⟩
  intro b o q
  have q' : G'.get? b = some o := q
  by_cases hb : b = hp.objs.size + 1
  · rw [hb, gone] at q'
    cases q'
  · exact (off b hb).symm.trans q
theorem call_reprXK {K : PySem.W.Frag} (hk : X.K = K) (g : Gd X.A) (hu : X.A.units + 64 < cLine) : CallR X (.builtin "repr") (rReprX K) := by
  subst hk
  exact call_reprX g hu
end
end Gx
namespace Kl
open PySem PySem.Spec PyProof.Rows L2 Gx Mx
section
variable {P : Program} {w : World} {K : PySem.W.Frag} {mg : Str → Option Value} {base : Heap} {c : Nat → Addr}
/-! ### errors raised and caught -/
/-- a value that repr shows in any state to come -/
structure ShV (K : PySem.W.Frag) (H : Hp) (v : V) (d : PyData) : Prop where
  shw : ∀ H', Same H H' → Shw K H' v d
  showable : d.showable = true
  depth : d.depth ≤ 50
  size : d.shown.length ≤ 1000
theorem shV_same {H H' : Hp} (s : Same H H') {v : V} {d : PyData} (h : ShV K H v d) : ShV K H' v d := ⟨fun H2 s2 => h.shw H2 (s.trans s2), h.showable, h.depth, h.size⟩
theorem tab_ne {c : Nat → Addr} (t : tabB K ((List.range 20).map c) = true) {i j : Nat} (hi : i < 20) (hj : j < 20) (h : subC i j = false) : c i ≠ c j := fun e => by
  have h1 := tab_own t hi hj
  have h2 := tab_own t hj hj
  rw [e, h2, h] at h1
  have : subC j j = true := by simp [subC]
  rw [this] at h1
  cases h1
theorem tab_exm {c : Nat → Addr} (t : tabB K ((List.range 20).map c) = true) {i j : Nat} (hi : i < 20) (hj : j < 20) (n : c i ≠ c j) : PySem.W.exmOne K (.ref (c i)) (.ref (c j)) = some (subC i j) := by
  have h1 := tab_own t hi hj
  have hx := (tab_cls t hj).ex
  have ne : (Value.ref (c i) == Value.ref (c j)) = false := by simpa using n
  unfold PySem.W.kitOne at h1
  rw [if_neg (by rw [ne]; decide)] at h1
  unfold PySem.W.exmOne
  rw [if_pos (by rw [hx]; rfl)]
  exact h1
def spCaught (K : PySem.W.Frag) : Sp := fun vs H Q _ => ∃ (v : V) (d : PyData) (i : Nat), vs = [v, .int i] ∧ ShV K H v d ∧
  ∀ H', Same H H' → Q (.str (if i = 0 then "base l" else if i = 1 then ("row " : Str) ++ d.shown else ("empty " : Str) ++ d.shown)) H'
theorem ok_caught {f : Addr} {fd : FuncData} (F : Fun K "_law_caught" "_law_caught" s_law_caught f fd) (T : Top K mg) (ER : Errs K mg c) : FnG P w K mg base CX0 4 f fd ["_law_value", "_law_way"] (spCaught K) := by
  have tb := ER.tab
  have g0 : mg "LinkError" = some (.ref (c 0)) := ER.p_LinkError.gC
  have coe : CalE P w K mg base 1 "_law_own" ["_law_error"] (spOwnE c) := T.d_law_own.calE fun f fd F => ok_ownE F T ER
  obtain ⟨fI14, fd14, TX14, FX14⟩ := ER.x_EmptyHeap
  obtain ⟨fI19, fd19, TX19, FX19⟩ := ER.x_Spoilt
  refine okG F sc_law_caught (fun vs H Q E h => ?_) (fun cdv A outer s H vs Q E hg hr h => ?_)
  · obtain ⟨v, d, i, rfl, _⟩ := h
    rfl
  · obtain ⟨v, d, i, rfl, hv, q⟩ := h
    refine ⟨_, pss_one (ps_try_ma (i := 2) (n := "e") rfl rfl sc_law_caught.nd rfl rfl takes_none5
      (fun W pn xe tk hp => pss_cons (ps_if (pt_cmpR op_eq (pv 1) pe_int (nomark _)) (pss_one (ps_raise rfl tk (pmk_P PySem.F.excBase_ValueError ER.p_InvalidPlan (tab_cls tb (i := 8) (by decide)) (pa_cons pe_str pa_nil) (by rfl)))) pss_nil)
        (pss_cons (ps_if (pt_cmpR op_eq (pv 1) pe_int (nomark _)) (pss_one (ps_raiseX rfl PySem.F.excBase_ArithmeticError TX19 (init_Spoilt TX19 FX19) hr tk (pa_cons (pv 0) pa_nil) (by rfl))) pss_nil)
        (pss_one (ps_raiseX rfl PySem.F.excBase_LookupError TX14 (init_EmptyHeap TX14 FX14) hr tk (pa_cons (pv 0) pa_nil) (by rfl)))))
      (HdsA.cons ⟨by rfl, by decide, .inl g0⟩ (fun ea eo ec ed pn hz hf => pss_one (ps_ret (pe_op op_add_str pe_str (pe_calE coe (hr.mono (by decide)) hz hf (by rfl) (pa_cons (pv 2) pa_nil)))))
      (HdsA.cons ⟨by rfl, by decide, .inl TX19.gC⟩ (fun ea eo ec ed pn hz hf => pss_one (ps_ret (pe_op op_add_str pe_str (pe_callB (call_reprXK (K := K) (by exact rfl) (by exact hg) (by exact hr.units)) (by rfl) T.b_repr (by decide +kernel) (pa_cons (pe_byX TX19 hz hf (pv 2)) pa_nil)))))
      (HdsA.cons ⟨by rfl, by decide, .inl TX14.gC⟩ (fun ea eo ec ed pn hz hf => pss_one (ps_ret (pe_op op_add_str pe_str (pe_callB (call_reprXK (K := K) (by exact rfl) (by exact hg) (by exact hr.units)) (by rfl) T.b_repr (by decide +kernel) (pa_cons (pe_byX TX14 hz hf (pv 2)) pa_nil)))))
      .nil)))), ?_⟩
    have e8 : ("base " : Str) ++ ownL 8 = "base l" := by decide +kernel
    refine ⟨_, rfl, rfl, _, rfl, ite2 (fun e => ?_) (fun e => ?_)⟩
    · rw [decI] at e
      have i0 : i = 0 := by
        have := of_decide_eq_true e
        omega
      subst i0
      refine ⟨by show 1 ≤ 1000; decide, true, tab_exm tb (i := 8) (j := 0) (by decide) (by decide) (tab_ne tb (i := 0) (j := 8) (by decide) (by decide) rfl).symm, fun _ ea na => ?_, (fun h => nomatch h)⟩
      refine ⟨_, rfl, rfl, rfl, 8, by decide, rfl, _, _, rfl, rfl, by decide +kernel, ?_⟩
      have q0 := q H (Same.refl H)
      rw [if_pos rfl, ← e8] at q0
      exact q0
    · rw [decI] at e
      have i0 : i ≠ 0 := fun h => e (decide_eq_true (by omega))
      rw [if_neg i0] at q
      refine ⟨_, rfl, rfl, _, rfl, ite2 (fun e1 => ?_) (fun e1 => ?_)⟩
      · rw [decI] at e1
        have i1 : i = 1 := by
          have := of_decide_eq_true e1
          omega
        rw [if_pos i1] at q
        refine ⟨_, rfl, v, rfl, fun dd nd => ?_⟩
        have sm := same_at nd (Same.refl H) (o := .xd [("row", v)])
        refine ⟨false, tab_exm tb (i := 19) (j := 0) (by decide) (by decide) (tab_ne tb (i := 19) (j := 0) (by decide) (by decide) rfl), (fun h => nomatch h), fun _ => ⟨true, TX19.te, fun _ ea na => ?_, (fun h => nomatch h)⟩⟩
        refine ⟨_, rfl, rfl, rfl, dd, v, rfl, upd_same, v, d, rfl, hv.shw _ sm, hv.showable, Nat.le_trans hv.depth (by decide), Nat.le_trans hv.size (by decide), _, _, rfl, rfl, ?_, q _ sm⟩
        exact Nat.le_trans (Nat.add_le_add (show ("row " : Str).length ≤ 10 by decide +kernel) hv.size) (by decide)
      · rw [decI] at e1
        have i1 : i ≠ 1 := fun h => e1 (decide_eq_true (by omega))
        rw [if_neg i1] at q
        refine ⟨_, rfl, v, rfl, fun dd nd => ?_⟩
        have sm := same_at nd (Same.refl H) (o := .xd [("deed", v)])
        refine ⟨false, tab_exm tb (i := 14) (j := 0) (by decide) (by decide) (tab_ne tb (i := 14) (j := 0) (by decide) (by decide) rfl), (fun h => nomatch h), fun _ => ⟨false, tab_exm tb (i := 14) (j := 19) (by decide) (by decide) (tab_ne tb (i := 14) (j := 19) (by decide) (by decide) rfl), (fun h => nomatch h), fun _ => ⟨true, TX14.te, fun _ ea na => ?_, (fun h => nomatch h)⟩⟩⟩
        refine ⟨_, rfl, rfl, rfl, dd, v, rfl, upd_same, v, d, rfl, hv.shw _ sm, hv.showable, Nat.le_trans hv.depth (by decide), Nat.le_trans hv.size (by decide), _, _, rfl, rfl, ?_, q _ sm⟩
        exact Nat.le_trans (Nat.add_le_add (show ("empty " : Str).length ≤ 10 by decide +kernel) hv.size) (by decide)
end
end Kl

set_option maxRecDepth 100000
set_option maxHeartbeats 4000000
namespace Kl
open PySem PySem.Spec PyProof.Rows L2 Gx Mx
section
variable {P : Program} {w : World} {K : PySem.W.Frag} {mg : Str → Option Value} {base : Heap} {c : Nat → Addr}
/-! ### one value and one index -/
def dueL (v ix : V) : List (Str × V) := [("x link value ", ix), ("U key lookup ", v), ("A key lookup ", v), ("E lookup ", v), ("N index lookup ", v), ("Z runtime ", v), ("M overflow arithmetic ", v), ("R arithmetic ", v), ("S arithmetic ", v)]
theorem kept_due (v ix : V) : keptL v ix = dueL v ix := by
  unfold keptL dueL
  rw [show allL 11 = ("x link value " : Str) from by decide +kernel]
  rw [show allL 12 = ("U key lookup " : Str) from by decide +kernel]
  rw [show allL 13 = ("A key lookup " : Str) from by decide +kernel]
  rw [show allL 14 = ("E lookup " : Str) from by decide +kernel]
  rw [show allL 15 = ("N index lookup " : Str) from by decide +kernel]
  rw [show allL 16 = ("Z runtime " : Str) from by decide +kernel]
  rw [show allL 17 = ("M overflow arithmetic " : Str) from by decide +kernel]
  rw [show allL 18 = ("R arithmetic " : Str) from by decide +kernel]
  rw [show allL 19 = ("S arithmetic " : Str) from by decide +kernel]
theorem paired_imp2 {α β : Type} {F G : α → β → Prop} (h : ∀ a b, F a b → G a b) : ∀ {l : List α} {m : List β}, Paired F l m → Paired G l m
  | _, _, .nil => .nil
  | _, _, .cons a r => .cons (h _ _ a) (paired_imp2 h r)
def outT (d : PyData) (i : Nat) : Str := if i = 0 then "base l" else if i = 1 then ("row " : Str) ++ d.shown else ("empty " : Str) ++ d.shown
def datL (d dx : PyData) : List PyData := [dx, d, d, d, d, d, d, d, d]
/-- a value of the law with its data; an index likewise -/
structure ValI (K : PySem.W.Frag) (H : Hp) (v ix : V) (d dx : PyData) : Prop where
  sh : ShV K H v d
  list : ∀ H', Same H H' → ((Paired (fun (p : Str × V) e => Dp K H' p.2 e) (dueL v ix) (datL d dx) ∧ (PyData.list (zipT (dueL v ix) (datL d dx))).hasDict = false) ∨ Paired (fun (p : Str × V) e => Shs K H' p.2 e) (dueL v ix) (datL d dx))
  okL : (PyData.list (zipT (dueL v ix) (datL d dx))).showable = true
  depL : (PyData.list (zipT (dueL v ix) (datL d dx))).depth ≤ 60
  sizL : (PyData.list (zipT (dueL v ix) (datL d dx))).shown.length ≤ sizeLine
def spRightV (K : PySem.W.Frag) : Sp := fun vs H Q _ => ∃ (v ix : V) (d dx : PyData), vs = [v, ix] ∧ ValI K H v ix d dx ∧ ∀ H', Same H H' → Q (.bl true) H'
theorem msgs_by : (("krdpbthlqo" : Str).cps.toList.map fun a => V.str ((⟨#[a]⟩ : Str) ++ " link value ")) ++ [V.str " link value "] = msgs.map V.str := by
  have e : (("krdpbthlqo" : Str).cps.toList.map fun a => ((⟨#[a]⟩ : Str) ++ " link value ")) ++ [(" link value " : Str)] = msgs := by decide +kernel
  rw [← e, List.map_append, List.map_map]
  rfl
theorem msgs_ok : ∀ z ∈ msgs, PyData.strOk z = true := by decide +kernel
theorem ok_rightV {f : Addr} {fd : FuncData} (F : Fun K "_law_right" "_law_right" s_law_right f fd) (T : Top K mg) (ER : Errs K mg c) : FnG P w K mg base CX0 5 f fd ["_law_value", "_law_index"] (spRightV K) := by
  have cm : Cal P w K mg base 4 "_law_messages" [] spMess := (T.d_law_messages.cal fun f fd F => ok_mess F T ER).mono (by decide)
  have ck : Cal P w K mg base 4 "_law_kept" ["_law_value", "_law_index"] spKept := (T.d_law_kept.cal fun f fd F => ok_kept F T ER).mono (by decide)
  have cc : CalG P w K mg base 4 "_law_caught" ["_law_value", "_law_way"] (spCaught K) := T.d_law_caught.calG fun f fd F => ok_caught F T ER
  refine okG F sc_law_right (fun vs H Q E h => ?_) (fun cdv A outer s H vs Q E hg hr h => ?_)
  · obtain ⟨v, ix, d, dx, rfl, _⟩ := h
    rfl
  · obtain ⟨v, ix, d, dx, rfl, hv, q⟩ := h
    refine ⟨_, pss_cons (ps_if (pt_cmpR (op_neD hr.units) (pe_cal0 cm hr (by rfl)) (pe_op op_cat (pe_lc (own := [("_law_letter", 3)]) (g := gName 3) (tt := tYes) rfl sc_law_right.nd (pi_str pe_str) (blkOk_by (N := ["_law_value", "_law_index", "_law_due", "_law_letter", "_law_way"]) (sc := defScope s_law_right) (by decide +kernel)) (fun _ _ _ _ _ => pg_name (i := 3) sc_law_right.nd rfl (.inl rfl)) (fun _ _ _ _ _ => pts_nil) (fun _ _ _ _ _ => pe_op op_add_str (pv 3) pe_str)) (pe_lst (pa_cons pe_str pa_nil))) (nomark _)) (pss_one (ps_ret pe_bl)) pss_nil)
      (pss_cons (ps_set (i := 2) sc_law_right.nd rfl (.inl rfl) (pe_lst (pa_cons (pe_tup (pa_cons (pe_str) (pa_cons (pv 1) pa_nil))) (pa_cons (pe_tup (pa_cons (pe_str) (pa_cons (pv 0) pa_nil))) (pa_cons (pe_tup (pa_cons (pe_str) (pa_cons (pv 0) pa_nil))) (pa_cons (pe_tup (pa_cons (pe_str) (pa_cons (pv 0) pa_nil))) pa_nil))))))
      (pss_cons (ps_set (i := 2) sc_law_right.nd rfl (.inl rfl) (pe_op op_cat (pv 2) (pe_lst (pa_cons (pe_tup (pa_cons (pe_str) (pa_cons (pv 0) pa_nil))) (pa_cons (pe_tup (pa_cons (pe_str) (pa_cons (pv 0) pa_nil))) (pa_cons (pe_tup (pa_cons (pe_str) (pa_cons (pv 0) pa_nil))) pa_nil))))))
      (pss_cons (ps_set (i := 2) sc_law_right.nd rfl (.inl rfl) (pe_op op_catN (pv 2) (pe_lst (pa_cons (pe_tup (pa_cons (pe_str) (pa_cons (pv 0) pa_nil))) (pa_cons (pe_tup (pa_cons (pe_str) (pa_cons (pv 0) pa_nil))) pa_nil)))))
      (pss_cons (ps_if (pt_cmpR op_ne (pe_callB (call_reprL hg hr.units) (by rfl) T.b_repr (by decide +kernel) (pa_cons (pe_cal ck hr (by rfl) (pa_cons (pv 0) (pa_cons (pv 1) pa_nil))) pa_nil)) (pe_callB (call_reprL hg hr.units) (by rfl) T.b_repr (by decide +kernel) (pa_cons (pv 2) pa_nil)) (nomark _)) (pss_one (ps_ret pe_bl)) pss_nil)
      (pss_one (ps_ret (pe_cmpR (op_eqV hr.units) (pe_lc (own := [("_law_way", 4)]) (g := gName 4) (tt := tYes) rfl sc_law_right.nd (pi_range1 (by rfl) T.b_range (pa_cons pe_int pa_nil)) (blkOk_by (N := ["_law_value", "_law_index", "_law_due", "_law_letter", "_law_way"]) (sc := defScope s_law_right) (by decide +kernel)) (fun _ _ _ _ _ => pg_name (i := 4) sc_law_right.nd rfl (.inl rfl)) (fun _ _ _ _ _ => pts_nil) (fun _ _ _ _ _ => pe_calG cc hg hr (by rfl) (pa_cons (pv 0) (pa_cons (pv 4) pa_nil)))) (pe_lst (pa_cons pe_str (pa_cons (pe_op op_add_str pe_str (pe_callB (call_reprX hg hr.units) (by rfl) T.b_repr (by decide +kernel) (pa_cons (pv 0) pa_nil))) (pa_cons (pe_op op_add_str pe_str (pe_callB (call_reprX hg hr.units) (by rfl) T.b_repr (by decide +kernel) (pa_cons (pv 0) pa_nil))) pa_nil)))) (nomark _)))))))), ?_⟩
    -- the messages
    refine ⟨rfl, fun pm H1 s1 em => ?_⟩
    refine ⟨_, rfl, fun D hD => ?_⟩
    refine lc_it (walk_str (z := ("krdpbthlqo" : Str))) (fun j H2 => H2 D = some (.lst ((("krdpbthlqo" : Str).cps.toList.take j).map fun a => V.str ((⟨#[a]⟩ : Str) ++ " link value "))) ∧ Same H1 H2) ⟨upd_same, same_at hD (Same.refl H1)⟩ (fun _ _ _ _ => trivial) (fun j x H2 H3 hj hP hY => ?_) (fun H2 hP => ?_)
    · obtain ⟨eD, s2⟩ := hP
      obtain ⟨rfl, a, ha, rfl⟩ := hY
      have ha' : ("krdpbthlqo" : Str).cps.toList[j]? = some a := by rw [Array.getElem?_toList]; exact ha
      refine ⟨rfl, _, rfl, _, _, rfl, rfl, by show 1 + (" link value " : Str).length ≤ sizeLine; decide +kernel, _, eD, ?_, ?_, same_at hD s2⟩
      · rw [List.length_map, List.length_take]
        exact small_line (Nat.le_trans (Nat.min_le_right _ _) (by decide +kernel))
      · rw [upd_same, take_snoc ha', List.map_append]
        rfl
    obtain ⟨eD, s2⟩ := hP
    have eD : H2 D = some (.lst (("krdpbthlqo" : Str).cps.toList.map fun a => V.str ((⟨#[a]⟩ : Str) ++ " link value "))) := by
      rw [eD]
      have : ("krdpbthlqo" : Str).cps.toList.take ("krdpbthlqo" : Str).cps.size = ("krdpbthlqo" : Str).cps.toList := by decide +kernel
      rw [this]
    refine ⟨by show 1 ≤ sizeLine; decide, fun pl npl => ?_⟩
    have s3 := same_at npl (Same.refl H2) (o := .lst [V.str " link value "])
    have el : upd H2 pl (.lst [V.str " link value "]) pl = some (.lst [V.str " link value "]) := upd_same
    generalize upd H2 pl (.lst [V.str " link value "]) = H3 at s3 el ⊢
    refine ⟨D, pl, _, _, rfl, rfl, s3 _ _ eD, el, by decide +kernel, fun p np => ?_⟩
    rw [msgs_by]
    have s4 := same_at np (Same.refl H3) (o := .lst (msgs.map V.str))
    have ep : upd H3 p (.lst (msgs.map V.str)) p = some (.lst (msgs.map V.str)) := upd_same
    generalize upd H3 p (.lst (msgs.map V.str)) = H5 at s4 ep ⊢
    have em5 := s4 _ _ (s3 _ _ (s2 _ _ em))
    refine ⟨.list (tD msgs), .list (tD msgs), .lst (.inl (.inl em5)) (dp_texts _), .lst (.inl (.inl ep)) (dp_texts _), shaped_texts msgs_ok, shaped_texts msgs_ok, ?_⟩
    rw [PyData.eqv, eqv_texts, decide_eq_true rfl]
    refine ⟨false, rfl, ?_⟩
    have t5 : Same H H5 := s1.trans (s2.trans (s3.trans s4))
    clear s1 s2 s3 s4 em em5 ep el eD hD npl np
    refine ⟨_, rfl, by show 2 ≤ sizeLine; decide, fun ta11 nta11 => ?_⟩
    have f11 : (upd H5 ta11 (.tup [.str "x link value ", ix])) ta11 = some (.tup [.str "x link value ", ix]) := by exact upd_same
    have s6 := same_at nta11 (Same.refl H5) (o := .tup [.str "x link value ", ix])
    generalize upd H5 ta11 (.tup [.str "x link value ", ix]) = H6 at f11 s6 ⊢
    have t6 := t5.trans s6
    refine ⟨_, rfl, by show 2 ≤ sizeLine; decide, fun ta12 nta12 => ?_⟩
    have f12 : (upd H6 ta12 (.tup [.str "U key lookup ", v])) ta12 = some (.tup [.str "U key lookup ", v]) := by exact upd_same
    have s7 := same_at nta12 (Same.refl H6) (o := .tup [.str "U key lookup ", v])
    generalize upd H6 ta12 (.tup [.str "U key lookup ", v]) = H7 at f12 s7 ⊢
    have f11 := s7 _ _ f11
    have t7 := t6.trans s7
    refine ⟨_, rfl, by show 2 ≤ sizeLine; decide, fun ta13 nta13 => ?_⟩
    have f13 : (upd H7 ta13 (.tup [.str "A key lookup ", v])) ta13 = some (.tup [.str "A key lookup ", v]) := by exact upd_same
    have s8 := same_at nta13 (Same.refl H7) (o := .tup [.str "A key lookup ", v])
    generalize upd H7 ta13 (.tup [.str "A key lookup ", v]) = H8 at f13 s8 ⊢
    have f11 := s8 _ _ f11
    have f12 := s8 _ _ f12
    have t8 := t7.trans s8
    refine ⟨_, rfl, by show 2 ≤ sizeLine; decide, fun ta14 nta14 => ?_⟩
    have f14 : (upd H8 ta14 (.tup [.str "E lookup ", v])) ta14 = some (.tup [.str "E lookup ", v]) := by exact upd_same
    have s9 := same_at nta14 (Same.refl H8) (o := .tup [.str "E lookup ", v])
    generalize upd H8 ta14 (.tup [.str "E lookup ", v]) = H9 at f14 s9 ⊢
    have f11 := s9 _ _ f11
    have f12 := s9 _ _ f12
    have f13 := s9 _ _ f13
    have t9 := t8.trans s9
    refine ⟨by show 4 ≤ sizeLine; decide, fun pl0 npl0 => ?_⟩
    have gl0 : upd H9 pl0 (.lst [V.ref ta11, V.ref ta12, V.ref ta13, V.ref ta14]) pl0 = some (.lst [V.ref ta11, V.ref ta12, V.ref ta13, V.ref ta14]) := upd_same
    have s10 := same_at npl0 (Same.refl H9) (o := .lst [V.ref ta11, V.ref ta12, V.ref ta13, V.ref ta14])
    generalize upd H9 pl0 (.lst [V.ref ta11, V.ref ta12, V.ref ta13, V.ref ta14]) = H10 at gl0 s10 ⊢
    have f11 := s10 _ _ f11
    have f12 := s10 _ _ f12
    have f13 := s10 _ _ f13
    have f14 := s10 _ _ f14
    have t10 := t9.trans s10
    refine ⟨_, rfl, ?_⟩
    refine ⟨_, rfl, by show 2 ≤ sizeLine; decide, fun ta15 nta15 => ?_⟩
    have f15 : (upd H10 ta15 (.tup [.str "N index lookup ", v])) ta15 = some (.tup [.str "N index lookup ", v]) := by exact upd_same
    have s11 := same_at nta15 (Same.refl H10) (o := .tup [.str "N index lookup ", v])
    generalize upd H10 ta15 (.tup [.str "N index lookup ", v]) = H11 at f15 s11 ⊢
    have f11 := s11 _ _ f11
    have f12 := s11 _ _ f12
    have f13 := s11 _ _ f13
    have f14 := s11 _ _ f14
    have gl0 := s11 _ _ gl0
    have t11 := t10.trans s11
    refine ⟨_, rfl, by show 2 ≤ sizeLine; decide, fun ta16 nta16 => ?_⟩
    have f16 : (upd H11 ta16 (.tup [.str "Z runtime ", v])) ta16 = some (.tup [.str "Z runtime ", v]) := by exact upd_same
    have s12 := same_at nta16 (Same.refl H11) (o := .tup [.str "Z runtime ", v])
    generalize upd H11 ta16 (.tup [.str "Z runtime ", v]) = H12 at f16 s12 ⊢
    have f11 := s12 _ _ f11
    have f12 := s12 _ _ f12
    have f13 := s12 _ _ f13
    have f14 := s12 _ _ f14
    have gl0 := s12 _ _ gl0
    have f15 := s12 _ _ f15
    have t12 := t11.trans s12
    refine ⟨_, rfl, by show 2 ≤ sizeLine; decide, fun ta17 nta17 => ?_⟩
    have f17 : (upd H12 ta17 (.tup [.str "M overflow arithmetic ", v])) ta17 = some (.tup [.str "M overflow arithmetic ", v]) := by exact upd_same
    have s13 := same_at nta17 (Same.refl H12) (o := .tup [.str "M overflow arithmetic ", v])
    generalize upd H12 ta17 (.tup [.str "M overflow arithmetic ", v]) = H13 at f17 s13 ⊢
    have f11 := s13 _ _ f11
    have f12 := s13 _ _ f12
    have f13 := s13 _ _ f13
    have f14 := s13 _ _ f14
    have gl0 := s13 _ _ gl0
    have f15 := s13 _ _ f15
    have f16 := s13 _ _ f16
    have t13 := t12.trans s13
    refine ⟨by show 3 ≤ sizeLine; decide, fun pl1 npl1 => ?_⟩
    have gl1 : upd H13 pl1 (.lst [V.ref ta15, V.ref ta16, V.ref ta17]) pl1 = some (.lst [V.ref ta15, V.ref ta16, V.ref ta17]) := upd_same
    have s14 := same_at npl1 (Same.refl H13) (o := .lst [V.ref ta15, V.ref ta16, V.ref ta17])
    generalize upd H13 pl1 (.lst [V.ref ta15, V.ref ta16, V.ref ta17]) = H14 at gl1 s14 ⊢
    have f11 := s14 _ _ f11
    have f12 := s14 _ _ f12
    have f13 := s14 _ _ f13
    have f14 := s14 _ _ f14
    have gl0 := s14 _ _ gl0
    have f15 := s14 _ _ f15
    have f16 := s14 _ _ f16
    have f17 := s14 _ _ f17
    have t14 := t13.trans s14
    refine ⟨pl0, pl1, _, _, rfl, rfl, gl0, gl1, by show 7 ≤ sizeLine; decide, fun pc1 npc1 => ?_⟩
    have gc1 : upd H14 pc1 (.lst ([V.ref ta11, V.ref ta12, V.ref ta13, V.ref ta14] ++ [V.ref ta15, V.ref ta16, V.ref ta17])) pc1 = some (.lst ([V.ref ta11, V.ref ta12, V.ref ta13, V.ref ta14] ++ [V.ref ta15, V.ref ta16, V.ref ta17])) := upd_same
    have s15 := same_at npc1 (Same.refl H14) (o := .lst ([V.ref ta11, V.ref ta12, V.ref ta13, V.ref ta14] ++ [V.ref ta15, V.ref ta16, V.ref ta17]))
    generalize upd H14 pc1 (.lst ([V.ref ta11, V.ref ta12, V.ref ta13, V.ref ta14] ++ [V.ref ta15, V.ref ta16, V.ref ta17])) = H15 at gc1 s15 ⊢
    have f11 := s15 _ _ f11
    have f12 := s15 _ _ f12
    have f13 := s15 _ _ f13
    have f14 := s15 _ _ f14
    have gl0 := s15 _ _ gl0
    have f15 := s15 _ _ f15
    have f16 := s15 _ _ f16
    have f17 := s15 _ _ f17
    have gl1 := s15 _ _ gl1
    have t15 := t14.trans s15
    refine ⟨_, rfl, ?_⟩
    refine ⟨_, rfl, by show 2 ≤ sizeLine; decide, fun ta18 nta18 => ?_⟩
    have f18 : (upd H15 ta18 (.tup [.str "R arithmetic ", v])) ta18 = some (.tup [.str "R arithmetic ", v]) := by exact upd_same
    have s16 := same_at nta18 (Same.refl H15) (o := .tup [.str "R arithmetic ", v])
    generalize upd H15 ta18 (.tup [.str "R arithmetic ", v]) = H16 at f18 s16 ⊢
    have f11 := s16 _ _ f11
    have f12 := s16 _ _ f12
    have f13 := s16 _ _ f13
    have f14 := s16 _ _ f14
    have gl0 := s16 _ _ gl0
    have f15 := s16 _ _ f15
    have f16 := s16 _ _ f16
    have f17 := s16 _ _ f17
    have gl1 := s16 _ _ gl1
    have gc1 := s16 _ _ gc1
    have t16 := t15.trans s16
    refine ⟨_, rfl, by show 2 ≤ sizeLine; decide, fun ta19 nta19 => ?_⟩
    have f19 : (upd H16 ta19 (.tup [.str "S arithmetic ", v])) ta19 = some (.tup [.str "S arithmetic ", v]) := by exact upd_same
    have s17 := same_at nta19 (Same.refl H16) (o := .tup [.str "S arithmetic ", v])
    generalize upd H16 ta19 (.tup [.str "S arithmetic ", v]) = H17 at f19 s17 ⊢
    have f11 := s17 _ _ f11
    have f12 := s17 _ _ f12
    have f13 := s17 _ _ f13
    have f14 := s17 _ _ f14
    have gl0 := s17 _ _ gl0
    have f15 := s17 _ _ f15
    have f16 := s17 _ _ f16
    have f17 := s17 _ _ f17
    have gl1 := s17 _ _ gl1
    have gc1 := s17 _ _ gc1
    have f18 := s17 _ _ f18
    have t17 := t16.trans s17
    refine ⟨by show 2 ≤ sizeLine; decide, fun pl2 npl2 => ?_⟩
    have gl2 : upd H17 pl2 (.lst [V.ref ta18, V.ref ta19]) pl2 = some (.lst [V.ref ta18, V.ref ta19]) := upd_same
    have s18 := same_at npl2 (Same.refl H17) (o := .lst [V.ref ta18, V.ref ta19])
    generalize upd H17 pl2 (.lst [V.ref ta18, V.ref ta19]) = H18 at gl2 s18 ⊢
    have f11 := s18 _ _ f11
    have f12 := s18 _ _ f12
    have f13 := s18 _ _ f13
    have f14 := s18 _ _ f14
    have gl0 := s18 _ _ gl0
    have f15 := s18 _ _ f15
    have f16 := s18 _ _ f16
    have f17 := s18 _ _ f17
    have gl1 := s18 _ _ gl1
    have gc1 := s18 _ _ gc1
    have f18 := s18 _ _ f18
    have f19 := s18 _ _ f19
    have t18 := t17.trans s18
    refine ⟨pc1, pl2, _, _, rfl, rfl, gc1, gl2, by show 9 ≤ sizeLine; decide, fun pc2 npc2 farc2 => ?_⟩
    have gc2 : upd H18 pc2 (.lst (([V.ref ta11, V.ref ta12, V.ref ta13, V.ref ta14] ++ [V.ref ta15, V.ref ta16, V.ref ta17]) ++ [V.ref ta18, V.ref ta19])) pc2 = some (.lst (([V.ref ta11, V.ref ta12, V.ref ta13, V.ref ta14] ++ [V.ref ta15, V.ref ta16, V.ref ta17]) ++ [V.ref ta18, V.ref ta19])) := upd_same
    have s19 := same_at npc2 (Same.refl H18) (o := .lst (([V.ref ta11, V.ref ta12, V.ref ta13, V.ref ta14] ++ [V.ref ta15, V.ref ta16, V.ref ta17]) ++ [V.ref ta18, V.ref ta19]))
    generalize upd H18 pc2 (.lst (([V.ref ta11, V.ref ta12, V.ref ta13, V.ref ta14] ++ [V.ref ta15, V.ref ta16, V.ref ta17]) ++ [V.ref ta18, V.ref ta19])) = H19 at gc2 s19 ⊢
    have f11 := s19 _ _ f11
    have f12 := s19 _ _ f12
    have f13 := s19 _ _ f13
    have f14 := s19 _ _ f14
    have gl0 := s19 _ _ gl0
    have f15 := s19 _ _ f15
    have f16 := s19 _ _ f16
    have f17 := s19 _ _ f17
    have gl1 := s19 _ _ gl1
    have gc1 := s19 _ _ gc1
    have f18 := s19 _ _ f18
    have f19 := s19 _ _ f19
    have gl2 := s19 _ _ gl2
    have t19 := t18.trans s19
    have tn := t19
    -- repr(kept) != repr(due)
    refine ⟨_, rfl, _, rfl, v, ix, rfl, fun pk Hk ts fark sk ek prk => ?_⟩
    rw [kept_due] at prk
    have hl := hv.list Hk (tn.trans sk)
    refine ⟨pk, ts, _, datL d dx, rfl, ek, fark, prk, hl, hv.okL, hv.depL, hv.sizL, ?_⟩
    have pr0 : PrsAt H19 [ta11, ta12, ta13, ta14, ta15, ta16, ta17, ta18, ta19] (dueL v ix) := .cons f11 (.cons f12 (.cons f13 (.cons f14 (.cons f15 (.cons f16 (.cons f17 (.cons f18 (.cons f19 .nil))))))))
    have pr1 : PrsAt Hk [ta11, ta12, ta13, ta14, ta15, ta16, ta17, ta18, ta19] (dueL v ix) := paired_imp2 (fun t p h => sk _ _ h) pr0
    refine ⟨_, rfl, pc2, [ta11, ta12, ta13, ta14, ta15, ta16, ta17, ta18, ta19], dueL v ix, datL d dx, rfl, sk _ _ gc2, farc2, pr1, hl, hv.okL, hv.depL, hv.sizL, rfl, _, rfl, ?_⟩
    rw [decide_eq_true rfl]
    have tk := tn.trans sk
    -- the errors caught
    have hsk := shV_same tk hv.sh
    refine ⟨_, rfl, by decide, by decide, fun D2 hD2 => ?_⟩
    refine lc_range (lo := 0) (fun j H2 => H2 D2 = some (.lst ((List.range j).map fun i => V.str (outT d i))) ∧ Same Hk H2) ⟨upd_same, same_at hD2 (Same.refl Hk)⟩ (fun j H2 hj hP => ?_) (fun H2 hP => ?_)
    · obtain ⟨eD, s2⟩ := hP
      refine ⟨rfl, _, rfl, _, rfl, v, d, j, by show [v, V.int (0 + (j : Int))] = _; rw [Int.zero_add], shV_same s2 hsk, fun H3 s3 => ⟨_, s3 _ _ eD, ?_, ?_, same_at hD2 (s2.trans s3)⟩⟩
      · rw [List.length_map, List.length_range]
        have : j < 3 := hj
        exact small_line (by omega)
      · rw [upd_same, List.range_succ, List.map_append]
        rfl
    · obtain ⟨eD, s2⟩ := hP
      have h2 := shV_same s2 hsk
      refine ⟨_, rfl, v, d, rfl, h2.shw _ (Same.refl _), h2.showable, Nat.le_trans h2.depth (by decide), Nat.le_trans h2.size (by decide), _, _, rfl, rfl, Nat.le_trans (Nat.add_le_add (show ("row " : Str).length ≤ 10 by decide +kernel) h2.size) (by decide), ?_⟩
      refine ⟨_, rfl, v, d, rfl, h2.shw _ (Same.refl _), h2.showable, Nat.le_trans h2.depth (by decide), Nat.le_trans h2.size (by decide), _, _, rfl, rfl, Nat.le_trans (Nat.add_le_add (show ("empty " : Str).length ≤ 10 by decide +kernel) h2.size) (by decide), by show 3 ≤ sizeLine; decide, fun pq npq => ?_⟩
      have s6 := same_at npq (Same.refl H2) (o := .lst [V.str "base l", V.str (("row " : Str) ++ d.shown), V.str (("empty " : Str) ++ d.shown)])
      refine ⟨1, by decide, .inl ⟨D2, pq, _, _, rfl, rfl, .inl (.inl (s6 _ _ eD)), .inl (.inl upd_same), .cons (.inl ⟨rfl, rfl⟩) (.cons (.inl ⟨rfl, rfl⟩) (.cons (.inl ⟨rfl, rfl⟩) .nil))⟩, ?_⟩
      exact q _ (tk.trans (s2.trans s6))
end
end Kl

set_option maxRecDepth 100000
set_option maxHeartbeats 4000000
namespace Kl
open PySem PySem.Spec PyProof.Rows L2 Gx Mx
section
variable {P : Program} {w : World} {K : PySem.W.Frag} {mg : Str → Option Value} {base : Heap} {c : Nat → Addr}
/-! ### the drawn number -/
def BIG : Int := 10 ^ 91
def nearL : List Int := [0, 1, 10 ^ Int.toNat 58, 10 ^ Int.toNat 59, 10 ^ Int.toNat 60, 10 ^ Int.toNat 60, 10 ^ Int.toNat 61, 10 ^ Int.toNat 45 * 10 ^ Int.toNat 45]
theorem near_ok : ∀ m ∈ nearL, 0 ≤ m ∧ m ≤ 10 ^ 90 := by decide +kernel
def spNumber : Sp := fun vs H Q _ => ∃ d : Addr, vs = [.ref d] ∧ DiceAt H d ∧ ∀ (n : Int) (H' : Hp), -BIG < n → n < BIG → SameX d H H' → DiceAt H' d → Q (.int n) H'
theorem ok_number {f : Addr} {fd : FuncData} (F : Fun K "_law_number" "_law_number" s_law_number f fd) (T : Top K mg) : FnOk P w K mg base CX0 3 f fd ["_law_dice_here"] spNumber := by
  have cr : Cal P w K mg base 2 "_law_roll" ["_law_dice_here", "_law_total"] spRoll := (T.d_law_roll.cal fun f fd F => ok_roll F T).mono (by decide)
  have cp : Cal P w K mg base 2 "_law_pick" ["_law_dice_here", "_law_items"] (spPick K) := T.d_law_pick.cal fun f fd F => ok_pick F T
  refine F.ok sc_law_number (fun vs H Q E h => ?_) (fun cdv A outer s H vs Q E hr h => ?_)
  · obtain ⟨d, rfl, _⟩ := h
    rfl
  · obtain ⟨d, rfl, hd, q⟩ := h
    refine ⟨_, pss_cons (ps_set (i := 1) sc_law_number.nd rfl (.inl rfl) (pe_lst (pa_cons pe_int (pa_cons pe_int (pa_cons (pe_op op_pow pe_int pe_int) (pa_cons (pe_op op_pow pe_int pe_int) (pa_cons (pe_op op_pow pe_int pe_int) (pa_cons (pe_op op_pow pe_int pe_int)
          (pa_cons (pe_op op_pow pe_int pe_int) (pa_cons (pe_op op_mulW (pe_op op_pow pe_int pe_int) (pe_op op_pow pe_int pe_int)) pa_nil))))))))))
      (pss_cons (ps_set (i := 2) sc_law_number.nd rfl (.inl rfl) (pe_op op_sub (pe_op op_add (pe_cal cp hr (by rfl) (pa_cons (pv 0) (pa_cons (pv 1) pa_nil))) (pe_cal cr hr (by rfl) (pa_cons (pv 0) (pa_cons pe_int pa_nil)))) pe_int))
      (pss_one (ps_ret (pe_ifExp (pt_cmpR op_eq (pe_cal cr hr (by rfl) (pa_cons (pv 0) (pa_cons pe_int pa_nil))) pe_int (nomark _)) (pe_un un_neg (pv 2)) (pv 2))))), ?_⟩
    refine ⟨_, _, rfl, rfl, ⟨by decide, by decide, by decide⟩, _, _, rfl, rfl, ⟨by decide, by decide, by decide⟩, _, _, rfl, rfl, ⟨by decide, by decide, by decide⟩, _, _, rfl, rfl, ⟨by decide, by decide, by decide⟩, _, _, rfl, rfl, ⟨by decide, by decide, by decide⟩,
      _, _, rfl, rfl, ⟨by decide, by decide, by decide⟩, _, _, rfl, rfl, ⟨by decide, by decide, by decide⟩, _, _, rfl, rfl, wide_mul (a := 200) (b := 200) (by decide) (by decide) (by decide) (by decide) (by decide), by show 8 ≤ sizeLine; decide, fun p np => ?_⟩
    have npd := dice_ne hd np
    refine ⟨_, rfl, _, rfl, d, .ref p, nearL.map V.int, rfl, dice_upd hd npd, .inl ⟨p, rfl, npd, .inl (.inl (.inl upd_same))⟩, by simp [nearL], by show 8 ≤ 100000; decide, fun v x b e hv => ?_⟩
    obtain ⟨m, hm, rfl⟩ := List.mem_map.mp hv
    obtain ⟨m0, m1⟩ := near_ok m hm
    refine ⟨_, rfl, d, _, rfl, dice_new x b e, by decide, by decide, fun r x1 b1 e1 h0 h1 => ?_⟩
    refine ⟨_, _, rfl, rfl, _, _, rfl, rfl, ?_⟩
    refine ⟨_, rfl, d, _, rfl, dice_new _ _ _, by decide, by decide, fun r2 x2 b2 e2 _ _ => ?_⟩
    have e90 : (10 : Int) ^ 91 = 10 * 10 ^ 90 := by decide +kernel
    have p90 : (0 : Int) < 10 ^ 90 := by decide +kernel
    have l5 : (10 : Int) ≤ 10 ^ 90 := by decide +kernel
    have sx : SameX d H (upd (upd (upd (upd H p (.lst (nearL.map V.int))) d (.lst [.int x, .int b, .int e])) d (.lst [.int x1, .int b1, .int e1])) d (.lst [.int x2, .int b2, .int e2])) := ((((SameX.refl d H).new np).atd).atd).atd
    have hd2 : DiceAt (upd (upd (upd (upd H p (.lst (nearL.map V.int))) d (.lst [.int x, .int b, .int e])) d (.lst [.int x1, .int b1, .int e1])) d (.lst [.int x2, .int b2, .int e2])) d := dice_new _ _ _
    refine ⟨rfl, _, rfl, ite2 (fun e => ?_) (fun e => ?_)⟩
    · refine ⟨_, rfl, _, rfl, ?_⟩
      exact q _ _ (by unfold BIG; omega) (by unfold BIG; omega) sx hd2
    · refine ⟨_, rfl, ?_⟩
      exact q _ _ (by unfold BIG; omega) (by unfold BIG; omega) sx hd2
/-! ### the figures of a number -/
theorem dig_len (b : Nat) (hb : 2 ≤ b) : ∀ (k fuel n : Nat) (ds : List Char), b ^ k ≤ n → n < fuel → ds.length + k + 1 ≤ (Nat.toDigitsCore b fuel n ds).length := by
  intro k
  induction k with
  | zero =>
    intro fuel n ds _ hf
    cases fuel with
    | zero => omega
    | succ f =>
      unfold Nat.toDigitsCore
      simp only
      split
      · simp
      · have := digitsCore_len_ge b f (n / b) (Nat.digitChar (n % b) :: ds)
        rw [List.length_cons] at this
        omega
  | succ k ih =>
    intro fuel n ds h hf
    cases fuel with
    | zero => omega
    | succ f =>
      unfold Nat.toDigitsCore
      simp only
      have h1 : b ^ k ≤ n / b := (Nat.le_div_iff_mul_le (by omega)).mpr (by rw [← Nat.pow_succ]; exact h)
      have h2 : 0 < b ^ k := Nat.pow_pos (by omega)
      rw [if_neg (by omega)]
      have h3 : n / b < f := by
        have : n / b < n := Nat.div_lt_self (by
          have : 0 < b ^ (k + 1) := Nat.pow_pos (by omega)
          omega) (by omega)
        omega
      have := ih f (n / b) (Nat.digitChar (n % b) :: ds) h1 h3
      rw [List.length_cons] at this
      omega
end
end Kl

set_option maxRecDepth 100000
set_option maxHeartbeats 4000000
namespace Kl
open PySem PySem.Spec PyProof.Rows L2 Gx Mx
section
variable {K : PySem.W.Frag}
/-! ### values and indices of the law -/
theorem sqL_same2 {H H' : Hp} {a : Addr} {xs : List V} (e : Same H H') (h : SqL K H a xs) : SqL K H' a xs := by
  rcases h with (h | ⟨o, h⟩) | h
  · exact .inl (.inl (e _ _ h))
  · exact .inl (.inr ⟨o, e _ _ h⟩)
  · exact .inr h
mutual
theorem dp_same2 {H H' : Hp} (s : Same H H') : ∀ (d : PyData) (v : V), Dp K H v d → Dp K H' v d
  | .none, _, h => by cases h; exact .non
  | .bool _, _, h => by cases h; exact .bl _
  | .int _, _, h => by cases h; exact .int _
  | .str _, _, h => by cases h; exact .str _
  | .list ds, _, h => by
    cases h with
    | lst e r => exact .lst (sqL_same2 s e) (dpAll_same2 s ds _ r)
  | .tuple ds, _, h => by
    cases h with
    | tup e r => exact .tup (sqT_same s e) (dpAll_same2 s ds _ r)
  | .dict _, _, h => by cases h
theorem dpAll_same2 {H H' : Hp} (s : Same H H') : ∀ (ds : List PyData) (vs : List V), DpAll K H vs ds → DpAll K H' vs ds
  | [], _, h => by cases h; exact .nil
  | d :: ds, _, h => by
    cases h with
    | cons a r => exact .cons (dp_same2 s d _ a) (dpAll_same2 s ds _ r)
end
/-- data that are small enough -/
structure Dok (d : PyData) : Prop where
  sh : d.showable = true
  dp : d.depth ≤ 10
  sz : d.shown.length ≤ 1000
  lv : d.leavesShort 100 = true
  wt : d.weight ≤ 400
theorem dok_int {n : Int} (h1 : -BIG < n) (h2 : n < BIG) : Dok (.int n) := by
  have eb : BIG = ((10 ^ 91 : Nat) : Int) := by decide +kernel
  have hn : n.natAbs < 10 ^ 91 := by omega
  have hl : (PyData.int n).shown.length ≤ 92 := by
    show (Str.ofString (toString n)).length ≤ 92
    rw [PySem.ofString_length]
    exact int_text_length_le10 (k := 91) (by decide) hn
  have hlog : n.natAbs.log2 < 303 := by
    by_cases h0 : n.natAbs = 0
    · rw [h0]; decide
    · exact (Nat.log2_lt h0).mpr (Nat.lt_trans hn (by decide +kernel))
  refine ⟨?_, by show 0 ≤ 10; decide, by omega, decide_eq_true (by omega), ?_⟩
  · show decide (n.natAbs.log2 < 1920) = true
    exact decide_eq_true (by omega)
  · show (if n == 0 then 0 else n.natAbs.log2 + 1) ≤ 400
    split <;> omega
/-- a value: no dict in it, or nothing but flat ones and the dict -/
structure VOk (K : PySem.W.Frag) (H : Hp) (v : V) (d : PyData) : Prop where
  ok : Dok d
  how : ((∀ H', Same H H' → Dp K H' v d) ∧ d.hasDict = false) ∨ (∀ H', Same H H' → Shs K H' v d) ∧ ∀ H', Same H H' → Shw K H' v d
structure IOk (ix : V) (d : PyData) : Prop where
  ok : Dok d
  dp : ∀ K H, Dp K H ix d
  sh : ∀ K H, Shs K H ix d
  nd : d.hasDict = false
theorem vOk_same {H H' : Hp} (s : Same H H') {v : V} {d : PyData} (h : VOk K H v d) : VOk K H' v d := by
  refine ⟨h.ok, ?_⟩
  rcases h.how with ⟨a, b⟩ | ⟨a, b⟩
  · exact .inl ⟨fun H2 s2 => a H2 (s.trans s2), b⟩
  · exact .inr ⟨fun H2 s2 => a H2 (s.trans s2), fun H2 s2 => b H2 (s.trans s2)⟩
theorem valI_of {H : Hp} {v ix : V} {d dx : PyData} (h : VOk K H v d) (hi : IOk ix dx) : ValI K H v ix d dx := by
  obtain ⟨⟨h1, h2, h3, h4, h5⟩, how⟩ := h
  obtain ⟨⟨i1, i2, i3, i4, i5⟩, idp, ish, ind⟩ := hi
  have w0 : ("x link value " : Str).cps.size ≤ 30 := by decide +kernel
  have w1 : ("U key lookup " : Str).cps.size ≤ 30 := by decide +kernel
  have w2 : ("A key lookup " : Str).cps.size ≤ 30 := by decide +kernel
  have w3 : ("E lookup " : Str).cps.size ≤ 30 := by decide +kernel
  have w4 : ("N index lookup " : Str).cps.size ≤ 30 := by decide +kernel
  have w5 : ("Z runtime " : Str).cps.size ≤ 30 := by decide +kernel
  have w6 : ("M overflow arithmetic " : Str).cps.size ≤ 30 := by decide +kernel
  have w7 : ("R arithmetic " : Str).cps.size ≤ 30 := by decide +kernel
  have w8 : ("S arithmetic " : Str).cps.size ≤ 30 := by decide +kernel
  have l0 : PyData.leavesShort 100 (.str "x link value ") = true := by decide +kernel
  have l1 : PyData.leavesShort 100 (.str "U key lookup ") = true := by decide +kernel
  have l2 : PyData.leavesShort 100 (.str "A key lookup ") = true := by decide +kernel
  have l3 : PyData.leavesShort 100 (.str "E lookup ") = true := by decide +kernel
  have l4 : PyData.leavesShort 100 (.str "N index lookup ") = true := by decide +kernel
  have l5 : PyData.leavesShort 100 (.str "Z runtime ") = true := by decide +kernel
  have l6 : PyData.leavesShort 100 (.str "M overflow arithmetic ") = true := by decide +kernel
  have l7 : PyData.leavesShort 100 (.str "R arithmetic ") = true := by decide +kernel
  have l8 : PyData.leavesShort 100 (.str "S arithmetic ") = true := by decide +kernel
  have wt : (PyData.list (zipT (dueL v ix) (datL d dx))).weight ≤ 10000 := by
    simp only [zipT, dueL, datL, PyData.weight, PyData.weightAll]
    omega
  have lv : (PyData.list (zipT (dueL v ix) (datL d dx))).leavesShort 100 = true := by
    simp only [zipT, dueL, datL, PyData.leavesShort, PyData.leavesShortAll] at l0 l1 l2 l3 l4 l5 l6 l7 l8 ⊢
    simp only [h4, i4, l0, l1, l2, l3, l4, l5, l6, l7, l8, Bool.and_true, Bool.and_self]
  have sz := PyData.shown_le 100 (by decide) _ lv
  refine ⟨?_, ?_, ?_, ?_, ?_⟩
  · refine ⟨fun H' s => ?_, h1, by omega, h3⟩
    rcases how with ⟨a, b⟩ | ⟨_, b⟩
    · exact .dp (a H' s) b
    · exact b H' s
  · intro H' s
    rcases how with ⟨a, b⟩ | ⟨a, _⟩
    · have p := a H' s
      refine .inl ⟨.cons (idp K H') (.cons p (.cons p (.cons p (.cons p (.cons p (.cons p (.cons p (.cons p .nil)))))))), ?_⟩
      simp only [zipT, dueL, datL, PyData.hasDict, PyData.hasDictAll, b, ind, Bool.or_self]
    · have p := a H' s
      exact .inr (.cons (ish K H') (.cons p (.cons p (.cons p (.cons p (.cons p (.cons p (.cons p (.cons p .nil)))))))))
  · simp only [zipT, dueL, datL, PyData.showable, PyData.showableAll, h1, i1, Bool.and_self]
  · simp only [zipT, dueL, datL, PyData.depth, PyData.depthAll]
    omega
  · refine Nat.le_trans sz (Nat.le_trans (show _ ≤ (100 + 2) * 10000 + 100 by omega) (by decide))
theorem iOk_int {i : Int} (h1 : -BIG < i) (h2 : i < BIG) : IOk (.int i) (.int i) := ⟨dok_int h1 h2, fun _ _ => .int i, fun _ _ => .int i, rfl⟩
theorem iOk_non : IOk .non .none := ⟨⟨by decide +kernel, by decide +kernel, by decide +kernel, by decide +kernel, by decide +kernel⟩, fun _ _ => .non, fun _ _ => .non, rfl⟩
theorem vOk_dp {H : Hp} {v : V} {d : PyData} (hd : Dp K H v d) (ok : Dok d) (nd : d.hasDict = false) : VOk K H v d := ⟨ok, .inl ⟨fun H' s => dp_same2 s d v hd, nd⟩⟩
theorem vOk_d7 {H : Hp} {a : Addr} (e : H a = some (.dK [(Sum.inl 7, .int 7)])) : VOk K H (.ref a) (.dict [(.int 7, .int 7)]) :=
  ⟨⟨by decide +kernel, by decide +kernel, by decide +kernel, by decide +kernel, by decide +kernel⟩, .inr ⟨fun H' s => .d7 (s _ _ e), fun H' s => .d7 (s _ _ e)⟩⟩
end
end Kl

set_option maxRecDepth 100000
set_option maxHeartbeats 4000000
namespace Kl
open PySem PySem.Spec PyProof.Rows L2 Gx Mx
/-! ### the figures and the sign of a number -/
theorem str_len (n : Int) : decide (((Str.ofString (toString (if n < 0 then -n else n))).length : Int) ≤ 60) = intV (.int n) := by
  have key : ∀ m : Nat, decide (((Str.ofString (toString (m : Int))).length : Int) ≤ 60) = decide (m < 10 ^ 60) := by
    intro m
    have e : (Str.ofString (toString (m : Int))).length = (Nat.repr m).length := by rw [PySem.ofString_length]; rfl
    rw [e, decide_eq_decide]
    have := Nat.length_repr_le_iff (n := m) (k := 60) (by decide)
    omega
  have et : TEN60 = ((10 ^ 60 : Nat) : Int) := by decide +kernel
  show _ = (decide (-TEN60 < n) && decide (n < TEN60))
  by_cases h : n < 0
  · rw [if_pos h]
    obtain ⟨m, hm⟩ := Int.eq_ofNat_of_zero_le (show 0 ≤ -n by omega)
    rw [hm, key, Bool.eq_iff_iff, Bool.and_eq_true, decide_eq_true_eq, decide_eq_true_eq, decide_eq_true_eq]
    omega
  · rw [if_neg h]
    obtain ⟨m, hm⟩ := Int.eq_ofNat_of_zero_le (show 0 ≤ n by omega)
    rw [hm, key, Bool.eq_iff_iff, Bool.and_eq_true, decide_eq_true_eq, decide_eq_true_eq, decide_eq_true_eq]
    omega
theorem str_sign (n : Int) : ∃ a : Nat, (Str.ofString (toString n)).cps.toList[0]? = some a ∧ decide (a = 45) = decide (n < 0) := by
  by_cases h : n < 0
  · refine ⟨45, ?_, by rw [decide_eq_true h]; rfl⟩
    rw [toString_neg h]
    have e := PyProof.Rows.signs_ofString ("-" ++ toString (0 - n))
    rw [e, String.toList_append]
    rfl
  · obtain ⟨m, rfl⟩ := Int.eq_ofNat_of_zero_le (show 0 ≤ n by omega)
    have e := text_ofNat m
    rw [show Str.ofString (toString (m : Int)) = _ from e]
    have hl := toDigits_len_ge 10 m
    cases hd : Nat.toDigits 10 m with
    | nil => rw [hd] at hl; simp at hl
    | cons c r =>
      refine ⟨c.toNat, by simp, ?_⟩
      have hc := Nat.isDigit_of_mem_toDigits (b := 10) (by decide) (by decide) (show c ∈ Nat.toDigits 10 m by rw [hd]; exact List.mem_cons_self ..)
      rw [decide_eq_false h]
      refine decide_eq_false fun q => ?_
      unfold Char.isDigit at hc
      simp at hc
      have : c.toNat = c.val.toNat := rfl
      have h1 := hc.1
      have h2 : (48 : UInt32).toNat ≤ c.val.toNat := h1
      have h3 : (48 : UInt32).toNat = 48 := rfl
      omega

section
variable {P : Program} {w : World} {K : PySem.W.Frag} {mg : Str → Option Value} {base : Heap} {c : Nat → Addr}
/-! ### the law -/
theorem sign_ne2 (a b : Nat) : decide (V.str ⟨#[a]⟩ = V.str ⟨#[b]⟩) = decide (a = b) := by
  rw [decS]
  exact decide_eq_decide.mpr ⟨fun e => by simpa using e, fun e => by rw [e]⟩
theorem sqL_samex {d a : Addr} {H H' : Hp} {xs : List V} (n : H d = none) (s : SameX d H H') (h : SqL K H a xs) : SqL K H' a xs := by
  rcases h with (h | ⟨o, h⟩) | h
  · exact .inl (.inl (s _ _ (ne_of_none h n) h))
  · exact .inl (.inr ⟨o, s _ _ (ne_of_none h n) h⟩)
  · exact .inr h
abbrev NL : List Str := ["_law_script", "_law_spot", "_law_dice_here", "_law_number_here", "_law_is_due", "_law_some", "_law_index", "_law_value"]
def spLaw (K : PySem.W.Frag) : Sp := fun vs H Q _ => ∃ (a : Addr) (ns : List Int), vs = [.ref a] ∧ SqL K H a (ns.map V.int) ∧ ns.length ≤ 63 ∧ ∀ H', Q (.bl true) H'
theorem ok_law {f : Addr} {fd : FuncData} (F : Fun K "law" "law" s_law f fd) (T : Top K mg) : FnG P w K mg base CX0 6 f fd ["_law_script"] (spLaw K) := by
  obtain ⟨c, ER⟩ := T.errs
  have cd : Cal P w K mg base 5 "_law_dice" ["_law_script", "_law_spot"] (spDice K) := (T.d_law_dice.cal fun f fd F => ok_dice F T).mono (by decide)
  have cr : Cal P w K mg base 5 "_law_roll" ["_law_dice_here", "_law_total"] spRoll := (T.d_law_roll.cal fun f fd F => ok_roll F T).mono (by decide)
  have cp : Cal P w K mg base 5 "_law_pick" ["_law_dice_here", "_law_items"] (spPick K) := (T.d_law_pick.cal fun f fd F => ok_pick F T).mono (by decide)
  have cn : Cal P w K mg base 5 "_law_number" ["_law_dice_here"] spNumber := (T.d_law_number.cal fun f fd F => ok_number F T).mono (by decide)
  have ci : Cal P w K mg base 5 "is_integer" ["value"] (spInt K) := (T.d_is_integer.cal fun f fd F => ok_int F T).mono (by decide)
  have cc : Cal P w K mg base 5 "is_count" ["value"] (spCnt K) := (T.d_is_count.cal fun f fd F => ok_cnt F T).mono (by decide)
  have cv : CalG P w K mg base 5 "_law_right" ["_law_value", "_law_index"] (spRightV K) := T.d_law_right.calG fun f fd F => ok_rightV F T ER
  obtain ⟨tm, gm⟩ := T.g_MAX_FIGURES
  refine okG F sc_law (fun vs H Q E h => ?_) (fun cdv A outer s H vs Q E hg hr h => ?_)
  · obtain ⟨a, ns, rfl, _⟩ := h
    rfl
  · obtain ⟨a, ns, rfl, hS, hlen, q⟩ := h
    refine ⟨_, pss_cons (ps_for PassesOwn.never rfl (pi_range1 (by rfl) T.b_range (pa_cons (pe_callB (call_max2 rfl) (by rfl) T.b_max (by decide +kernel) (pa_cons pe_int (pa_cons
          (pe_callB (call_min2 rfl) (by rfl) T.b_min (by decide +kernel) (pa_cons pe_int (pa_cons (pe_callB call_len_seq (by rfl) T.b_len PySem.boot_len (pa_cons (pv 0) pa_nil)) pa_nil))) pa_nil))) pa_nil))
          (pg_name (i := 1) sc_law.nd rfl (.inl rfl))
        (pss_cons (ps_set (i := 2) sc_law.nd rfl (.inl rfl) (pe_cal cd hr (by rfl) (pa_cons (pv 0) (pa_cons (pv 1) pa_nil))))
        (pss_cons (ps_set (i := 3) sc_law.nd rfl (.inl rfl) (pe_cal cn hr (by rfl) (pa_cons (pv 2) pa_nil)))
        (pss_cut (ps_set (i := 4) sc_law.nd rfl (.inl rfl) (pe_cmpR op_le (pe_callB call_len_str (by rfl) T.b_len PySem.boot_len (pa_cons (pe_callTy call_str_int (by rfl) T.b_str (by decide +kernel) (pa_cons (pe_callB call_abs (by rfl) T.b_abs (by decide +kernel) (pa_cons (pv 3) pa_nil)) pa_nil)) pa_nil)) pe_int (nomark _)))
        (pss_cut (ps_if (pt_cmpR op_ne (pe_callB (call_reprD hg hr.units) (by rfl) T.b_repr (by decide +kernel) (pa_cons (pe_lst (pa_cons (pe_cal ci hr (by rfl) (pa_cons (pv 3) pa_nil)) (pa_cons (pe_cal cc hr (by rfl) (pa_cons (pv 3) pa_nil)) pa_nil))) pa_nil))
            (pe_callB (call_reprD hg hr.units) (by rfl) T.b_repr (by decide +kernel) (pa_cons (pe_lst (pa_cons (pv 4) (pa_cons (pe_and (pv 4) (pe_one (pe_cmpR op_ne (pe_ix ix_str (pe_callTy call_str_int (by rfl) T.b_str (by decide +kernel) (pa_cons (pv 3) pa_nil)) pe_int (fun _ _ => rfl)) pe_str (nomark _)))) pa_nil))) pa_nil)) (nomark _)) (pss_one (ps_ret pe_bl)) pss_nil)
        (pss_cons (ps_set (i := 5) sc_law.nd rfl (.inl rfl) (pe_lst (pa_cons pe_non (pa_cons pe_bl (pa_cons pe_bl (pa_cons pe_str (pa_cons pe_str (pa_cons (pe_tup (pa_cons pe_int pa_nil)) (pa_cons (pe_lst (pa_cons pe_int pa_nil)) (pa_cons (pe_disp (pps_cons pe_int pe_int pps_nil) (by rfl) (by rfl) (fun z => by cases z) (by decide))
            (pa_cons (pe_tup (pa_cons (pe_tup pa_nil) (pa_cons (pe_tup (pa_cons pe_str pa_nil)) pa_nil))) (pa_cons (pe_tup (pa_cons pe_str pa_nil)) pa_nil))))))))))))
        (pss_cons (ps_if (pt_cmpR (op_neD hr.units) (pe_lc (own := [("_law_value", 7)]) (g := gName 7) (tt := _) rfl sc_law.nd (pi_list (pv 5)) (blkOk_by (N := NL) (sc := defScope s_law) (by decide +kernel)) (fun _ _ _ _ _ => pg_name (i := 7) sc_law.nd rfl (.inl rfl))
              (fun _ _ _ _ _ => pts_one (PW.pt (pw_or (pt_cmpR op_notBl (pe_cal ci hr (by rfl) (pa_cons (pv 7) pa_nil)) pe_bl (nomark _)) (pw_or1 (pt_cmpR op_notBl (pe_cal cc hr (by rfl) (pa_cons (pv 7) pa_nil)) pe_bl (nomark _)))))) (fun _ _ _ _ _ => pv 7)) (pe_lst pa_nil) (nomark _)) (pss_one (ps_ret pe_bl)) pss_nil)
        (pss_cons (ps_set (i := 6) sc_law.nd rfl (.inl rfl) (pe_cal cp hr (by rfl) (pa_cons (pv 2) (pa_cons (pe_lst (pa_cons pe_non (pa_cons pe_int (pa_cons pe_int (pa_cons (pe_cal cr hr (by rfl) (pa_cons (pv 2) (pa_cons (pe_op op_pow pe_int pe_int) pa_nil))) pa_nil))))) pa_nil))))
        (pss_one (ps_for PassesOwn.never rfl (pi_list (pe_lst (pa_cons (pv 3) (pa_cons (pe_cal cp hr (by rfl) (pa_cons (pv 2) (pa_cons (pv 5) pa_nil))) (pa_cons (pe_cal cp hr (by rfl) (pa_cons (pv 2) (pa_cons (pv 5) pa_nil))) pa_nil))))) (pg_name (i := 7) sc_law.nd rfl (.inl rfl))
          (pss_one (ps_if (pt_not (pt_val (pe_calG cv hg hr (by rfl) (pa_cons (pv 7) (pa_cons (pv 6) pa_nil))))) (pss_one (ps_ret pe_bl)) pss_nil))))))))))))
      (pss_one (ps_ret (pe_and (pe_cmpR op_eq (pe_glob (v := .int 60) (by rfl) gm ⟨_, rfl⟩) pe_int (nomark _)) (pe_and (pe_cmpR op_isBl (pe_cal cc hr (by rfl) (pa_cons pe_int pa_nil)) pe_bl (nomark _))
        (pe_one (pe_cmpR op_isBl (pe_cal ci hr (by rfl) (pa_cons (pe_op op_add (pe_un un_neg (pe_op op_pow pe_int pe_int)) pe_int) pa_nil)) pe_bl (nomark _))))))), ?_⟩
    have c0 : cntV (.int 0) = true := by decide +kernel
    have cE : intV (.int (-10 ^ Int.toNat 60 + 1)) = true := by decide +kernel
    refine ⟨_, rfl, a, _, rfl, .inl hS, _, _, rfl, _, _, rfl, _, rfl, ?_, ?_, ?_⟩
    · split <;> split <;> omega
    · split <;> split <;> omega
    refine for_range (lo := 0) (fun i σ' H' => ∃ y1 y2 y3 y4 y5 y6 y7, σ' = [some (.ref a), y1, y2, y3, y4, y5, y6, y7] ∧ SqL K H' a (ns.map V.int)) ⟨_, _, _, _, _, _, _, rfl, hS⟩ (fun i σ' H' hi hP => ?_) (fun σ' H' hP => ?_)
    · obtain ⟨y1, y2, y3, y4, y5, y6, y7, rfl, hS⟩ := hP
      refine ⟨_, rfl, _, rfl, a, ns, i, ?_, hS, hlen, ?_, fun d x0 b0 nd => ?_⟩
      · show [V.ref a, V.int (0 + (i : Int))] = _
        rw [Int.zero_add]
      · have : i < 4 := by
          revert hi
          split <;> split <;> omega
        omega
      refine ⟨_, rfl, d, rfl, ⟨x0, b0, 0, upd_same⟩, fun n H2 hn1 hn2 sx hd2 => ?_⟩
      have hS2 : SqL K H2 a (ns.map V.int) := sqL_samex (d := d) nd (fun b o nb e => sx b o nb (by rw [upd_ne nb]; exact e)) hS
      have hS0 := hS
      have nd0 := nd
      have sxh : SameX d H' H2 := fun b o nb e => sx b o nb (by rw [upd_ne nb]; exact e)
      clear sx
      have dn := dok_int hn1 hn2
      have eb : BIG = ((10 ^ 91 : Nat) : Int) := by decide +kernel
      have lg : ∀ m : Int, m.natAbs < 10 ^ 91 → m.natAbs.log2 < 1920 ∧ (Str.ofString (toString m)).length ≤ sizeLine := by
        intro m hm
        have h1 : m.natAbs.log2 < 1920 := by
          by_cases h0 : m.natAbs = 0
          · rw [h0]; decide
          · exact (Nat.log2_lt h0).mpr (Nat.lt_trans hm (by decide +kernel))
        exact ⟨h1, PySem.int_text_fits h1⟩
      have g1 := lg (if n < 0 then -n else n) (by split <;> omega)
      have g2 := lg n (by omega)
      have hdue := str_len n
      refine ⟨fun σ3 H3 => ∃ y5 y6 y7, σ3 = [some (.ref a), some (.int (0 + (i : Int))), some (.ref d), some (.int n), some (.bl (intV (.int n))), y5, y6, y7] ∧ H3 = H2, ?_, ?_⟩
      · refine ⟨_, rfl, _, rfl, _, rfl, g1.1, _, rfl, g1.2, _, _, rfl, rfl, y5, y6, y7, ?_, rfl⟩
        rw [← hdue]
        rfl
      rintro σ3 H2 ⟨y5, y6, y7, rfl, rfl⟩
      refine ⟨fun σ3 H3 => ∃ y5 y6 y7, σ3 = [some (.ref a), some (.int (0 + (i : Int))), some (.ref d), some (.int n), some (.bl (intV (.int n))), y5, y6, y7] ∧ Same H2 H3, ?_, ?_⟩
      · have two : ∀ x y : Bool, (PyData.list [.bool x, .bool y]).shown.length ≤ sizeLine := by intro x y; cases x <;> cases y <;> decide +kernel
        refine ⟨_, rfl, .int n, rfl, .inl ⟨n, rfl⟩, _, rfl, .int n, rfl, .inl ⟨n, rfl⟩, by show 2 ≤ sizeLine; decide, fun l1 nl1 => ?_⟩
        have s1 := same_at nl1 (Same.refl H2) (o := .lst [V.bl (intV (.int n)), V.bl (cntV (.int n))])
        refine ⟨_, .list [.bool (intV (.int n)), .bool (cntV (.int n))], rfl, .lst (.inl (.inl upd_same)) (.cons (.bl _) (.cons (.bl _) .nil)), rfl, rfl, by show 1 ≤ 60; decide, two _ _, ?_⟩
        generalize upd H2 l1 (.lst [V.bl (intV (.int n)), V.bl (cntV (.int n))]) = H3 at s1 ⊢
        have fin : ∀ b2 : Bool, b2 = cntV (.int n) → ∀ l2, H3 l2 = none → ∃ (x : V) (dd : PyData), [V.ref l2] = [x] ∧ Dp K (upd H3 l2 (.lst [V.bl (intV (.int n)), V.bl b2])) x dd ∧ dd.showable = true ∧ dd.hasDict = false ∧ dd.depth ≤ 60 ∧ dd.shown.length ≤ sizeLine ∧ dd = .list [.bool (intV (.int n)), .bool (cntV (.int n))] := by
          rintro b2 rfl l2 _
          exact ⟨_, _, rfl, .lst (.inl (.inl upd_same)) (.cons (.bl _) (.cons (.bl _) .nil)), rfl, rfl, by show 1 ≤ 60; decide, two _ _, rfl⟩
        have hcn : cntV (.int n) = (intV (.int n) && decide (0 ≤ n)) := rfl
        obtain ⟨ch, hch, hsg⟩ := str_sign n
        refine ⟨_, rfl, _, rfl, _, rfl, ?_⟩
        cases hI : intV (.int n) with
        | false =>
          rw [hI, Bool.false_and] at hcn
          refine ⟨by show 2 ≤ sizeLine; decide, fun l2 nl2 => ?_⟩
          have s2 := same_at nl2 (Same.refl H3) (o := .lst [V.bl false, V.bl false])
          refine ⟨_, .list [.bool false, .bool false], rfl, .lst (.inl (.inl upd_same)) (.cons (.bl _) (.cons (.bl _) .nil)), rfl, rfl, by show 1 ≤ 60; decide, two _ _, rfl, _, rfl, ?_⟩
          rw [hcn, decide_eq_true rfl]
          exact ⟨_, _, _, rfl, s1.trans s2⟩
        | true =>
          rw [hI, Bool.true_and] at hcn
          refine ⟨_, rfl, _, rfl, g2.1, _, 0, ch, rfl, rfl, g2.2, atI_nat hch, rfl, by show 2 ≤ sizeLine; decide, fun l2 nl2 => ?_⟩
          have e2 : (!decide (V.str ⟨#[ch]⟩ = V.str "-")) = cntV (.int n) := by
            have em : ("-" : Str) = ⟨#[45]⟩ := by decide +kernel
            rw [em, sign_ne2, hsg, hcn, Bool.eq_iff_iff, Bool.not_eq_true', decide_eq_false_iff_not, decide_eq_true_eq]
            omega
          have s2 := same_at nl2 (Same.refl H3) (o := .lst [V.bl true, V.bl (!decide (V.str ⟨#[ch]⟩ = V.str "-"))])
          refine ⟨_, .list [.bool true, .bool (!decide (V.str ⟨#[ch]⟩ = V.str "-"))], rfl, .lst (.inl (.inl upd_same)) (.cons (.bl _) (.cons (.bl _) .nil)), rfl, rfl, by show 1 ≤ 60; decide, two _ _, rfl, _, rfl, ?_⟩
          rw [e2] at s2 ⊢
          rw [decide_eq_true rfl]
          exact ⟨_, _, _, rfl, s1.trans s2⟩
      · rintro σ3 H3 ⟨y5, y6, y7, rfl, s3⟩
        have hS3 := sqL_same2 s3 hS2
        have hd3 : DiceAt H3 d := by
          obtain ⟨x, b, e, h⟩ := hd2
          exact ⟨x, b, e, s3 _ _ h⟩
        have sxh := sxh.trans (SameX.of s3)
        clear hS2 hd2 hS s3
        -- the values
        refine ⟨by show 1 ≤ sizeLine; decide, fun t1 k1 => ?_⟩
        have f1 : upd H3 t1 (.tup [.int 7]) t1 = some (.tup [.int 7]) := upd_same
        have m1 := same_at k1 (Same.refl H3) (o := .tup [.int 7])
        generalize upd H3 t1 (.tup [.int 7]) = G1 at f1 m1 ⊢
        refine ⟨by show 1 ≤ sizeLine; decide, fun t2 k2 => ?_⟩
        have f2 : upd G1 t2 (.lst [.int 7]) t2 = some (.lst [.int 7]) := upd_same
        have m2 := same_at k2 (Same.refl G1) (o := .lst [.int 7])
        generalize upd G1 t2 (.lst [.int 7]) = G2 at f2 m2 ⊢
        refine fun t3 k3 => ⟨upd_same, [(Sum.inl 7, .int 7)], rfl, Nat.le_of_ble_eq_true rfl, ?_⟩
        have f3 : upd (upd G2 t3 (.dK [])) t3 (.dK (mergeK [] [(Sum.inl 7, .int 7)])) t3 = some (.dK [(Sum.inl 7, .int 7)]) := upd_same
        have m3 := same_at k3 (same_at k3 (o := .dK []) (Same.refl G2)) (o := .dK (mergeK [] [(Sum.inl 7, .int 7)]))
        generalize upd (upd G2 t3 (.dK [])) t3 (.dK (mergeK [] [(Sum.inl 7, .int 7)])) = G3 at f3 m3 ⊢
        refine ⟨by show 0 ≤ sizeLine; decide, fun t4 k4 => ?_⟩
        have f4 : upd G3 t4 (.tup []) t4 = some (.tup []) := upd_same
        have m4 := same_at k4 (Same.refl G3) (o := .tup [])
        generalize upd G3 t4 (.tup []) = G4 at f4 m4 ⊢
        refine ⟨by show 1 ≤ sizeLine; decide, fun t5 k5 => ?_⟩
        have f5 : upd G4 t5 (.tup [.str "a"]) t5 = some (.tup [.str "a"]) := upd_same
        have m5 := same_at k5 (Same.refl G4) (o := .tup [.str "a"])
        generalize upd G4 t5 (.tup [.str "a"]) = G5 at f5 m5 ⊢
        refine ⟨by show 2 ≤ sizeLine; decide, fun t6 k6 => ?_⟩
        have f6 : upd G5 t6 (.tup [.ref t4, .ref t5]) t6 = some (.tup [.ref t4, .ref t5]) := upd_same
        have m6 := same_at k6 (Same.refl G5) (o := .tup [.ref t4, .ref t5])
        generalize upd G5 t6 (.tup [.ref t4, .ref t5]) = G6 at f6 m6 ⊢
        refine ⟨by show 1 ≤ sizeLine; decide, fun t7 k7 => ?_⟩
        have f7 : upd G6 t7 (.tup [.str "put"]) t7 = some (.tup [.str "put"]) := upd_same
        have m7 := same_at k7 (Same.refl G6) (o := .tup [.str "put"])
        generalize upd G6 t7 (.tup [.str "put"]) = G7 at f7 m7 ⊢
        refine ⟨by show 10 ≤ sizeLine; decide, fun ls k8 => ?_⟩
        obtain ⟨someL, hsome⟩ : ∃ l, l = [V.non, .bl true, .bl false, .str "7", .str "", .ref t1, .ref t2, .ref t3, .ref t6, .ref t7] := ⟨_, rfl⟩
        have f8 : upd G7 ls (.lst [V.non, .bl true, .bl false, .str "7", .str "", .ref t1, .ref t2, .ref t3, .ref t6, .ref t7]) ls = some (.lst someL) := by rw [hsome]; exact upd_same
        have m8 := same_at k8 (Same.refl G7) (o := .lst [V.non, .bl true, .bl false, .str "7", .str "", .ref t1, .ref t2, .ref t3, .ref t6, .ref t7])
        generalize upd G7 ls (.lst [V.non, .bl true, .bl false, .str "7", .str "", .ref t1, .ref t2, .ref t3, .ref t6, .ref t7]) = G8 at f8 m8 ⊢
        have f7 := m8 _ _ f7
        have m7 := m7.trans m8
        have f6 := m7 _ _ f6
        have m6 := m6.trans m7
        have f5 := m6 _ _ f5
        have m5 := m5.trans m6
        have f4 := m5 _ _ f4
        have m4 := m4.trans m5
        have f3 := m4 _ _ f3
        have m3 := m3.trans m4
        have f2 := m3 _ _ f2
        have m2 := m2.trans m3
        have f1 := m2 _ _ f1
        have sm8 := m1.trans m2
        clear m1 m2 m3 m4 m5 m6 m7 m8 k1 k2 k3 k4 k5 k6 k7 k8
        have hd8 : DiceAt G8 d := by
          obtain ⟨x, b, e, h⟩ := hd3
          exact ⟨x, b, e, sm8 _ _ h⟩
        have hvals : ∀ G : Hp, SameX d G8 G → ∀ v ∈ someL, (∃ dv, VOk K G v dv) ∧ IntArg K G v ∧ intV v = false ∧ cntV v = false := by
          intro G sxG v hv
          obtain ⟨xd, bd, ed, hdd⟩ := hd8
          have f1 := sxG _ _ (fun e => by rw [e, hdd] at f1; cases f1) f1
          have f2 := sxG _ _ (fun e => by rw [e, hdd] at f2; cases f2) f2
          have f3 := sxG _ _ (fun e => by rw [e, hdd] at f3; cases f3) f3
          have f4 := sxG _ _ (fun e => by rw [e, hdd] at f4; cases f4) f4
          have f5 := sxG _ _ (fun e => by rw [e, hdd] at f5; cases f5) f5
          have f6 := sxG _ _ (fun e => by rw [e, hdd] at f6; cases f6) f6
          have f7 := sxG _ _ (fun e => by rw [e, hdd] at f7; cases f7) f7
          rw [hsome] at hv
          simp only [List.mem_cons, List.not_mem_nil, or_false] at hv
          have dk : ∀ d : PyData, d.showable = true → d.depth ≤ 10 → d.shown.length ≤ 1000 → d.leavesShort 100 = true → d.weight ≤ 400 → Dok d := fun d a b c e f => ⟨a, b, c, e, f⟩
          rcases hv with rfl | rfl | rfl | rfl | rfl | rfl | rfl | rfl | rfl | rfl
          · exact ⟨⟨.none, vOk_dp .non (dk _ (by decide +kernel) (by decide +kernel) (by decide +kernel) (by decide +kernel) (by decide +kernel)) rfl⟩, .inr (.inr ⟨fun i e => (nomatch e), _, .base .non, kit_ty (by decide +kernel)⟩), rfl, rfl⟩
          · exact ⟨⟨.bool true, vOk_dp (.bl _) (dk _ (by decide +kernel) (by decide +kernel) (by decide +kernel) (by decide +kernel) (by decide +kernel)) rfl⟩, .inr (.inl ⟨_, rfl⟩), rfl, rfl⟩
          · exact ⟨⟨.bool false, vOk_dp (.bl _) (dk _ (by decide +kernel) (by decide +kernel) (by decide +kernel) (by decide +kernel) (by decide +kernel)) rfl⟩, .inr (.inl ⟨_, rfl⟩), rfl, rfl⟩
          · exact ⟨⟨.str "7", vOk_dp (.str _) (dk _ (by decide +kernel) (by decide +kernel) (by decide +kernel) (by decide +kernel) (by decide +kernel)) rfl⟩, .inr (.inr ⟨fun i e => (nomatch e), _, .base (.str _), kit_ty (by decide +kernel)⟩), rfl, rfl⟩
          · exact ⟨⟨.str "", vOk_dp (.str _) (dk _ (by decide +kernel) (by decide +kernel) (by decide +kernel) (by decide +kernel) (by decide +kernel)) rfl⟩, .inr (.inr ⟨fun i e => (nomatch e), _, .base (.str _), kit_ty (by decide +kernel)⟩), rfl, rfl⟩
          · exact ⟨⟨.tuple [.int 7], vOk_dp (.tup (.inl (.inl f1)) (.cons (.int 7) .nil)) (dk _ (by decide +kernel) (by decide +kernel) (by decide +kernel) (by decide +kernel) (by decide +kernel)) rfl⟩, .inr (.inr ⟨fun i e => (nomatch e), _, .base (.tup f1), kit_ty (by decide +kernel)⟩), rfl, rfl⟩
          · exact ⟨⟨.list [.int 7], vOk_dp (.lst (.inl (.inl f2)) (.cons (.int 7) .nil)) (dk _ (by decide +kernel) (by decide +kernel) (by decide +kernel) (by decide +kernel) (by decide +kernel)) rfl⟩, .inr (.inr ⟨fun i e => (nomatch e), _, .base (.lst f2), kit_ty (by decide +kernel)⟩), rfl, rfl⟩
          · exact ⟨⟨_, vOk_d7 f3⟩, .inr (.inr ⟨fun i e => (nomatch e), _, .base (.dK f3), kit_ty (by decide +kernel)⟩), rfl, rfl⟩
          · exact ⟨⟨.tuple [.tuple [], .tuple [.str "a"]], vOk_dp (.tup (.inl (.inl f6)) (.cons (.tup (.inl (.inl f4)) .nil) (.cons (.tup (.inl (.inl f5)) (.cons (.str _) .nil)) .nil))) (dk _ (by decide +kernel) (by decide +kernel) (by decide +kernel) (by decide +kernel) (by decide +kernel)) rfl⟩, .inr (.inr ⟨fun i e => (nomatch e), _, .base (.tup f6), kit_ty (by decide +kernel)⟩), rfl, rfl⟩
          · exact ⟨⟨.tuple [.str "put"], vOk_dp (.tup (.inl (.inl f7)) (.cons (.str _) .nil)) (dk _ (by decide +kernel) (by decide +kernel) (by decide +kernel) (by decide +kernel) (by decide +kernel)) rfl⟩, .inr (.inr ⟨fun i e => (nomatch e), _, .base (.tup f7), kit_ty (by decide +kernel)⟩), rfl, rfl⟩
        have lsome : someL.length = 10 := by rw [hsome]; rfl
        clear f1 f2 f3 f4 f5 f6 f7 hsome
        have hS8 := sqL_same2 sm8 hS3
        have sxh := sxh.trans (SameX.of sm8)
        clear hS3 hd3 sm8
        -- none of them is an integer
        refine ⟨_, rfl, _, rfl, ⟨_, .inl (.inl f8)⟩, fun D hD => ?_⟩
        have sD := same_at hD (Same.refl G8) (o := .lst [])
        have eD : upd G8 D (.lst []) D = some (.lst []) := upd_same
        refine lc_list (xs := someL) (fun j H5 => H5 = upd G8 D (.lst [])) rfl (fun j H5 _ e => by rw [e]; exact .inl (.inl (sD _ _ f8))) (fun j v H5 hv e => ?_) (fun H5 e => ?_)
        · subst e
          obtain ⟨_, ha', h1, h2⟩ := hvals _ (SameX.of sD) v (List.mem_of_getElem? hv)
          refine ⟨rfl, _, rfl, v, rfl, ha', _, _, rfl, rfl, _, rfl, ?_⟩
          rw [h1]
          refine ⟨_, rfl, v, rfl, ha', _, _, rfl, rfl, _, rfl, ?_⟩
          rw [h2]
          rfl
        subst e
        generalize upd G8 D (.lst []) = G9 at sD eD ⊢
        refine ⟨by show 0 ≤ sizeLine; decide, fun pe npe => ?_⟩
        have sE := same_at npe (Same.refl G9) (o := .lst [])
        refine ⟨.list [], .list [], .lst (.inl (.inl (sE _ _ eD))) .nil, .lst (.inl (.inl upd_same)) .nil, by decide +kernel, by decide +kernel, ?_⟩
        have ee : (!(PyData.list []).eqv (PyData.list [])) = false := by decide +kernel
        rw [ee]
        refine ⟨false, rfl, ?_⟩
        generalize upd G9 pe (.lst []) = GA at sE ⊢
        have sA := sD.trans sE
        have hSA := sqL_same2 sA hS8
        have f8A := sA _ _ f8
        have hdA : DiceAt GA d := by
          obtain ⟨x, b, e, h⟩ := hd8
          exact ⟨x, b, e, sA _ _ h⟩
        have hvA : ∀ G : Hp, SameX d GA G → ∀ v ∈ someL, ∃ dv, VOk K G v dv := fun G sx v hv => (hvals G ((SameX.of sA).trans sx) v hv).1
        have sxh := sxh.trans (SameX.of sA)
        clear hvals sD sE eD hD npe hS8 hd8 f8 sA
        have nda : d ≠ ls := fun e => by
          obtain ⟨x, b, e1, h⟩ := hdA
          rw [e, f8A] at h
          have := congrArg (fun o => match o with | some (HO.lst l) => l.length | _ => 0) h
          simp only at this
          rw [lsome] at this
          cases this
        -- the index
        refine ⟨_, rfl, _, rfl, _, _, rfl, rfl, ⟨by decide, by decide, by decide⟩, d, _, rfl, hdA, by decide +kernel, by decide +kernel, fun r x b e h0 h1 => ?_⟩
        have sx1 : SameX d GA (upd GA d (.lst [.int x, .int b, .int e])) := (SameX.refl d GA).atd
        have hd1 : DiceAt (upd GA d (.lst [.int x, .int b, .int e])) d := dice_new x b e
        generalize upd GA d (.lst [.int x, .int b, .int e]) = GB at sx1 hd1 ⊢
        refine ⟨by show 4 ≤ sizeLine; decide, fun pl npl => ?_⟩
        have npd := dice_ne hd1 npl
        refine ⟨d, .ref pl, [.non, .int 0, .int 1, .int r], rfl, dice_upd hd1 npd, .inl ⟨pl, rfl, npd, .inl (.inl (.inl upd_same))⟩, by simp, by show 4 ≤ 100000; decide, fun ix x2 b2 e2 hix => ?_⟩
        have hIx : ∃ dx, IOk ix dx := by
          have e20 : (10 : Int) ^ Int.toNat 20 < BIG := by decide +kernel
          have b0 : -BIG < 0 := by decide +kernel
          have b1 : (1 : Int) < BIG := by decide +kernel
          simp only [List.mem_cons, List.not_mem_nil, or_false] at hix
          rcases hix with rfl | rfl | rfl | rfl
          · exact ⟨_, iOk_non⟩
          · exact ⟨_, iOk_int b0 (by omega)⟩
          · exact ⟨_, iOk_int (by omega) b1⟩
          · exact ⟨_, iOk_int (by omega) (by omega)⟩
        obtain ⟨dx, hIx⟩ := hIx
        have sx2 : SameX d GA (upd (upd GB pl (.lst [.non, .int 0, .int 1, .int r])) d (.lst [.int x2, .int b2, .int e2])) := (sx1.new npl).atd
        have hd2 : DiceAt (upd (upd GB pl (.lst [.non, .int 0, .int 1, .int r])) d (.lst [.int x2, .int b2, .int e2])) d := dice_new _ _ _
        generalize upd (upd GB pl (.lst [.non, .int 0, .int 1, .int r])) d (.lst [.int x2, .int b2, .int e2]) = GC at sx2 hd2 ⊢
        clear hix sx1 hd1 npl npd h0 h1
        have nsl : someL ≠ [] := fun e => by rw [e] at lsome; cases lsome
        have pick : ∀ G : Hp, SameX d GA G → Items K G d (.ref ls) someL := fun G sx => .inl ⟨ls, rfl, nda.symm, .inl (.inl (.inl (sx _ _ nda.symm f8A)))⟩
        -- the values
        refine ⟨_, rfl, _, rfl, _, rfl, d, .ref ls, someL, rfl, hd2, pick GC sx2, nsl, by omega, fun v1 x3 b3 e3 hv1 => ?_⟩
        have sx3 : SameX d GA (upd GC d (.lst [.int x3, .int b3, .int e3])) := sx2.atd
        have hd3 : DiceAt (upd GC d (.lst [.int x3, .int b3, .int e3])) d := dice_new _ _ _
        generalize upd GC d (.lst [.int x3, .int b3, .int e3]) = GD at sx3 hd3 ⊢
        refine ⟨_, rfl, _, rfl, d, .ref ls, someL, rfl, hd3, pick GD sx3, nsl, by omega, fun v2 x4 b4 e4 hv2 => ?_⟩
        have sx4 : SameX d GA (upd GD d (.lst [.int x4, .int b4, .int e4])) := sx3.atd
        have hd4 : DiceAt (upd GD d (.lst [.int x4, .int b4, .int e4])) d := dice_new _ _ _
        generalize upd GD d (.lst [.int x4, .int b4, .int e4]) = GE at sx4 hd4 ⊢
        refine ⟨by show 3 ≤ sizeLine; decide, fun lv nlv => ?_⟩
        have sv := same_at nlv (Same.refl GE) (o := .lst [V.int n, v1, v2])
        have ev : upd GE lv (.lst [V.int n, v1, v2]) lv = some (.lst [V.int n, v1, v2]) := upd_same
        generalize upd GE lv (.lst [V.int n, v1, v2]) = GF at sv ev ⊢
        have sx5 : SameX d GA GF := sx4.trans (SameX.of sv)
        have hall : ∀ v ∈ [V.int n, v1, v2], ∃ dv, VOk K GF v dv := by
          intro v hv
          simp only [List.mem_cons, List.not_mem_nil, or_false] at hv
          rcases hv with rfl | rfl | rfl
          · exact ⟨_, vOk_dp (.int n) dn rfl⟩
          · exact hvA GF sx5 v hv1
          · exact hvA GF sx5 v hv2
        have hSF : SqL K GF a (ns.map V.int) := sqL_samex nd0 (sxh.trans sx5) hS0
        refine ⟨_, rfl, ⟨_, .inl (.inl ev)⟩, for_list (xs := [V.int n, v1, v2]) (fun j σ' H' => ∃ y7, σ' = [some (.ref a), some (.int (0 + (i : Int))), some (.ref d), some (.int n), some (.bl (intV (.int n))), some (.ref ls), some ix, y7] ∧ Same GF H') ⟨_, rfl, Same.refl GF⟩
          (fun j σ' H' _ hP => ?_) (fun j v σ' H' hv hP => ?_) (fun σ' H' hP => ?_)⟩
        · obtain ⟨_, _, s⟩ := hP
          exact .inl (.inl (s _ _ ev))
        · obtain ⟨y7, rfl, s⟩ := hP
          obtain ⟨dv, hv0⟩ := hall v (List.mem_of_getElem? hv)
          exact ⟨_, rfl, _, rfl, v, ix, dv, dx, rfl, valI_of (vOk_same s hv0) hIx, fun H' s' => ⟨_, rfl, _, rfl, s.trans s'⟩⟩
        · obtain ⟨y7, rfl, s⟩ := hP
          exact ⟨_, _, _, _, _, _, _, rfl, sqL_same2 s hSF⟩
    · have fin : ∀ (σ : L2.St) (H : Hp), σ = σ → Q (.bl true) H := fun _ H _ => q H
      refine ⟨rfl, _, rfl, _, rfl, .inl ⟨_, rfl⟩, _, _, rfl, rfl, ?_⟩
      rw [c0]
      refine ⟨_, rfl, _, _, rfl, rfl, ⟨by decide, by decide, by decide⟩, _, rfl, _, _, rfl, rfl, _, rfl, .inl ⟨_, rfl⟩, _, _, rfl, rfl, ?_⟩
      rw [cE]
      exact q _
end
end Kl

set_option maxRecDepth 100000
set_option maxHeartbeats 4000000
namespace Kl
open PySem PySem.Spec PyProof.Rows L2 Gx
/-! ### the end -/
/-- an own class of errors is caught by its own name -/
theorem exm_own {K : PySem.W.Frag} {S : Addr} (b : PySem.W.subIn K (.ref S) (.type "BaseException") = some true) (i : PySem.W.isClsIn K S = true) (t : PySem.W.typeIn K (.ref S) = some (.type "type")) (s : PySem.W.subIn K (.ref S) (.ref S) = some true) : PySem.W.exmOne K (.ref S) (.ref S) = some true := by
  have i' : (PySem.W.clsIn K S).isSome = true := i
  unfold PySem.W.exmOne PySem.W.kitCls
  simp [b, i', t, s]
theorem all_mk {l : PySem.W.OpenLaw} {w : World} {K : PySem.W.Frag} {h : Heap} {mg : Str → Option Value} {fa : Addr} (X : K.In h) (G : h.Ns mainGlobals mg) (hfa : mg "law" = some (.ref fa))
    {Ce0 fe0 : Addr} {ode0 ane0 : Option Addr} {sle0 : Array (Option Value)} {oce0 kVe0 dce0 pme0 cde0 cte0 : Value}
    {nme0 qne0 : Str} {Ne0 : Addr} {bse0 bme0 : List Value} {sne0 : List Str} {sube0 : List Value} {abe0 : Bool} {cole0 : Option Bool} {dde0 : Option Addr} {k0e0 k1e0 k2e0 k3e0 k5e0 : Option Value}
    {Ce1 fe1 : Addr} {ode1 ane1 : Option Addr} {sle1 : Array (Option Value)} {oce1 kVe1 dce1 pme1 cde1 cte1 : Value}
    {nme1 qne1 : Str} {Ne1 : Addr} {bse1 bme1 : List Value} {sne1 : List Str} {sube1 : List Value} {abe1 : Bool} {cole1 : Option Bool} {dde1 : Option Addr} {k0e1 k1e1 k2e1 k3e1 k5e1 : Option Value}
    {Ce2 fe2 : Addr} {ode2 ane2 : Option Addr} {sle2 : Array (Option Value)} {oce2 kVe2 dce2 pme2 cde2 cte2 : Value}
    {nme2 qne2 : Str} {Ne2 : Addr} {bse2 bme2 : List Value} {sne2 : List Str} {sube2 : List Value} {abe2 : Bool} {cole2 : Option Bool} {dde2 : Option Addr} {k0e2 k1e2 k2e2 k3e2 k5e2 : Option Value}
    {Ce3 fe3 : Addr} {ode3 ane3 : Option Addr} {sle3 : Array (Option Value)} {oce3 kVe3 dce3 pme3 cde3 cte3 : Value}
    {nme3 qne3 : Str} {Ne3 : Addr} {bse3 bme3 : List Value} {sne3 : List Str} {sube3 : List Value} {abe3 : Bool} {cole3 : Option Bool} {dde3 : Option Addr} {k0e3 k1e3 k2e3 k3e3 k5e3 : Option Value}
    {Ce4 fe4 : Addr} {ode4 ane4 : Option Addr} {sle4 : Array (Option Value)} {oce4 kVe4 dce4 pme4 cde4 cte4 : Value}
    {nme4 qne4 : Str} {Ne4 : Addr} {bse4 bme4 : List Value} {sne4 : List Str} {sube4 : List Value} {abe4 : Bool} {cole4 : Option Bool} {dde4 : Option Addr} {k0e4 k1e4 k2e4 k3e4 k5e4 : Option Value}
    {Ce5 fe5 : Addr} {ode5 ane5 : Option Addr} {sle5 : Array (Option Value)} {oce5 kVe5 dce5 pme5 cde5 cte5 : Value}
    {nme5 qne5 : Str} {Ne5 : Addr} {bse5 bme5 : List Value} {sne5 : List Str} {sube5 : List Value} {abe5 : Bool} {cole5 : Option Bool} {dde5 : Option Addr} {k0e5 k1e5 k2e5 k3e5 k5e5 : Option Value}
    {Ce6 fe6 : Addr} {ode6 ane6 : Option Addr} {sle6 : Array (Option Value)} {oce6 kVe6 dce6 pme6 cde6 cte6 : Value}
    {nme6 qne6 : Str} {Ne6 : Addr} {bse6 bme6 : List Value} {sne6 : List Str} {sube6 : List Value} {abe6 : Bool} {cole6 : Option Bool} {dde6 : Option Addr} {k0e6 k1e6 k2e6 k3e6 k5e6 : Option Value}
    {Ce7 fe7 : Addr} {ode7 ane7 : Option Addr} {sle7 : Array (Option Value)} {oce7 kVe7 dce7 pme7 cde7 cte7 : Value}
    {nme7 qne7 : Str} {Ne7 : Addr} {bse7 bme7 : List Value} {sne7 : List Str} {sube7 : List Value} {abe7 : Bool} {cole7 : Option Bool} {dde7 : Option Addr} {k0e7 k1e7 k2e7 k3e7 k5e7 : Option Value}
    {Ce8 fe8 : Addr} {ode8 ane8 : Option Addr} {sle8 : Array (Option Value)} {oce8 kVe8 dce8 pme8 cde8 cte8 : Value}
    {nme8 qne8 : Str} {Ne8 : Addr} {bse8 bme8 : List Value} {sne8 : List Str} {sube8 : List Value} {abe8 : Bool} {cole8 : Option Bool} {dde8 : Option Addr} {k0e8 k1e8 k2e8 k3e8 k5e8 : Option Value}
    {Cp0 : Addr} {nmp0 qnp0 : Str} {Np0 : Addr} {bsp0 bmp0 : List Value} {hdp0 : Bool} {snp0 : List Str} {subp0 : List Value} {abp0 : Bool} {colp0 : Option Bool} {ddp0 : Option Addr} {k0p0 k1p0 k2p0 k3p0 k5p0 : Option Value}
    {Cp1 : Addr} {nmp1 qnp1 : Str} {Np1 : Addr} {bsp1 bmp1 : List Value} {hdp1 : Bool} {snp1 : List Str} {subp1 : List Value} {abp1 : Bool} {colp1 : Option Bool} {ddp1 : Option Addr} {k0p1 k1p1 k2p1 k3p1 k5p1 : Option Value}
    {Cp2 : Addr} {nmp2 qnp2 : Str} {Np2 : Addr} {bsp2 bmp2 : List Value} {hdp2 : Bool} {snp2 : List Str} {subp2 : List Value} {abp2 : Bool} {colp2 : Option Bool} {ddp2 : Option Addr} {k0p2 k1p2 k2p2 k3p2 k5p2 : Option Value}
    {Cp3 : Addr} {nmp3 qnp3 : Str} {Np3 : Addr} {bsp3 bmp3 : List Value} {hdp3 : Bool} {snp3 : List Str} {subp3 : List Value} {abp3 : Bool} {colp3 : Option Bool} {ddp3 : Option Addr} {k0p3 k1p3 k2p3 k3p3 k5p3 : Option Value}
    {Cp4 : Addr} {nmp4 qnp4 : Str} {Np4 : Addr} {bsp4 bmp4 : List Value} {hdp4 : Bool} {snp4 : List Str} {subp4 : List Value} {abp4 : Bool} {colp4 : Option Bool} {ddp4 : Option Addr} {k0p4 k1p4 k2p4 k3p4 k5p4 : Option Value}
    {Cp5 : Addr} {nmp5 qnp5 : Str} {Np5 : Addr} {bsp5 bmp5 : List Value} {hdp5 : Bool} {snp5 : List Str} {subp5 : List Value} {abp5 : Bool} {colp5 : Option Bool} {ddp5 : Option Addr} {k0p5 k1p5 k2p5 k3p5 k5p5 : Option Value}
    {Cp6 : Addr} {nmp6 qnp6 : Str} {Np6 : Addr} {bsp6 bmp6 : List Value} {hdp6 : Bool} {snp6 : List Str} {subp6 : List Value} {abp6 : Bool} {colp6 : Option Bool} {ddp6 : Option Addr} {k0p6 k1p6 k2p6 k3p6 k5p6 : Option Value}
    {Cp7 : Addr} {nmp7 qnp7 : Str} {Np7 : Addr} {bsp7 bmp7 : List Value} {hdp7 : Bool} {snp7 : List Str} {subp7 : List Value} {abp7 : Bool} {colp7 : Option Bool} {ddp7 : Option Addr} {k0p7 k1p7 k2p7 k3p7 k5p7 : Option Value}
    {Cp8 : Addr} {nmp8 qnp8 : Str} {Np8 : Addr} {bsp8 bmp8 : List Value} {hdp8 : Bool} {snp8 : List Str} {subp8 : List Value} {abp8 : Bool} {colp8 : Option Bool} {ddp8 : Option Addr} {k0p8 k1p8 k2p8 k3p8 k5p8 : Option Value}
    {Cp9 : Addr} {nmp9 qnp9 : Str} {Np9 : Addr} {bsp9 bmp9 : List Value} {hdp9 : Bool} {snp9 : List Str} {subp9 : List Value} {abp9 : Bool} {colp9 : Option Bool} {ddp9 : Option Addr} {k0p9 k1p9 k2p9 k3p9 k5p9 : Option Value}
    {Cp10 : Addr} {nmp10 qnp10 : Str} {Np10 : Addr} {bsp10 bmp10 : List Value} {hdp10 : Bool} {snp10 : List Str} {subp10 : List Value} {abp10 : Bool} {colp10 : Option Bool} {ddp10 : Option Addr} {k0p10 k1p10 k2p10 k3p10 k5p10 : Option Value}
    {f0 : Addr} {od0 an0 : Option Addr} {sl0 : Array (Option Value)} {oc0 kV0 dc0 pm0 cd0 ct0 : Value}
    {f1 : Addr} {od1 an1 : Option Addr} {sl1 : Array (Option Value)} {oc1 kV1 dc1 pm1 cd1 ct1 : Value}
    {f2 : Addr} {od2 an2 : Option Addr} {sl2 : Array (Option Value)} {oc2 kV2 dc2 pm2 cd2 ct2 : Value}
    {f3 : Addr} {od3 an3 : Option Addr} {sl3 : Array (Option Value)} {oc3 kV3 dc3 pm3 cd3 ct3 : Value}
    {f4 : Addr} {od4 an4 : Option Addr} {sl4 : Array (Option Value)} {oc4 kV4 dc4 pm4 cd4 ct4 : Value}
    {f5 : Addr} {od5 an5 : Option Addr} {sl5 : Array (Option Value)} {oc5 kV5 dc5 pm5 cd5 ct5 : Value}
    {f6 : Addr} {od6 an6 : Option Addr} {sl6 : Array (Option Value)} {oc6 kV6 dc6 pm6 cd6 ct6 : Value}
    {f7 : Addr} {od7 an7 : Option Addr} {sl7 : Array (Option Value)} {oc7 kV7 dc7 pm7 cd7 ct7 : Value}
    {f8 : Addr} {od8 an8 : Option Addr} {sl8 : Array (Option Value)} {oc8 kV8 dc8 pm8 cd8 ct8 : Value}
    {f9 : Addr} {od9 an9 : Option Addr} {sl9 : Array (Option Value)} {oc9 kV9 dc9 pm9 cd9 ct9 : Value}
    {f10 : Addr} {od10 an10 : Option Addr} {sl10 : Array (Option Value)} {oc10 kV10 dc10 pm10 cd10 ct10 : Value}
    {f11 : Addr} {od11 an11 : Option Addr} {sl11 : Array (Option Value)} {oc11 kV11 dc11 pm11 cd11 ct11 : Value}
    {f12 : Addr} {od12 an12 : Option Addr} {sl12 : Array (Option Value)} {oc12 kV12 dc12 pm12 cd12 ct12 : Value}
    {t0 : Tok}
    {t1 : Tok}
    (ge0 : PySem.W.nsIn K mainGlobals "ParseError" = some (some (.ref Ce0))) (he0 : K.lookup Ce0 = some (excClassObj nme0 qne0 Ce0 Ne0 bse0 bme0 true sne0 sube0 abe0 cole0 dde0 k0e0 k1e0 k2e0 k3e0 k5e0 "ValueError.__new__")) (te0 : PySem.W.excTail [.type "ValueError", .type "Exception", .type "BaseException", .type "object"] bme0 = true) (oe0 : PySem.W.excOver K Ce0 [.type "ValueError", .type "Exception", .type "BaseException", .type "object"] = true) (qe0 : PySem.W.takerIn K Ce0 "number" = some none) (de0 : PySem.W.hasDictIn K Ce0 = true) (se0 : PySem.W.findIn K (.ref Ce0) "__setattr__" = some (some (.builtin "object.__setattr__"))) (ue0 : PySem.W.findIn K (.ref Ce0) "__getattribute__" = some (some (.builtin "BaseException.__getattribute__"))) (ve0 : PySem.W.findIn K (.ref Ce0) "__getattr__" = some none) (ne0 : PySem.W.findIn K (.ref Ce0) "number" = some none) (ie0 : PySem.W.findIn K (.ref Ce0) "__init__" = some (some (.ref fe0))) (ye0 : PySem.W.typeIn K (.ref fe0) = some (.type "function")) (ke0 : PySem.W.keepIn K (.ref Ce0) = true) (be0 : PySem.W.subIn K (.ref Ce0) (.type "BaseException") = some true) (we0 : PySem.W.typeIn K (.ref Ce0) = some (.type "type")) (xe0 : PySem.W.isClsIn K Ce0 = true) (re0 : PySem.W.subIn K (.ref Ce0) (.ref Ce0) = some true) (le0 : K.lookup fe0 = some ⟨oce0, ode0, .func (PySem.W.fnOf "__init__" "ParseError.__init__" (defArgs s_ParseError_init) (defBody s_ParseError_init) (defScope s_ParseError_init) .none kVe0 dce0 pme0 ane0 cde0 cte0), sle0⟩) (ce0 : PySem.W.codeIn K cde0 "ParseError.__init__" = true) (pe0 : PySem.W.keepIn K (.ref fe0) = true)
    (ge1 : PySem.W.nsIn K mainGlobals "UnknownName" = some (some (.ref Ce1))) (he1 : K.lookup Ce1 = some (excClassObj nme1 qne1 Ce1 Ne1 bse1 bme1 true sne1 sube1 abe1 cole1 dde1 k0e1 k1e1 k2e1 k3e1 k5e1 "LookupError.__new__")) (te1 : PySem.W.excTail [.type "KeyError", .type "LookupError", .type "Exception", .type "BaseException", .type "object"] bme1 = true) (oe1 : PySem.W.excOver K Ce1 [.type "KeyError", .type "LookupError", .type "Exception", .type "BaseException", .type "object"] = true) (qe1 : PySem.W.takerIn K Ce1 "word" = some none) (de1 : PySem.W.hasDictIn K Ce1 = true) (se1 : PySem.W.findIn K (.ref Ce1) "__setattr__" = some (some (.builtin "object.__setattr__"))) (ue1 : PySem.W.findIn K (.ref Ce1) "__getattribute__" = some (some (.builtin "BaseException.__getattribute__"))) (ve1 : PySem.W.findIn K (.ref Ce1) "__getattr__" = some none) (ne1 : PySem.W.findIn K (.ref Ce1) "word" = some none) (ie1 : PySem.W.findIn K (.ref Ce1) "__init__" = some (some (.ref fe1))) (ye1 : PySem.W.typeIn K (.ref fe1) = some (.type "function")) (ke1 : PySem.W.keepIn K (.ref Ce1) = true) (be1 : PySem.W.subIn K (.ref Ce1) (.type "BaseException") = some true) (we1 : PySem.W.typeIn K (.ref Ce1) = some (.type "type")) (xe1 : PySem.W.isClsIn K Ce1 = true) (re1 : PySem.W.subIn K (.ref Ce1) (.ref Ce1) = some true) (le1 : K.lookup fe1 = some ⟨oce1, ode1, .func (PySem.W.fnOf "__init__" "UnknownName.__init__" (defArgs s_UnknownName_init) (defBody s_UnknownName_init) (defScope s_UnknownName_init) .none kVe1 dce1 pme1 ane1 cde1 cte1), sle1⟩) (ce1 : PySem.W.codeIn K cde1 "UnknownName.__init__" = true) (pe1 : PySem.W.keepIn K (.ref fe1) = true)
    (ge2 : PySem.W.nsIn K mainGlobals "AbsentKey" = some (some (.ref Ce2))) (he2 : K.lookup Ce2 = some (excClassObj nme2 qne2 Ce2 Ne2 bse2 bme2 true sne2 sube2 abe2 cole2 dde2 k0e2 k1e2 k2e2 k3e2 k5e2 "LookupError.__new__")) (te2 : PySem.W.excTail [.type "KeyError", .type "LookupError", .type "Exception", .type "BaseException", .type "object"] bme2 = true) (oe2 : PySem.W.excOver K Ce2 [.type "KeyError", .type "LookupError", .type "Exception", .type "BaseException", .type "object"] = true) (qe2 : PySem.W.takerIn K Ce2 "absent" = some none) (de2 : PySem.W.hasDictIn K Ce2 = true) (se2 : PySem.W.findIn K (.ref Ce2) "__setattr__" = some (some (.builtin "object.__setattr__"))) (ue2 : PySem.W.findIn K (.ref Ce2) "__getattribute__" = some (some (.builtin "BaseException.__getattribute__"))) (ve2 : PySem.W.findIn K (.ref Ce2) "__getattr__" = some none) (ne2 : PySem.W.findIn K (.ref Ce2) "absent" = some none) (ie2 : PySem.W.findIn K (.ref Ce2) "__init__" = some (some (.ref fe2))) (ye2 : PySem.W.typeIn K (.ref fe2) = some (.type "function")) (ke2 : PySem.W.keepIn K (.ref Ce2) = true) (be2 : PySem.W.subIn K (.ref Ce2) (.type "BaseException") = some true) (we2 : PySem.W.typeIn K (.ref Ce2) = some (.type "type")) (xe2 : PySem.W.isClsIn K Ce2 = true) (re2 : PySem.W.subIn K (.ref Ce2) (.ref Ce2) = some true) (le2 : K.lookup fe2 = some ⟨oce2, ode2, .func (PySem.W.fnOf "__init__" "AbsentKey.__init__" (defArgs s_AbsentKey_init) (defBody s_AbsentKey_init) (defScope s_AbsentKey_init) .none kVe2 dce2 pme2 ane2 cde2 cte2), sle2⟩) (ce2 : PySem.W.codeIn K cde2 "AbsentKey.__init__" = true) (pe2 : PySem.W.keepIn K (.ref fe2) = true)
    (ge3 : PySem.W.nsIn K mainGlobals "EmptyHeap" = some (some (.ref Ce3))) (he3 : K.lookup Ce3 = some (excClassObj nme3 qne3 Ce3 Ne3 bse3 bme3 true sne3 sube3 abe3 cole3 dde3 k0e3 k1e3 k2e3 k3e3 k5e3 "LookupError.__new__")) (te3 : PySem.W.excTail [.type "LookupError", .type "Exception", .type "BaseException", .type "object"] bme3 = true) (oe3 : PySem.W.excOver K Ce3 [.type "LookupError", .type "Exception", .type "BaseException", .type "object"] = true) (qe3 : PySem.W.takerIn K Ce3 "deed" = some none) (de3 : PySem.W.hasDictIn K Ce3 = true) (se3 : PySem.W.findIn K (.ref Ce3) "__setattr__" = some (some (.builtin "object.__setattr__"))) (ue3 : PySem.W.findIn K (.ref Ce3) "__getattribute__" = some (some (.builtin "BaseException.__getattribute__"))) (ve3 : PySem.W.findIn K (.ref Ce3) "__getattr__" = some none) (ne3 : PySem.W.findIn K (.ref Ce3) "deed" = some none) (ie3 : PySem.W.findIn K (.ref Ce3) "__init__" = some (some (.ref fe3))) (ye3 : PySem.W.typeIn K (.ref fe3) = some (.type "function")) (ke3 : PySem.W.keepIn K (.ref Ce3) = true) (be3 : PySem.W.subIn K (.ref Ce3) (.type "BaseException") = some true) (we3 : PySem.W.typeIn K (.ref Ce3) = some (.type "type")) (xe3 : PySem.W.isClsIn K Ce3 = true) (re3 : PySem.W.subIn K (.ref Ce3) (.ref Ce3) = some true) (le3 : K.lookup fe3 = some ⟨oce3, ode3, .func (PySem.W.fnOf "__init__" "EmptyHeap.__init__" (defArgs s_EmptyHeap_init) (defBody s_EmptyHeap_init) (defScope s_EmptyHeap_init) .none kVe3 dce3 pme3 ane3 cde3 cte3), sle3⟩) (ce3 : PySem.W.codeIn K cde3 "EmptyHeap.__init__" = true) (pe3 : PySem.W.keepIn K (.ref fe3) = true)
    (ge4 : PySem.W.nsIn K mainGlobals "InvalidNumber" = some (some (.ref Ce4))) (he4 : K.lookup Ce4 = some (excClassObj nme4 qne4 Ce4 Ne4 bse4 bme4 true sne4 sube4 abe4 cole4 dde4 k0e4 k1e4 k2e4 k3e4 k5e4 "IndexError.__new__")) (te4 : PySem.W.excTail [.type "IndexError", .type "LookupError", .type "Exception", .type "BaseException", .type "object"] bme4 = true) (oe4 : PySem.W.excOver K Ce4 [.type "IndexError", .type "LookupError", .type "Exception", .type "BaseException", .type "object"] = true) (qe4 : PySem.W.takerIn K Ce4 "value" = some none) (de4 : PySem.W.hasDictIn K Ce4 = true) (se4 : PySem.W.findIn K (.ref Ce4) "__setattr__" = some (some (.builtin "object.__setattr__"))) (ue4 : PySem.W.findIn K (.ref Ce4) "__getattribute__" = some (some (.builtin "BaseException.__getattribute__"))) (ve4 : PySem.W.findIn K (.ref Ce4) "__getattr__" = some none) (ne4 : PySem.W.findIn K (.ref Ce4) "value" = some none) (ie4 : PySem.W.findIn K (.ref Ce4) "__init__" = some (some (.ref fe4))) (ye4 : PySem.W.typeIn K (.ref fe4) = some (.type "function")) (ke4 : PySem.W.keepIn K (.ref Ce4) = true) (be4 : PySem.W.subIn K (.ref Ce4) (.type "BaseException") = some true) (we4 : PySem.W.typeIn K (.ref Ce4) = some (.type "type")) (xe4 : PySem.W.isClsIn K Ce4 = true) (re4 : PySem.W.subIn K (.ref Ce4) (.ref Ce4) = some true) (le4 : K.lookup fe4 = some ⟨oce4, ode4, .func (PySem.W.fnOf "__init__" "InvalidNumber.__init__" (defArgs s_InvalidNumber_init) (defBody s_InvalidNumber_init) (defScope s_InvalidNumber_init) .none kVe4 dce4 pme4 ane4 cde4 cte4), sle4⟩) (ce4 : PySem.W.codeIn K cde4 "InvalidNumber.__init__" = true) (pe4 : PySem.W.keepIn K (.ref fe4) = true)
    (ge5 : PySem.W.nsIn K mainGlobals "NothingToUndo" = some (some (.ref Ce5))) (he5 : K.lookup Ce5 = some (excClassObj nme5 qne5 Ce5 Ne5 bse5 bme5 true sne5 sube5 abe5 cole5 dde5 k0e5 k1e5 k2e5 k3e5 k5e5 "RuntimeError.__new__")) (te5 : PySem.W.excTail [.type "RuntimeError", .type "Exception", .type "BaseException", .type "object"] bme5 = true) (oe5 : PySem.W.excOver K Ce5 [.type "RuntimeError", .type "Exception", .type "BaseException", .type "object"] = true) (qe5 : PySem.W.takerIn K Ce5 "many" = some none) (de5 : PySem.W.hasDictIn K Ce5 = true) (se5 : PySem.W.findIn K (.ref Ce5) "__setattr__" = some (some (.builtin "object.__setattr__"))) (ue5 : PySem.W.findIn K (.ref Ce5) "__getattribute__" = some (some (.builtin "BaseException.__getattribute__"))) (ve5 : PySem.W.findIn K (.ref Ce5) "__getattr__" = some none) (ne5 : PySem.W.findIn K (.ref Ce5) "many" = some none) (ie5 : PySem.W.findIn K (.ref Ce5) "__init__" = some (some (.ref fe5))) (ye5 : PySem.W.typeIn K (.ref fe5) = some (.type "function")) (ke5 : PySem.W.keepIn K (.ref Ce5) = true) (be5 : PySem.W.subIn K (.ref Ce5) (.type "BaseException") = some true) (we5 : PySem.W.typeIn K (.ref Ce5) = some (.type "type")) (xe5 : PySem.W.isClsIn K Ce5 = true) (re5 : PySem.W.subIn K (.ref Ce5) (.ref Ce5) = some true) (le5 : K.lookup fe5 = some ⟨oce5, ode5, .func (PySem.W.fnOf "__init__" "NothingToUndo.__init__" (defArgs s_NothingToUndo_init) (defBody s_NothingToUndo_init) (defScope s_NothingToUndo_init) .none kVe5 dce5 pme5 ane5 cde5 cte5), sle5⟩) (ce5 : PySem.W.codeIn K cde5 "NothingToUndo.__init__" = true) (pe5 : PySem.W.keepIn K (.ref fe5) = true)
    (ge6 : PySem.W.nsIn K mainGlobals "TooMany" = some (some (.ref Ce6))) (he6 : K.lookup Ce6 = some (excClassObj nme6 qne6 Ce6 Ne6 bse6 bme6 true sne6 sube6 abe6 cole6 dde6 k0e6 k1e6 k2e6 k3e6 k5e6 "OverflowError.__new__")) (te6 : PySem.W.excTail [.type "OverflowError", .type "ArithmeticError", .type "Exception", .type "BaseException", .type "object"] bme6 = true) (oe6 : PySem.W.excOver K Ce6 [.type "OverflowError", .type "ArithmeticError", .type "Exception", .type "BaseException", .type "object"] = true) (qe6 : PySem.W.takerIn K Ce6 "limit" = some none) (de6 : PySem.W.hasDictIn K Ce6 = true) (se6 : PySem.W.findIn K (.ref Ce6) "__setattr__" = some (some (.builtin "object.__setattr__"))) (ue6 : PySem.W.findIn K (.ref Ce6) "__getattribute__" = some (some (.builtin "BaseException.__getattribute__"))) (ve6 : PySem.W.findIn K (.ref Ce6) "__getattr__" = some none) (ne6 : PySem.W.findIn K (.ref Ce6) "limit" = some none) (ie6 : PySem.W.findIn K (.ref Ce6) "__init__" = some (some (.ref fe6))) (ye6 : PySem.W.typeIn K (.ref fe6) = some (.type "function")) (ke6 : PySem.W.keepIn K (.ref Ce6) = true) (be6 : PySem.W.subIn K (.ref Ce6) (.type "BaseException") = some true) (we6 : PySem.W.typeIn K (.ref Ce6) = some (.type "type")) (xe6 : PySem.W.isClsIn K Ce6 = true) (re6 : PySem.W.subIn K (.ref Ce6) (.ref Ce6) = some true) (le6 : K.lookup fe6 = some ⟨oce6, ode6, .func (PySem.W.fnOf "__init__" "TooMany.__init__" (defArgs s_TooMany_init) (defBody s_TooMany_init) (defScope s_TooMany_init) .none kVe6 dce6 pme6 ane6 cde6 cte6), sle6⟩) (ce6 : PySem.W.codeIn K cde6 "TooMany.__init__" = true) (pe6 : PySem.W.keepIn K (.ref fe6) = true)
    (ge7 : PySem.W.nsIn K mainGlobals "Refused" = some (some (.ref Ce7))) (he7 : K.lookup Ce7 = some (excClassObj nme7 qne7 Ce7 Ne7 bse7 bme7 true sne7 sube7 abe7 cole7 dde7 k0e7 k1e7 k2e7 k3e7 k5e7 "ArithmeticError.__new__")) (te7 : PySem.W.excTail [.type "ArithmeticError", .type "Exception", .type "BaseException", .type "object"] bme7 = true) (oe7 : PySem.W.excOver K Ce7 [.type "ArithmeticError", .type "Exception", .type "BaseException", .type "object"] = true) (qe7 : PySem.W.takerIn K Ce7 "pledge" = some none) (de7 : PySem.W.hasDictIn K Ce7 = true) (se7 : PySem.W.findIn K (.ref Ce7) "__setattr__" = some (some (.builtin "object.__setattr__"))) (ue7 : PySem.W.findIn K (.ref Ce7) "__getattribute__" = some (some (.builtin "BaseException.__getattribute__"))) (ve7 : PySem.W.findIn K (.ref Ce7) "__getattr__" = some none) (ne7 : PySem.W.findIn K (.ref Ce7) "pledge" = some none) (ie7 : PySem.W.findIn K (.ref Ce7) "__init__" = some (some (.ref fe7))) (ye7 : PySem.W.typeIn K (.ref fe7) = some (.type "function")) (ke7 : PySem.W.keepIn K (.ref Ce7) = true) (be7 : PySem.W.subIn K (.ref Ce7) (.type "BaseException") = some true) (we7 : PySem.W.typeIn K (.ref Ce7) = some (.type "type")) (xe7 : PySem.W.isClsIn K Ce7 = true) (re7 : PySem.W.subIn K (.ref Ce7) (.ref Ce7) = some true) (le7 : K.lookup fe7 = some ⟨oce7, ode7, .func (PySem.W.fnOf "__init__" "Refused.__init__" (defArgs s_Refused_init) (defBody s_Refused_init) (defScope s_Refused_init) .none kVe7 dce7 pme7 ane7 cde7 cte7), sle7⟩) (ce7 : PySem.W.codeIn K cde7 "Refused.__init__" = true) (pe7 : PySem.W.keepIn K (.ref fe7) = true)
    (ge8 : PySem.W.nsIn K mainGlobals "Spoilt" = some (some (.ref Ce8))) (he8 : K.lookup Ce8 = some (excClassObj nme8 qne8 Ce8 Ne8 bse8 bme8 true sne8 sube8 abe8 cole8 dde8 k0e8 k1e8 k2e8 k3e8 k5e8 "ArithmeticError.__new__")) (te8 : PySem.W.excTail [.type "ArithmeticError", .type "Exception", .type "BaseException", .type "object"] bme8 = true) (oe8 : PySem.W.excOver K Ce8 [.type "ArithmeticError", .type "Exception", .type "BaseException", .type "object"] = true) (qe8 : PySem.W.takerIn K Ce8 "row" = some none) (de8 : PySem.W.hasDictIn K Ce8 = true) (se8 : PySem.W.findIn K (.ref Ce8) "__setattr__" = some (some (.builtin "object.__setattr__"))) (ue8 : PySem.W.findIn K (.ref Ce8) "__getattribute__" = some (some (.builtin "BaseException.__getattribute__"))) (ve8 : PySem.W.findIn K (.ref Ce8) "__getattr__" = some none) (ne8 : PySem.W.findIn K (.ref Ce8) "row" = some none) (ie8 : PySem.W.findIn K (.ref Ce8) "__init__" = some (some (.ref fe8))) (ye8 : PySem.W.typeIn K (.ref fe8) = some (.type "function")) (ke8 : PySem.W.keepIn K (.ref Ce8) = true) (be8 : PySem.W.subIn K (.ref Ce8) (.type "BaseException") = some true) (we8 : PySem.W.typeIn K (.ref Ce8) = some (.type "type")) (xe8 : PySem.W.isClsIn K Ce8 = true) (re8 : PySem.W.subIn K (.ref Ce8) (.ref Ce8) = some true) (le8 : K.lookup fe8 = some ⟨oce8, ode8, .func (PySem.W.fnOf "__init__" "Spoilt.__init__" (defArgs s_Spoilt_init) (defBody s_Spoilt_init) (defScope s_Spoilt_init) .none kVe8 dce8 pme8 ane8 cde8 cte8), sle8⟩) (ce8 : PySem.W.codeIn K cde8 "Spoilt.__init__" = true) (pe8 : PySem.W.keepIn K (.ref fe8) = true)
    (gp0 : PySem.W.nsIn K mainGlobals "LinkError" = some (some (.ref Cp0))) (hp0 : K.lookup Cp0 = some (excClassObj nmp0 qnp0 Cp0 Np0 bsp0 bmp0 hdp0 snp0 subp0 abp0 colp0 ddp0 k0p0 k1p0 k2p0 k3p0 k5p0 "ValueError.__new__")) (tp0 : PySem.W.excTail [.type "ValueError", .type "Exception", .type "BaseException", .type "object"] bmp0 = true) (ip0 : PySem.W.findIn K (.ref Cp0) "__init__" = some (some (.builtin "ValueError.__init__"))) (kp0 : PySem.W.keepIn K (.ref Cp0) = true)
    (gp1 : PySem.W.nsIn K mainGlobals "InvalidKinds" = some (some (.ref Cp1))) (hp1 : K.lookup Cp1 = some (excClassObj nmp1 qnp1 Cp1 Np1 bsp1 bmp1 hdp1 snp1 subp1 abp1 colp1 ddp1 k0p1 k1p1 k2p1 k3p1 k5p1 "ValueError.__new__")) (tp1 : PySem.W.excTail [.type "ValueError", .type "Exception", .type "BaseException", .type "object"] bmp1 = true) (ip1 : PySem.W.findIn K (.ref Cp1) "__init__" = some (some (.builtin "ValueError.__init__"))) (kp1 : PySem.W.keepIn K (.ref Cp1) = true)
    (gp2 : PySem.W.nsIn K mainGlobals "InvalidRow" = some (some (.ref Cp2))) (hp2 : K.lookup Cp2 = some (excClassObj nmp2 qnp2 Cp2 Np2 bsp2 bmp2 hdp2 snp2 subp2 abp2 colp2 ddp2 k0p2 k1p2 k2p2 k3p2 k5p2 "ValueError.__new__")) (tp2 : PySem.W.excTail [.type "ValueError", .type "Exception", .type "BaseException", .type "object"] bmp2 = true) (ip2 : PySem.W.findIn K (.ref Cp2) "__init__" = some (some (.builtin "ValueError.__init__"))) (kp2 : PySem.W.keepIn K (.ref Cp2) = true)
    (gp3 : PySem.W.nsIn K mainGlobals "InvalidReader" = some (some (.ref Cp3))) (hp3 : K.lookup Cp3 = some (excClassObj nmp3 qnp3 Cp3 Np3 bsp3 bmp3 hdp3 snp3 subp3 abp3 colp3 ddp3 k0p3 k1p3 k2p3 k3p3 k5p3 "ValueError.__new__")) (tp3 : PySem.W.excTail [.type "ValueError", .type "Exception", .type "BaseException", .type "object"] bmp3 = true) (ip3 : PySem.W.findIn K (.ref Cp3) "__init__" = some (some (.builtin "ValueError.__init__"))) (kp3 : PySem.W.keepIn K (.ref Cp3) = true)
    (gp4 : PySem.W.nsIn K mainGlobals "InvalidPage" = some (some (.ref Cp4))) (hp4 : K.lookup Cp4 = some (excClassObj nmp4 qnp4 Cp4 Np4 bsp4 bmp4 hdp4 snp4 subp4 abp4 colp4 ddp4 k0p4 k1p4 k2p4 k3p4 k5p4 "ValueError.__new__")) (tp4 : PySem.W.excTail [.type "ValueError", .type "Exception", .type "BaseException", .type "object"] bmp4 = true) (ip4 : PySem.W.findIn K (.ref Cp4) "__init__" = some (some (.builtin "ValueError.__init__"))) (kp4 : PySem.W.keepIn K (.ref Cp4) = true)
    (gp5 : PySem.W.nsIn K mainGlobals "InvalidBook" = some (some (.ref Cp5))) (hp5 : K.lookup Cp5 = some (excClassObj nmp5 qnp5 Cp5 Np5 bsp5 bmp5 hdp5 snp5 subp5 abp5 colp5 ddp5 k0p5 k1p5 k2p5 k3p5 k5p5 "ValueError.__new__")) (tp5 : PySem.W.excTail [.type "ValueError", .type "Exception", .type "BaseException", .type "object"] bmp5 = true) (ip5 : PySem.W.findIn K (.ref Cp5) "__init__" = some (some (.builtin "ValueError.__init__"))) (kp5 : PySem.W.keepIn K (.ref Cp5) = true)
    (gp6 : PySem.W.nsIn K mainGlobals "InvalidTree" = some (some (.ref Cp6))) (hp6 : K.lookup Cp6 = some (excClassObj nmp6 qnp6 Cp6 Np6 bsp6 bmp6 hdp6 snp6 subp6 abp6 colp6 ddp6 k0p6 k1p6 k2p6 k3p6 k5p6 "ValueError.__new__")) (tp6 : PySem.W.excTail [.type "ValueError", .type "Exception", .type "BaseException", .type "object"] bmp6 = true) (ip6 : PySem.W.findIn K (.ref Cp6) "__init__" = some (some (.builtin "ValueError.__init__"))) (kp6 : PySem.W.keepIn K (.ref Cp6) = true)
    (gp7 : PySem.W.nsIn K mainGlobals "InvalidHeap" = some (some (.ref Cp7))) (hp7 : K.lookup Cp7 = some (excClassObj nmp7 qnp7 Cp7 Np7 bsp7 bmp7 hdp7 snp7 subp7 abp7 colp7 ddp7 k0p7 k1p7 k2p7 k3p7 k5p7 "ValueError.__new__")) (tp7 : PySem.W.excTail [.type "ValueError", .type "Exception", .type "BaseException", .type "object"] bmp7 = true) (ip7 : PySem.W.findIn K (.ref Cp7) "__init__" = some (some (.builtin "ValueError.__init__"))) (kp7 : PySem.W.keepIn K (.ref Cp7) = true)
    (gp8 : PySem.W.nsIn K mainGlobals "InvalidPlan" = some (some (.ref Cp8))) (hp8 : K.lookup Cp8 = some (excClassObj nmp8 qnp8 Cp8 Np8 bsp8 bmp8 hdp8 snp8 subp8 abp8 colp8 ddp8 k0p8 k1p8 k2p8 k3p8 k5p8 "ValueError.__new__")) (tp8 : PySem.W.excTail [.type "ValueError", .type "Exception", .type "BaseException", .type "object"] bmp8 = true) (ip8 : PySem.W.findIn K (.ref Cp8) "__init__" = some (some (.builtin "ValueError.__init__"))) (kp8 : PySem.W.keepIn K (.ref Cp8) = true)
    (gp9 : PySem.W.nsIn K mainGlobals "InvalidPaper" = some (some (.ref Cp9))) (hp9 : K.lookup Cp9 = some (excClassObj nmp9 qnp9 Cp9 Np9 bsp9 bmp9 hdp9 snp9 subp9 abp9 colp9 ddp9 k0p9 k1p9 k2p9 k3p9 k5p9 "ValueError.__new__")) (tp9 : PySem.W.excTail [.type "ValueError", .type "Exception", .type "BaseException", .type "object"] bmp9 = true) (ip9 : PySem.W.findIn K (.ref Cp9) "__init__" = some (some (.builtin "ValueError.__init__"))) (kp9 : PySem.W.keepIn K (.ref Cp9) = true)
    (gp10 : PySem.W.nsIn K mainGlobals "InvalidOperation" = some (some (.ref Cp10))) (hp10 : K.lookup Cp10 = some (excClassObj nmp10 qnp10 Cp10 Np10 bsp10 bmp10 hdp10 snp10 subp10 abp10 colp10 ddp10 k0p10 k1p10 k2p10 k3p10 k5p10 "ValueError.__new__")) (tp10 : PySem.W.excTail [.type "ValueError", .type "Exception", .type "BaseException", .type "object"] bmp10 = true) (ip10 : PySem.W.findIn K (.ref Cp10) "__init__" = some (some (.builtin "ValueError.__init__"))) (kp10 : PySem.W.keepIn K (.ref Cp10) = true)
    (tabE : tabB K [Cp0, Cp1, Cp2, Cp3, Cp4, Cp5, Cp6, Cp7, Cp8, Cp9, Cp10, Ce0, Ce1, Ce2, Ce3, Ce4, Ce5, Ce6, Ce7, Ce8] = true)
    (a0 : PySem.W.nsIn K mainGlobals "is_integer" = some (some (.ref f0))) (l0 : K.lookup f0 = some ⟨oc0, od0, .func (PySem.W.fnOf "is_integer" "is_integer" (defArgs s_is_integer) (defBody s_is_integer) (defScope s_is_integer) .none kV0 dc0 pm0 an0 cd0 ct0), sl0⟩) (c0 : PySem.W.codeIn K cd0 "is_integer" = true) (k0 : PySem.W.keepIn K (.ref f0) = true)
    (a1 : PySem.W.nsIn K mainGlobals "is_count" = some (some (.ref f1))) (l1 : K.lookup f1 = some ⟨oc1, od1, .func (PySem.W.fnOf "is_count" "is_count" (defArgs s_is_count) (defBody s_is_count) (defScope s_is_count) .none kV1 dc1 pm1 an1 cd1 ct1), sl1⟩) (c1 : PySem.W.codeIn K cd1 "is_count" = true) (k1 : PySem.W.keepIn K (.ref f1) = true)
    (a2 : PySem.W.nsIn K mainGlobals "_law_dice" = some (some (.ref f2))) (l2 : K.lookup f2 = some ⟨oc2, od2, .func (PySem.W.fnOf "_law_dice" "_law_dice" (defArgs s_law_dice) (defBody s_law_dice) (defScope s_law_dice) .none kV2 dc2 pm2 an2 cd2 ct2), sl2⟩) (c2 : PySem.W.codeIn K cd2 "_law_dice" = true) (k2 : PySem.W.keepIn K (.ref f2) = true)
    (a3 : PySem.W.nsIn K mainGlobals "_law_roll" = some (some (.ref f3))) (l3 : K.lookup f3 = some ⟨oc3, od3, .func (PySem.W.fnOf "_law_roll" "_law_roll" (defArgs s_law_roll) (defBody s_law_roll) (defScope s_law_roll) .none kV3 dc3 pm3 an3 cd3 ct3), sl3⟩) (c3 : PySem.W.codeIn K cd3 "_law_roll" = true) (k3 : PySem.W.keepIn K (.ref f3) = true)
    (a4 : PySem.W.nsIn K mainGlobals "_law_pick" = some (some (.ref f4))) (l4 : K.lookup f4 = some ⟨oc4, od4, .func (PySem.W.fnOf "_law_pick" "_law_pick" (defArgs s_law_pick) (defBody s_law_pick) (defScope s_law_pick) .none kV4 dc4 pm4 an4 cd4 ct4), sl4⟩) (c4 : PySem.W.codeIn K cd4 "_law_pick" = true) (k4 : PySem.W.keepIn K (.ref f4) = true)
    (a5 : PySem.W.nsIn K mainGlobals "_law_number" = some (some (.ref f5))) (l5 : K.lookup f5 = some ⟨oc5, od5, .func (PySem.W.fnOf "_law_number" "_law_number" (defArgs s_law_number) (defBody s_law_number) (defScope s_law_number) .none kV5 dc5 pm5 an5 cd5 ct5), sl5⟩) (c5 : PySem.W.codeIn K cd5 "_law_number" = true) (k5 : PySem.W.keepIn K (.ref f5) = true)
    (a6 : PySem.W.nsIn K mainGlobals "_law_own" = some (some (.ref f6))) (l6 : K.lookup f6 = some ⟨oc6, od6, .func (PySem.W.fnOf "_law_own" "_law_own" (defArgs s_law_own) (defBody s_law_own) (defScope s_law_own) .none kV6 dc6 pm6 an6 cd6 ct6), sl6⟩) (c6 : PySem.W.codeIn K cd6 "_law_own" = true) (k6 : PySem.W.keepIn K (.ref f6) = true)
    (a7 : PySem.W.nsIn K mainGlobals "_law_all" = some (some (.ref f7))) (l7 : K.lookup f7 = some ⟨oc7, od7, .func (PySem.W.fnOf "_law_all" "_law_all" (defArgs s_law_all) (defBody s_law_all) (defScope s_law_all) .none kV7 dc7 pm7 an7 cd7 ct7), sl7⟩) (c7 : PySem.W.codeIn K cd7 "_law_all" = true) (k7 : PySem.W.keepIn K (.ref f7) = true)
    (a8 : PySem.W.nsIn K mainGlobals "_law_messages" = some (some (.ref f8))) (l8 : K.lookup f8 = some ⟨oc8, od8, .func (PySem.W.fnOf "_law_messages" "_law_messages" (defArgs s_law_messages) (defBody s_law_messages) (defScope s_law_messages) .none kV8 dc8 pm8 an8 cd8 ct8), sl8⟩) (c8 : PySem.W.codeIn K cd8 "_law_messages" = true) (k8 : PySem.W.keepIn K (.ref f8) = true)
    (a9 : PySem.W.nsIn K mainGlobals "_law_kept" = some (some (.ref f9))) (l9 : K.lookup f9 = some ⟨oc9, od9, .func (PySem.W.fnOf "_law_kept" "_law_kept" (defArgs s_law_kept) (defBody s_law_kept) (defScope s_law_kept) .none kV9 dc9 pm9 an9 cd9 ct9), sl9⟩) (c9 : PySem.W.codeIn K cd9 "_law_kept" = true) (k9 : PySem.W.keepIn K (.ref f9) = true)
    (a10 : PySem.W.nsIn K mainGlobals "_law_caught" = some (some (.ref f10))) (l10 : K.lookup f10 = some ⟨oc10, od10, .func (PySem.W.fnOf "_law_caught" "_law_caught" (defArgs s_law_caught) (defBody s_law_caught) (defScope s_law_caught) .none kV10 dc10 pm10 an10 cd10 ct10), sl10⟩) (c10 : PySem.W.codeIn K cd10 "_law_caught" = true) (k10 : PySem.W.keepIn K (.ref f10) = true)
    (a11 : PySem.W.nsIn K mainGlobals "_law_right" = some (some (.ref f11))) (l11 : K.lookup f11 = some ⟨oc11, od11, .func (PySem.W.fnOf "_law_right" "_law_right" (defArgs s_law_right) (defBody s_law_right) (defScope s_law_right) .none kV11 dc11 pm11 an11 cd11 ct11), sl11⟩) (c11 : PySem.W.codeIn K cd11 "_law_right" = true) (k11 : PySem.W.keepIn K (.ref f11) = true)
    (a12 : PySem.W.nsIn K mainGlobals "law" = some (some (.ref f12))) (l12 : K.lookup f12 = some ⟨oc12, od12, .func (PySem.W.fnOf "law" "law" (defArgs s_law) (defBody s_law) (defScope s_law) .none kV12 dc12 pm12 an12 cd12 ct12), sl12⟩) (c12 : PySem.W.codeIn K cd12 "law" = true) (k12 : PySem.W.keepIn K (.ref f12) = true)
    (m0 : PySem.W.nsIn K mainGlobals "MAX_FIGURES" = some (some (.int 60 t0)))
    (m1 : PySem.W.nsIn K mainGlobals "_TOO_LONG" = some (some (.int 1000000000000000000000000000000000000000000000000000000000000 t1)))
    (z0 : PySem.W.nsIn K mainGlobals "ArithmeticError" = some none)
    (z1 : PySem.W.nsIn K mainGlobals "IndexError" = some none)
    (z2 : PySem.W.nsIn K mainGlobals "KeyError" = some none)
    (z3 : PySem.W.nsIn K mainGlobals "LookupError" = some none)
    (z4 : PySem.W.nsIn K mainGlobals "OverflowError" = some none)
    (z5 : PySem.W.nsIn K mainGlobals "RuntimeError" = some none)
    (z6 : PySem.W.nsIn K mainGlobals "ValueError" = some none)
    (z7 : PySem.W.nsIn K mainGlobals "abs" = some none)
    (z8 : PySem.W.nsIn K mainGlobals "bool" = some none)
    (z9 : PySem.W.nsIn K mainGlobals "int" = some none)
    (z10 : PySem.W.nsIn K mainGlobals "isinstance" = some none)
    (z11 : PySem.W.nsIn K mainGlobals "len" = some none)
    (z12 : PySem.W.nsIn K mainGlobals "max" = some none)
    (z13 : PySem.W.nsIn K mainGlobals "min" = some none)
    (z14 : PySem.W.nsIn K mainGlobals "range" = some none)
    (z15 : PySem.W.nsIn K mainGlobals "repr" = some none)
    (z16 : PySem.W.nsIn K mainGlobals "str" = some none) :
    ∃ fd : FuncData, (∀ (s : Shared) (v : Value), BindsTo s fd ⟨[v], []⟩ [("_law_script", v)]) ∧ ∀ base : Heap, K.In base → base.Ns mainGlobals mg → FnG l.prog w K mg base CX0 6 fa fd ["_law_script"] (spLaw K) := by
  have e := hfa.symm.trans (PySem.W.mg_of X G a12)
  cases e
  have T : Top K mg := {
    errs := ⟨fun i => [Cp0, Cp1, Cp2, Cp3, Cp4, Cp5, Cp6, Cp7, Cp8, Cp9, Cp10, Ce0, Ce1, Ce2, Ce3, Ce4, Ce5, Ce6, Ce7, Ce8].getD i 0, { tab := tabE, x_ParseError := ⟨fe0, _, ⟨PySem.W.mg_of X G ge0, ⟨_, _, _, _, _, _, _, _, _, _, _, _, _, _, _, he0, te0⟩, oe0, qe0, de0, se0, ue0, ve0, ne0, ie0, ye0, ke0, be0, we0, exm_own be0 xe0 we0 re0⟩, fun_mk le0 ce0 pe0⟩, x_UnknownName := ⟨fe1, _, ⟨PySem.W.mg_of X G ge1, ⟨_, _, _, _, _, _, _, _, _, _, _, _, _, _, _, he1, te1⟩, oe1, qe1, de1, se1, ue1, ve1, ne1, ie1, ye1, ke1, be1, we1, exm_own be1 xe1 we1 re1⟩, fun_mk le1 ce1 pe1⟩, x_AbsentKey := ⟨fe2, _, ⟨PySem.W.mg_of X G ge2, ⟨_, _, _, _, _, _, _, _, _, _, _, _, _, _, _, he2, te2⟩, oe2, qe2, de2, se2, ue2, ve2, ne2, ie2, ye2, ke2, be2, we2, exm_own be2 xe2 we2 re2⟩, fun_mk le2 ce2 pe2⟩, x_EmptyHeap := ⟨fe3, _, ⟨PySem.W.mg_of X G ge3, ⟨_, _, _, _, _, _, _, _, _, _, _, _, _, _, _, he3, te3⟩, oe3, qe3, de3, se3, ue3, ve3, ne3, ie3, ye3, ke3, be3, we3, exm_own be3 xe3 we3 re3⟩, fun_mk le3 ce3 pe3⟩, x_InvalidNumber := ⟨fe4, _, ⟨PySem.W.mg_of X G ge4, ⟨_, _, _, _, _, _, _, _, _, _, _, _, _, _, _, he4, te4⟩, oe4, qe4, de4, se4, ue4, ve4, ne4, ie4, ye4, ke4, be4, we4, exm_own be4 xe4 we4 re4⟩, fun_mk le4 ce4 pe4⟩, x_NothingToUndo := ⟨fe5, _, ⟨PySem.W.mg_of X G ge5, ⟨_, _, _, _, _, _, _, _, _, _, _, _, _, _, _, he5, te5⟩, oe5, qe5, de5, se5, ue5, ve5, ne5, ie5, ye5, ke5, be5, we5, exm_own be5 xe5 we5 re5⟩, fun_mk le5 ce5 pe5⟩, x_TooMany := ⟨fe6, _, ⟨PySem.W.mg_of X G ge6, ⟨_, _, _, _, _, _, _, _, _, _, _, _, _, _, _, he6, te6⟩, oe6, qe6, de6, se6, ue6, ve6, ne6, ie6, ye6, ke6, be6, we6, exm_own be6 xe6 we6 re6⟩, fun_mk le6 ce6 pe6⟩, x_Refused := ⟨fe7, _, ⟨PySem.W.mg_of X G ge7, ⟨_, _, _, _, _, _, _, _, _, _, _, _, _, _, _, he7, te7⟩, oe7, qe7, de7, se7, ue7, ve7, ne7, ie7, ye7, ke7, be7, we7, exm_own be7 xe7 we7 re7⟩, fun_mk le7 ce7 pe7⟩, x_Spoilt := ⟨fe8, _, ⟨PySem.W.mg_of X G ge8, ⟨_, _, _, _, _, _, _, _, _, _, _, _, _, _, _, he8, te8⟩, oe8, qe8, de8, se8, ue8, ve8, ne8, ie8, ye8, ke8, be8, we8, exm_own be8 xe8 we8 re8⟩, fun_mk le8 ce8 pe8⟩, p_LinkError := ⟨PySem.W.mg_of X G gp0, ⟨_, _, _, _, _, _, _, _, _, _, _, _, _, _, _, _, hp0, tp0⟩, ip0, kp0⟩, p_InvalidKinds := ⟨PySem.W.mg_of X G gp1, ⟨_, _, _, _, _, _, _, _, _, _, _, _, _, _, _, _, hp1, tp1⟩, ip1, kp1⟩, p_InvalidRow := ⟨PySem.W.mg_of X G gp2, ⟨_, _, _, _, _, _, _, _, _, _, _, _, _, _, _, _, hp2, tp2⟩, ip2, kp2⟩, p_InvalidReader := ⟨PySem.W.mg_of X G gp3, ⟨_, _, _, _, _, _, _, _, _, _, _, _, _, _, _, _, hp3, tp3⟩, ip3, kp3⟩, p_InvalidPage := ⟨PySem.W.mg_of X G gp4, ⟨_, _, _, _, _, _, _, _, _, _, _, _, _, _, _, _, hp4, tp4⟩, ip4, kp4⟩, p_InvalidBook := ⟨PySem.W.mg_of X G gp5, ⟨_, _, _, _, _, _, _, _, _, _, _, _, _, _, _, _, hp5, tp5⟩, ip5, kp5⟩, p_InvalidTree := ⟨PySem.W.mg_of X G gp6, ⟨_, _, _, _, _, _, _, _, _, _, _, _, _, _, _, _, hp6, tp6⟩, ip6, kp6⟩, p_InvalidHeap := ⟨PySem.W.mg_of X G gp7, ⟨_, _, _, _, _, _, _, _, _, _, _, _, _, _, _, _, hp7, tp7⟩, ip7, kp7⟩, p_InvalidPlan := ⟨PySem.W.mg_of X G gp8, ⟨_, _, _, _, _, _, _, _, _, _, _, _, _, _, _, _, hp8, tp8⟩, ip8, kp8⟩, p_InvalidPaper := ⟨PySem.W.mg_of X G gp9, ⟨_, _, _, _, _, _, _, _, _, _, _, _, _, _, _, _, hp9, tp9⟩, ip9, kp9⟩, p_InvalidOperation := ⟨PySem.W.mg_of X G gp10, ⟨_, _, _, _, _, _, _, _, _, _, _, _, _, _, _, _, hp10, tp10⟩, ip10, kp10⟩ }⟩
    d_is_integer := ⟨_, _, fun_mk l0 c0 k0, (fun_mk (st := s_is_integer) l0 c0 k0).binds (ps := ["value"]) fun _ _ _ _ _ _ us hl => match us, hl with | [_], _ => rfl, PySem.W.mg_of X G a0⟩
    d_is_count := ⟨_, _, fun_mk l1 c1 k1, (fun_mk (st := s_is_count) l1 c1 k1).binds (ps := ["value"]) fun _ _ _ _ _ _ us hl => match us, hl with | [_], _ => rfl, PySem.W.mg_of X G a1⟩
    d_law_dice := ⟨_, _, fun_mk l2 c2 k2, (fun_mk (st := s_law_dice) l2 c2 k2).binds (ps := ["_law_script", "_law_spot"]) fun _ _ _ _ _ _ us hl => match us, hl with | [_, _], _ => rfl, PySem.W.mg_of X G a2⟩
    d_law_roll := ⟨_, _, fun_mk l3 c3 k3, (fun_mk (st := s_law_roll) l3 c3 k3).binds (ps := ["_law_dice_here", "_law_total"]) fun _ _ _ _ _ _ us hl => match us, hl with | [_, _], _ => rfl, PySem.W.mg_of X G a3⟩
    d_law_pick := ⟨_, _, fun_mk l4 c4 k4, (fun_mk (st := s_law_pick) l4 c4 k4).binds (ps := ["_law_dice_here", "_law_items"]) fun _ _ _ _ _ _ us hl => match us, hl with | [_, _], _ => rfl, PySem.W.mg_of X G a4⟩
    d_law_number := ⟨_, _, fun_mk l5 c5 k5, (fun_mk (st := s_law_number) l5 c5 k5).binds (ps := ["_law_dice_here"]) fun _ _ _ _ _ _ us hl => match us, hl with | [_], _ => rfl, PySem.W.mg_of X G a5⟩
    d_law_own := ⟨_, _, fun_mk l6 c6 k6, (fun_mk (st := s_law_own) l6 c6 k6).binds (ps := ["_law_error"]) fun _ _ _ _ _ _ us hl => match us, hl with | [_], _ => rfl, PySem.W.mg_of X G a6⟩
    d_law_all := ⟨_, _, fun_mk l7 c7 k7, (fun_mk (st := s_law_all) l7 c7 k7).binds (ps := ["_law_error"]) fun _ _ _ _ _ _ us hl => match us, hl with | [_], _ => rfl, PySem.W.mg_of X G a7⟩
    d_law_messages := ⟨_, _, fun_mk l8 c8 k8, (fun_mk (st := s_law_messages) l8 c8 k8).binds (ps := []) fun _ _ _ _ _ _ us hl => match us, hl with | [], _ => rfl, PySem.W.mg_of X G a8⟩
    d_law_kept := ⟨_, _, fun_mk l9 c9 k9, (fun_mk (st := s_law_kept) l9 c9 k9).binds (ps := ["_law_value", "_law_index"]) fun _ _ _ _ _ _ us hl => match us, hl with | [_, _], _ => rfl, PySem.W.mg_of X G a9⟩
    d_law_caught := ⟨_, _, fun_mk l10 c10 k10, (fun_mk (st := s_law_caught) l10 c10 k10).binds (ps := ["_law_value", "_law_way"]) fun _ _ _ _ _ _ us hl => match us, hl with | [_, _], _ => rfl, PySem.W.mg_of X G a10⟩
    d_law_right := ⟨_, _, fun_mk l11 c11 k11, (fun_mk (st := s_law_right) l11 c11 k11).binds (ps := ["_law_value", "_law_index"]) fun _ _ _ _ _ _ us hl => match us, hl with | [_, _], _ => rfl, PySem.W.mg_of X G a11⟩
    g_MAX_FIGURES := ⟨_, PySem.W.mg_of X G m0⟩
    g__TOO_LONG := ⟨_, PySem.W.mg_of X G m1⟩
    b_ArithmeticError := PySem.W.mg_none_of X G z0
    b_IndexError := PySem.W.mg_none_of X G z1
    b_KeyError := PySem.W.mg_none_of X G z2
    b_LookupError := PySem.W.mg_none_of X G z3
    b_OverflowError := PySem.W.mg_none_of X G z4
    b_RuntimeError := PySem.W.mg_none_of X G z5
    b_ValueError := PySem.W.mg_none_of X G z6
    b_abs := PySem.W.mg_none_of X G z7
    b_bool := PySem.W.mg_none_of X G z8
    b_int := PySem.W.mg_none_of X G z9
    b_isinstance := PySem.W.mg_none_of X G z10
    b_len := PySem.W.mg_none_of X G z11
    b_max := PySem.W.mg_none_of X G z12
    b_min := PySem.W.mg_none_of X G z13
    b_range := PySem.W.mg_none_of X G z14
    b_repr := PySem.W.mg_none_of X G z15
    b_str := PySem.W.mg_none_of X G z16 }
  exact ⟨PySem.W.fnOf "law" "law" (defArgs s_law) (defBody s_law) (defScope s_law) .none kV12 dc12 pm12 an12 cd12 ct12, fun s v => .of_eq rfl, fun base _ _ => ok_law (fun_mk (st := s_law) l12 c12 k12) T⟩
end Kl
open PySem PySem.W PyProof.Rows
set_option maxHeartbeats 0 in
theorem PySem.Challenge.cw_linkbooks_k02_errors_and_integers_holds : PySem.Challenge.rw_linkbooks_k02_errors_and_integers.Holds := by
  w_on; o_law; k_head; (case hw => w_witness2)
  k_fill
  refine Gx.walkG (l := PySem.Challenge.rw_linkbooks_k02_errors_and_integers) (n := 63) (k := 6) (x := "_law_script") (CX := fun _ => L2.CX0) (sp := fun w => Kl.spLaw _) rfl (by decide) rfl ⟨rfl, by decide, by decide⟩ (fun w h Y => PySem.W.kIn_of Y) ?F (fun _ _ a ns hl _ hS => ⟨a, ns, rfl, hS, hl, fun _ => rfl⟩) (fun _ _ _ _ _ h => h)
  case F =>
    intro w mg fa h KX G hmg
    refine' Kl.all_mk KX G hmg ?ge0 ?he0 ?te0 ?oe0 ?qe0 ?de0 ?se0 ?ue0 ?ve0 ?ne0 ?ie0 ?ye0 ?ke0 ?be0 ?we0 ?xe0 ?re0 ?le0 ?ce0 ?pe0 ?ge1 ?he1 ?te1 ?oe1 ?qe1 ?de1 ?se1 ?ue1 ?ve1 ?ne1 ?ie1 ?ye1 ?ke1 ?be1 ?we1 ?xe1 ?re1 ?le1 ?ce1 ?pe1 ?ge2 ?he2 ?te2 ?oe2 ?qe2 ?de2 ?se2 ?ue2 ?ve2 ?ne2 ?ie2 ?ye2 ?ke2 ?be2 ?we2 ?xe2 ?re2 ?le2 ?ce2 ?pe2 ?ge3 ?he3 ?te3 ?oe3 ?qe3 ?de3 ?se3 ?ue3 ?ve3 ?ne3 ?ie3 ?ye3 ?ke3 ?be3 ?we3 ?xe3 ?re3 ?le3 ?ce3 ?pe3 ?ge4 ?he4 ?te4 ?oe4 ?qe4 ?de4 ?se4 ?ue4 ?ve4 ?ne4 ?ie4 ?ye4 ?ke4 ?be4 ?we4 ?xe4 ?re4 ?le4 ?ce4 ?pe4 ?ge5 ?he5 ?te5 ?oe5 ?qe5 ?de5 ?se5 ?ue5 ?ve5 ?ne5 ?ie5 ?ye5 ?ke5 ?be5 ?we5 ?xe5 ?re5 ?le5 ?ce5 ?pe5 ?ge6 ?he6 ?te6 ?oe6 ?qe6 ?de6 ?se6 ?ue6 ?ve6 ?ne6 ?ie6 ?ye6 ?ke6 ?be6 ?we6 ?xe6 ?re6 ?le6 ?ce6 ?pe6 ?ge7 ?he7 ?te7 ?oe7 ?qe7 ?de7 ?se7 ?ue7 ?ve7 ?ne7 ?ie7 ?ye7 ?ke7 ?be7 ?we7 ?xe7 ?re7 ?le7 ?ce7 ?pe7 ?ge8 ?he8 ?te8 ?oe8 ?qe8 ?de8 ?se8 ?ue8 ?ve8 ?ne8 ?ie8 ?ye8 ?ke8 ?be8 ?we8 ?xe8 ?re8 ?le8 ?ce8 ?pe8 ?gp0 ?hp0 ?tp0 ?ip0 ?kp0 ?gp1 ?hp1 ?tp1 ?ip1 ?kp1 ?gp2 ?hp2 ?tp2 ?ip2 ?kp2 ?gp3 ?hp3 ?tp3 ?ip3 ?kp3 ?gp4 ?hp4 ?tp4 ?ip4 ?kp4 ?gp5 ?hp5 ?tp5 ?ip5 ?kp5 ?gp6 ?hp6 ?tp6 ?ip6 ?kp6 ?gp7 ?hp7 ?tp7 ?ip7 ?kp7 ?gp8 ?hp8 ?tp8 ?ip8 ?kp8 ?gp9 ?hp9 ?tp9 ?ip9 ?kp9 ?gp10 ?hp10 ?tp10 ?ip10 ?kp10 ?tabE ?a0 ?l0 ?c0 ?k0 ?a1 ?l1 ?c1 ?k1 ?a2 ?l2 ?c2 ?k2 ?a3 ?l3 ?c3 ?k3 ?a4 ?l4 ?c4 ?k4 ?a5 ?l5 ?c5 ?k5 ?a6 ?l6 ?c6 ?k6 ?a7 ?l7 ?c7 ?k7 ?a8 ?l8 ?c8 ?k8 ?a9 ?l9 ?c9 ?k9 ?a10 ?l10 ?c10 ?k10 ?a11 ?l11 ?c11 ?k11 ?a12 ?l12 ?c12 ?k12 ?m0 ?m1 ?z0 ?z1 ?z2 ?z3 ?z4 ?z5 ?z6 ?z7 ?z8 ?z9 ?z10 ?z11 ?z12 ?z13 ?z14 ?z15 ?z16
    (case ge0 => k_is); (case he0 => k_is); (case te0 => decide +kernel); (case oe0 => kx_is); (case qe0 => k_is); (case de0 => k_is); (case se0 => k_is); (case ue0 => k_is); (case ve0 => k_is); (case ne0 => k_is); (case ie0 => k_is); (case ye0 => k_is); (case ke0 => k_is); (case be0 => k_is); (case we0 => k_is); (case xe0 => k_is); (case re0 => first | rfl | k_is); (case le0 => k_is); (case ce0 => k_is); (case pe0 => k_is); (case ge1 => k_is); (case he1 => k_is); (case te1 => decide +kernel); (case oe1 => kx_is); (case qe1 => k_is); (case de1 => k_is); (case se1 => k_is); (case ue1 => k_is); (case ve1 => k_is); (case ne1 => k_is); (case ie1 => k_is); (case ye1 => k_is); (case ke1 => k_is); (case be1 => k_is); (case we1 => k_is); (case xe1 => k_is); (case re1 => first | rfl | k_is); (case le1 => k_is); (case ce1 => k_is); (case pe1 => k_is); (case ge2 => k_is); (case he2 => k_is); (case te2 => decide +kernel); (case oe2 => kx_is); (case qe2 => k_is); (case de2 => k_is); (case se2 => k_is); (case ue2 => k_is); (case ve2 => k_is); (case ne2 => k_is); (case ie2 => k_is); (case ye2 => k_is); (case ke2 => k_is); (case be2 => k_is); (case we2 => k_is); (case xe2 => k_is); (case re2 => first | rfl | k_is); (case le2 => k_is); (case ce2 => k_is); (case pe2 => k_is); (case ge3 => k_is); (case he3 => k_is); (case te3 => decide +kernel); (case oe3 => kx_is); (case qe3 => k_is); (case de3 => k_is); (case se3 => k_is); (case ue3 => k_is); (case ve3 => k_is); (case ne3 => k_is); (case ie3 => k_is); (case ye3 => k_is); (case ke3 => k_is); (case be3 => k_is); (case we3 => k_is); (case xe3 => k_is); (case re3 => first | rfl | k_is); (case le3 => k_is); (case ce3 => k_is); (case pe3 => k_is); (case ge4 => k_is); (case he4 => k_is); (case te4 => decide +kernel); (case oe4 => kx_is); (case qe4 => k_is); (case de4 => k_is); (case se4 => k_is); (case ue4 => k_is); (case ve4 => k_is); (case ne4 => k_is); (case ie4 => k_is); (case ye4 => k_is); (case ke4 => k_is); (case be4 => k_is); (case we4 => k_is); (case xe4 => k_is); (case re4 => first | rfl | k_is); (case le4 => k_is); (case ce4 => k_is); (case pe4 => k_is); (case ge5 => k_is); (case he5 => k_is); (case te5 => decide +kernel); (case oe5 => kx_is); (case qe5 => k_is); (case de5 => k_is); (case se5 => k_is); (case ue5 => k_is); (case ve5 => k_is); (case ne5 => k_is); (case ie5 => k_is); (case ye5 => k_is); (case ke5 => k_is); (case be5 => k_is); (case we5 => k_is); (case xe5 => k_is); (case re5 => first | rfl | k_is); (case le5 => k_is); (case ce5 => k_is); (case pe5 => k_is); (case ge6 => k_is); (case he6 => k_is); (case te6 => decide +kernel); (case oe6 => kx_is); (case qe6 => k_is); (case de6 => k_is); (case se6 => k_is); (case ue6 => k_is); (case ve6 => k_is); (case ne6 => k_is); (case ie6 => k_is); (case ye6 => k_is); (case ke6 => k_is); (case be6 => k_is); (case we6 => k_is); (case xe6 => k_is); (case re6 => first | rfl | k_is); (case le6 => k_is); (case ce6 => k_is); (case pe6 => k_is); (case ge7 => k_is); (case he7 => k_is); (case te7 => decide +kernel); (case oe7 => kx_is); (case qe7 => k_is); (case de7 => k_is); (case se7 => k_is); (case ue7 => k_is); (case ve7 => k_is); (case ne7 => k_is); (case ie7 => k_is); (case ye7 => k_is); (case ke7 => k_is); (case be7 => k_is); (case we7 => k_is); (case xe7 => k_is); (case re7 => first | rfl | k_is); (case le7 => k_is); (case ce7 => k_is); (case pe7 => k_is); (case ge8 => k_is); (case he8 => k_is); (case te8 => decide +kernel); (case oe8 => kx_is); (case qe8 => k_is); (case de8 => k_is); (case se8 => k_is); (case ue8 => k_is); (case ve8 => k_is); (case ne8 => k_is); (case ie8 => k_is); (case ye8 => k_is); (case ke8 => k_is); (case be8 => k_is); (case we8 => k_is); (case xe8 => k_is); (case re8 => first | rfl | k_is); (case le8 => k_is); (case ce8 => k_is); (case pe8 => k_is); (case gp0 => k_is); (case hp0 => k_is); (case tp0 => decide +kernel); (case ip0 => k_is); (case kp0 => k_is); (case gp1 => k_is); (case hp1 => k_is); (case tp1 => decide +kernel); (case ip1 => k_is); (case kp1 => k_is); (case gp2 => k_is); (case hp2 => k_is); (case tp2 => decide +kernel); (case ip2 => k_is); (case kp2 => k_is); (case gp3 => k_is); (case hp3 => k_is); (case tp3 => decide +kernel); (case ip3 => k_is); (case kp3 => k_is); (case gp4 => k_is); (case hp4 => k_is); (case tp4 => decide +kernel); (case ip4 => k_is); (case kp4 => k_is); (case gp5 => k_is); (case hp5 => k_is); (case tp5 => decide +kernel); (case ip5 => k_is); (case kp5 => k_is); (case gp6 => k_is); (case hp6 => k_is); (case tp6 => decide +kernel); (case ip6 => k_is); (case kp6 => k_is); (case gp7 => k_is); (case hp7 => k_is); (case tp7 => decide +kernel); (case ip7 => k_is); (case kp7 => k_is); (case gp8 => k_is); (case hp8 => k_is); (case tp8 => decide +kernel); (case ip8 => k_is); (case kp8 => k_is); (case gp9 => k_is); (case hp9 => k_is); (case tp9 => decide +kernel); (case ip9 => k_is); (case kp9 => k_is); (case gp10 => k_is); (case hp10 => k_is); (case tp10 => decide +kernel); (case ip10 => k_is); (case kp10 => k_is); (case tabE => kernel_rfl); (case a0 => k_is); (case l0 => k_is); (case c0 => k_is); (case k0 => k_is); (case a1 => k_is); (case l1 => k_is); (case c1 => k_is); (case k1 => k_is); (case a2 => k_is); (case l2 => k_is); (case c2 => k_is); (case k2 => k_is); (case a3 => k_is); (case l3 => k_is); (case c3 => k_is); (case k3 => k_is); (case a4 => k_is); (case l4 => k_is); (case c4 => k_is); (case k4 => k_is); (case a5 => k_is); (case l5 => k_is); (case c5 => k_is); (case k5 => k_is); (case a6 => k_is); (case l6 => k_is); (case c6 => k_is); (case k6 => k_is); (case a7 => k_is); (case l7 => k_is); (case c7 => k_is); (case k7 => k_is); (case a8 => k_is); (case l8 => k_is); (case c8 => k_is); (case k8 => k_is); (case a9 => k_is); (case l9 => k_is); (case c9 => k_is); (case k9 => k_is); (case a10 => k_is); (case l10 => k_is); (case c10 => k_is); (case k10 => k_is); (case a11 => k_is); (case l11 => k_is); (case c11 => k_is); (case k11 => k_is); (case a12 => k_is); (case l12 => k_is); (case c12 => k_is); (case k12 => k_is); (case m0 => k_is); (case m1 => k_is); (case z0 => k_is); (case z1 => k_is); (case z2 => k_is); (case z3 => k_is); (case z4 => k_is); (case z5 => k_is); (case z6 => k_is); (case z7 => k_is); (case z8 => k_is); (case z9 => k_is); (case z10 => k_is); (case z11 => k_is); (case z12 => k_is); (case z13 => k_is); (case z14 => k_is); (case z15 => k_is); (case z16 => k_is)
