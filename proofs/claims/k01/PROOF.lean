import PyProof.Rows.All
import Wide.All
import OpenK.AllK
import Wide.FinOn
import PyProof.Rows.StrCountLaw
import HandS.ForMost
import HandS.Wide
import HandS.IsInst
import HandS.StrMore
import HandS.Style
import PyProof.ReprReads
import HandS.Ends
import PyProof.ReprRoads
import PyProof.Rows.SortShellAny
import PyProof.TupleOfSeq
import KE.KExcInit
import HandS.ForExc
import HandS.TryMany
import HandS.Defaults
import HandS.Replace
import HandS.Walk
import HandS.TupAny
import KE.KEqDict
import HandS.Deep
import KE.KExcLine
import PySem.Challenge.RW_linkbooks_k01_whole_sorted_tuples
set_option Elab.async false
set_option linter.all false
set_option maxRecDepth 100000
set_option maxHeartbeats 4000000
namespace Gx
open PySem PySem.Spec PyProof.Rows L2
/-! ### rules of my own, over any program -/
section
variable {X : Cx}
/-- repr of a truth -/
theorem call_repr_bl : CallR X (.builtin "repr") (fun xs H Q => ∃ b : Bool, xs = [.bl b] ∧ Q (.str (if b then "True" else "False")) H) := by
  intro pins s σ H xs us Q I r h
  obtain ⟨b, rfl, q⟩ := h
  obtain ⟨u, rfl, rx⟩ := vals1 r
  cases (show u = Value.bool b from rx)
  exact PySem.P.repr_of_bool ⟨.str _, H, I.tok _, ⟨_, rfl⟩, q⟩
/-- the signs of a text, a text each -/
def signV (x : Str) : List V := x.cps.toList.map fun c => V.str ⟨#[c]⟩
theorem vals_signs {x : Str} {acc : Array Value} (h : ItemsOf (SignAt x) acc x.cps.size) : Vals (signV x) acc.toList := by
  have key : ∀ (l : List Nat) (vs : List Value), vs.length = l.length → (∀ (j : Nat) (v : Value), vs[j]? = some v → ∃ (c : Nat) (u : Tok), l[j]? = some c ∧ v = Value.str ⟨#[c]⟩ u) → Vals (l.map fun c => V.str ⟨#[c]⟩) vs := by
    intro l
    induction l with
    | nil =>
      intro vs hl _
      cases vs with
      | nil => exact .nil
      | cons a r => cases hl
    | cons c l ih =>
      intro vs hl hv
      cases vs with
      | nil => cases hl
      | cons v vs =>
        obtain ⟨c', u, e1, e2⟩ := hv 0 v rfl
        have e1' : c = c' := Option.some.inj e1
        subst e1'
        exact .cons ⟨u, e2⟩ (ih vs (Nat.succ.inj hl) fun j w hw => hv (j + 1) w hw)
  refine key x.cps.toList acc.toList (by rw [Array.length_toList, Array.length_toList]; exact h.1) fun j v hv => ?_
  obtain ⟨c, u, hc, e⟩ := h.2 j v (by simpa using hv)
  exact ⟨c, u, by simpa using hc, e⟩
/-- list(text) -/
theorem call_list_text (hc : X.calm = true) : CallR X (.type "list") (fun xs H Q => ∃ x : Str, xs = [.str x] ∧ x.length ≤ sizeLine ∧ ∀ l, H l = none → Q (.ref l) (upd H l (.lst (signV x)))) := by
  intro pins s σ H xs us Q I r h
  obtain ⟨x, rfl, hz, q⟩ := h
  obtain ⟨u, rfl, t, rfl⟩ := vals1 r
  refine PySem.call_list_str (I.ok.hd hc) x t (fun h' tk acc' c' kp e ha => ?_) hz
  have hv := vals_signs ha
  refine ⟨.ref s.heap.objs.size, _, I.laid (t' := tk) kp (Nat.le_refl _) (show ObjOk X.prog X.w _ h' _ (.lst (signV x)) from ⟨?_, acc'.toList, c', hv, by simpa using e⟩), rfl, q _ (I.hok.fresh (Nat.le_refl _))⟩
  rw [hv.length, Array.length_toList]
  have := ha.1
  rw [this]
  exact hz
/-- tuple(text) -/
theorem call_tuple_text (hc : X.calm = true) : CallR X (.type "tuple") (fun xs H Q => ∃ x : Str, xs = [.str x] ∧ x.length ≤ sizeLine ∧ ∀ l, H l = none → Q (.ref l) (upd H l (.tup (signV x)))) := by
  intro pins s σ H xs us Q I r h
  obtain ⟨x, rfl, hz, q⟩ := h
  obtain ⟨u, rfl, t, rfl⟩ := vals1 r
  refine PySem.call_tuple_str (I.ok.hd hc) x t (fun h' tk acc kp ha => ?_) hz
  have hv := vals_signs ha
  have I1 : Inv X pins σ H { s with heap := h', toks := tk } := I.kept (t' := tk) kp
  have hlen : (signV x).length ≤ sizeLine := by
    rw [hv.length, Array.length_toList]
    have := ha.1
    rw [this]
    exact hz
  have I2 : Inv X pins σ (upd H h'.objs.size (.tup (signV x))) { s with heap := h'.push { cls := .type "tuple", data := .seq acc }, toks := tk } :=
    I1.laid (t' := tk) (fun b o e => Heap.get?_push_of_some _ e) (Nat.le_refl _) (show ObjOk X.prog X.w _ _ _ (.tup (signV x)) from ⟨hlen, acc.toList, hv, by simpa using IsTup.new _ _⟩)
  exact ⟨.ref h'.objs.size, _, I2, rfl, q _ (I1.hok.fresh (Nat.le_refl _))⟩
/-- text * k -/
theorem op_mul_text : OpR X (binaryOp .Mult) (fun x y H Q => ∃ (a : Str) (n : Int), x = .str a ∧ y = .int n ∧ MulOk a n ∧ Q (.str (Txt.mul a n)) H) := by
  intro pins s σ H x y v u Q I rx ry h
  obtain ⟨a, n, rfl, rfl, hz, q⟩ := h
  obtain ⟨t, rfl⟩ := rx
  obtain ⟨t', rfl⟩ := ry
  exact SB.mul hz fun t' k => ⟨.str _, H, I.tok _, ⟨_, rfl⟩, q⟩
end
theorem mulOk_small {a : Str} {n : Int} (h1 : 2 ≤ n) (h2 : n ≤ 1000) (ha : a.length ≤ 1000) : MulOk a n := by
  refine ⟨?_, fun _ _ => ?_, fun _ _ => ?_⟩
  · rw [Bool.or_eq_false_iff]
    exact ⟨decide_eq_false (by omega), decide_eq_false (by omega)⟩
  · have : (1000 : Int) ≤ (2 ^ 63 - 1) / n := by
      refine (Int.le_ediv_iff_mul_le (by omega)).mpr ?_
      have : (1000 : Int) * n ≤ 1000 * 1000 := Int.mul_le_mul_of_nonneg_left h2 (by decide)
      omega
    omega
  · unfold Builtin.Str.tooLong
    refine decide_eq_false ?_
    have h3 : a.length * n.toNat ≤ 1000 * 1000 := Nat.mul_le_mul ha (by omega)
    rw [sizeLine_eq]
    omega

/-! ### defs of the top, and what they promise -/
/-- the def st stands at the top under its name -/
def Def (K : PySem.W.Frag) (mg : Str → Option Value) (x qual : Str) (st : Stmt) (ps : List Str) : Prop :=
  ∃ (f : Addr) (fd : FuncData), Fun K x qual st f fd ∧ Binds K fd ps [] ∧ mg x = some (.ref f)
/-- the name x is a def that keeps the promise sp, by at most level k -/
def Cal (P : Program) (w : World) (K : PySem.W.Frag) (mg : Str → Option Value) (base : Heap) (k : Nat) (x : Str) (ps : List Str) (sp : Sp) : Prop :=
  ∃ (f : Addr) (fd : FuncData), FnOk P w K mg base CX0 k f fd ps sp ∧ PySem.W.keepIn K (.ref f) = true ∧ Binds K fd ps [] ∧ mg x = some (.ref f)
section
variable {P : Program} {w : World} {K : PySem.W.Frag} {mg : Str → Option Value} {base : Heap}
theorem Cal.mono {j k : Nat} {x : Str} {ps : List Str} {sp : Sp} (c : Cal P w K mg base j x ps sp) (h : j ≤ k) : Cal P w K mg base k x ps sp := by
  obtain ⟨f, fd, F, kp, b, g⟩ := c
  exact ⟨f, fd, F.mono h, kp, b, g⟩
theorem Cal.imp {k : Nat} {x : Str} {ps : List Str} {sp sp' : Sp} (c : Cal P w K mg base k x ps sp) (h : ∀ vs H Q E, sp' vs H Q E → sp vs H Q E) : Cal P w K mg base k x ps sp' := by
  obtain ⟨f, fd, F, kp, b, g⟩ := c
  exact ⟨f, fd, F.imp h, kp, b, g⟩
theorem Def.cal {x qual : Str} {st : Stmt} {ps : List Str} (d : Def K mg x qual st ps) {k : Nat} {sp : Sp} (h : ∀ f fd, Fun K x qual st f fd → FnOk P w K mg base CX0 k f fd ps sp) : Cal P w K mg base k x ps sp := by
  obtain ⟨f, fd, F, b, g⟩ := d
  exact ⟨f, fd, h f fd F, F.kp, b, g⟩
end
section
variable {X : Cx}
/-- f(..), without the empty list of defaults -/
def tCl (sp : Sp) (t : TA) : TE := fun σ H Q => t σ H fun vs H1 => sp vs H1 Q E0
theorem tCl_eq (sp : Sp) (t : TA) : tCall sp [] E0 t = tCl sp t := by
  funext σ H Q
  show t σ H _ = t σ H _
  congr 1
  funext vs H1
  rw [List.append_nil]
theorem pe_cal {x : Str} {ps : List Str} {sp : Sp} {k : Nat} {e : Expr} {es : List Expr} {t : TA} {p pos : Pos} (c : Cal X.prog X.w X.K X.mg X.base k x ps sp) (hr : Room k X.A) (hg : Gl X x) (h : PA X (e :: es) t)
    (hdb : (x == ("__debug__" : Str)) = false := by decide) (he : starEach (e :: es) X.env = (false, eval e X.env) :: starEach es X.env := by rfl) (hpl : (backTo pos (starEach es X.env)).any (·.1) = false := by rfl) :
    PE X (.Call (.Name x p) (e :: es) [] pos) (tCl sp t) := by
  obtain ⟨f, fd, F, kp, b, g⟩ := c
  rw [← tCl_eq]
  exact pe_call F hr hg g kp b .nil pass0 h hdb he hpl
theorem pe_cal0 {x : Str} {ps : List Str} {sp : Sp} {k : Nat} {p pos : Pos} (c : Cal X.prog X.w X.K X.mg X.base k x ps sp) (hr : Room k X.A) (hg : Gl X x)
    (hdb : (x == ("__debug__" : Str)) = false := by decide) : PE X (.Call (.Name x p) [] [] pos) (tCl sp tNil) := by
  obtain ⟨f, fd, F, kp, b, g⟩ := c
  rw [← tCl_eq]
  exact pe_call0 F hr hg g kp b .nil pass0 hdb
end
/-- a statement, then the rest, with a word between them: what follows is shown once -/
def tCut (t u : TS) : TS := fun D σ H => ∃ Mid : L2.St → Hp → Prop, t { D with nx := Mid } σ H ∧ ∀ σ' H', Mid σ' H' → u D σ' H'
section
variable {X : Cx}
theorem pss_cut {st : Stmt} {rest : List Stmt} {t u : TS} (h1 : PS X st t) (h2 : PSs X rest u) : PSs X (st :: rest) (tCut t u) := by
  refine ⟨fun pins s σ H D I h => ?_⟩
  obtain ⟨Mid, hm, hu⟩ := h
  refine wpAny_execs_cons (thn (h1.run pins s σ H { D with nx := Mid } I hm) fun f s1 q => ?_)
  cases f with
  | next =>
    obtain ⟨σ', H', I', q⟩ := q
    exact h2.run pins s1 σ' H' D I' (hu σ' H' q)
  | ret v => exact q
  | brk => exact q
  | cont => exact q
end
theorem sqL_ne {K : PySem.W.Frag} {H : Hp} {a d : Addr} {o : HO} {xs : List V} (n : a ≠ d) (h : SqL K H a xs) : SqL K (upd H d o) a xs := by
  rcases h with (h | ⟨u, h⟩) | h
  · exact .inl (.inl (by rw [upd_ne n]; exact h))
  · exact .inl (.inr ⟨u, by rw [upd_ne n]; exact h⟩)
  · exact .inr h
theorem sqT_ne {K : PySem.W.Frag} {H : Hp} {a d : Addr} {o : HO} {xs : List V} (n : a ≠ d) (h : SqT K H a xs) : SqT K (upd H d o) a xs := by
  rcases h with (h | ⟨u, h⟩) | h
  · exact .inl (.inl (by rw [upd_ne n]; exact h))
  · exact .inl (.inr ⟨u, by rw [upd_ne n]; exact h⟩)
  · exact .inr h
theorem atI_int {α : Type} {xs : List α} {r : Int} (h0 : 0 ≤ r) (h1 : r < xs.length) : ∃ v, v ∈ xs ∧ atI xs r = some v := by
  obtain ⟨k, rfl⟩ := Int.eq_ofNat_of_zero_le h0
  have hk : k < xs.length := by omega
  exact ⟨xs[k], List.getElem_mem hk, atI_nat (List.getElem?_eq_getElem hk)⟩
theorem signV_len (z : Str) : (signV z).length = z.length := by
  unfold signV
  rw [List.length_map, Array.length_toList]
  rfl
/-- for c in text -/
theorem for_str {x : Str} {g : TG} {tb : TS} {D : Ends} {σ : L2.St} {H : Hp} (Pv : Nat → L2.St → Hp → Prop) (h0 : Pv 0 σ H)
    (hs : ∀ (i c : Nat) (σ : L2.St) (H : Hp), x.cps.toList[i]? = some c → Pv i σ H → g (.str ⟨#[c]⟩) σ H fun σ2 H2 => tb { D with nx := Pv (i + 1), ct := Pv (i + 1), bk := D.nx } σ2 H2) (hd : ∀ σ H, Pv x.cps.size σ H → D.nx σ H) :
    ∃ W : Nat → Nat → L2.St → Hp → Prop, (∃ m, W 0 m σ H) ∧ ∀ i m σ H, W i m σ H →
      ((Its x).stop i H ∧ D.nx σ H) ∨ ((Its x).go i H ∧ ∃ N : L2.St → Hp → Prop, (∀ σ' H', N σ' H' → ∃ m', m' < m ∧ W (i + 1) m' σ' H') ∧ ∀ v H', (Its x).yld i H v H' → g v σ H' fun σ2 H2 => tb { D with nx := N, ct := N, bk := D.nx } σ2 H2) := by
  refine ⟨fun i m σ H => m = x.cps.size - i ∧ i ≤ x.cps.size ∧ Pv i σ H, ⟨x.cps.size, by simp, Nat.zero_le _, h0⟩, ?_⟩
  rintro i m σ H ⟨rfl, hi, p⟩
  by_cases hlt : i < x.cps.size
  · refine .inr ⟨hlt, Pv (i + 1), fun σ' H' p' => ⟨x.cps.size - (i + 1), by omega, rfl, hlt, p'⟩, fun v H' y => ?_⟩
    obtain ⟨e, c, hc, ev⟩ := y
    subst e ev
    exact hs i c σ _ (by simpa using hc) p
  · have e : i = x.cps.size := by omega
    subst e
    exact .inl ⟨Nat.le_refl _, hd σ H p⟩
theorem decI (a b : Int) : decide (V.int a = V.int b) = decide (a = b) := decide_eq_decide.mpr ⟨V.int.inj, fun e => e ▸ rfl⟩
theorem decS (a b : Str) : decide (V.str a = V.str b) = decide (a = b) := decide_eq_decide.mpr ⟨V.str.inj, fun e => e ▸ rfl⟩
theorem app_len (a b : Str) : (a ++ b).length = a.length + b.length := by
  show (a.cps ++ b.cps).size = _
  rw [Array.size_append]
  rfl
/-- texts of one sign each, joined by nothing -/
theorem join_one {e : Str} (he : e.length = 0) : ∀ zs : List Str, (∀ z ∈ zs, z.length = 1) → (Txt.join e zs).length = zs.length := by
  have key : ∀ zs : List Str, (∀ z ∈ zs, z.length = 1) → (Str.join e zs).length = zs.length := by
    intro zs
    induction zs with
    | nil => intro _; rfl
    | cons x r ih =>
      intro h
      cases r with
      | nil => exact h x (List.mem_cons_self ..)
      | cons y r =>
        show (x ++ e ++ Str.join e (y :: r)).length = _
        rw [app_len, app_len, he, ih fun z hz => h z (List.mem_cons_of_mem _ hz), h x (List.mem_cons_self ..), List.length_cons (a := x)]
        omega
  intro zs h
  rw [TL.join_eq]
  exact key zs h
theorem sum_ones : ∀ zs : List Str, (∀ z ∈ zs, z.length = 1) → (zs.map (·.length)).sum = zs.length
  | [], _ => rfl
  | x :: r, h => by
    rw [List.map_cons, List.sum_cons, sum_ones r fun z hz => h z (List.mem_cons_of_mem _ hz), h x (List.mem_cons_self ..), List.length_cons]
    omega
theorem mul_len {a : Str} {n : Int} (h1 : 2 ≤ n) (ha : 1 ≤ a.length) : (Txt.mul a n).length = a.length * n.toNat := by
  unfold Txt.mul
  rw [if_neg (by omega)]
  have e1 : (n == 1) = false := by rw [beq_eq_false_iff_ne]; omega
  have e2 : (a.length == 0) = false := by rw [beq_eq_false_iff_ne]; omega
  rw [e1, e2, if_neg (by decide)]
  have key : ∀ (k : Nat) (acc : Array Nat), ((List.replicate k a.cps).foldl (· ++ ·) acc).size = acc.size + k * a.cps.size := by
    intro k
    induction k with
    | zero => intro acc; show acc.size = _; omega
    | succ k ih =>
      intro acc
      rw [List.replicate_succ, List.foldl_cons, ih, Array.size_append, Nat.succ_mul]
      omega
  show ((List.replicate n.toNat a.cps).foldl (· ++ ·) #[]).size = a.cps.size * n.toNat
  rw [key, Nat.mul_comm]
  show 0 + _ = _
  omega
theorem same_at {H H' : Hp} {p : Addr} {o : HO} (n : H p = none) (s : Same H H') : Same H (upd H' p o) := fun b u e => by
  rw [upd_ne (ne_of_none e n)]
  exact s b u e
theorem same_new {H H' : Hp} {p : Addr} {o : HO} (s : Same H H') (n : H' p = none) : Same H (upd H' p o) := same_at (s.free n) s
theorem sqT_same {K : PySem.W.Frag} {H H' : Hp} {a : Addr} {xs : List V} (e : Same H H') (h : SqT K H a xs) : SqT K H' a xs := by
  rcases h with (h | ⟨o, h⟩) | h
  · exact .inl (.inl (e _ _ h))
  · exact .inl (.inr ⟨o, e _ _ h⟩)
  · exact .inr h
theorem small_line {n : Nat} (h : n ≤ 100000) : n < sizeLine := Nat.lt_of_le_of_lt h (by decide)
theorem take_snoc {α : Type} {l : List α} {i : Nat} {x : α} (h : l[i]? = some x) : l.take (i + 1) = l.take i ++ [x] := by
  rw [List.take_add_one, h]
  rfl
/-- the three numbers of some dice -/
def DiceAt (H : Hp) (d : Addr) : Prop := ∃ x b c : Int, H d = some (.lst [.int x, .int b, .int c])
end Gx

set_option maxRecDepth 100000
set_option maxHeartbeats 4000000
namespace Mx
open PySem PySem.Spec PyProof.Rows L2 Gx
/-! ### names: the mathematics -/
def isLow (c : Nat) : Bool := decide (97 ≤ c ∧ c ≤ 122)
/-- whether a text is a name -/
def nameB (z : Str) : Bool := (decide (1 ≤ z.cps.size) && decide (z.cps.size ≤ 8)) && z.cps.toList.all isLow
theorem low_facts : ∀ c, c < 128 → (isLow c = true → Unicode.isAlpha c = true ∧ Unicode.isLower c = true ∧ Unicode.isUpper c = false ∧ Unicode.isTitle c = false) ∧ (Unicode.isAlpha c = true → Unicode.isUpper c = false → isLow c = true) := by decide +kernel
theorem isLow_lt {c : Nat} (h : isLow c = true) : c < 128 := by
  have := of_decide_eq_true h
  omega
/-- what is_name reckons of a text -/
theorem name_by (z : Str) (h1 : 1 ≤ z.cps.size) : (Txt.isascii z && (Txt.isalpha z && Txt.islower z)) = z.cps.toList.all isLow := by
  have hl : z.length = z.cps.size := rfl
  unfold Txt.isascii Txt.isalpha Txt.islower
  rw [Bool.eq_iff_iff]
  simp only [Bool.and_eq_true, Array.all_eq_true', Array.any_eq_true', List.all_eq_true, decide_eq_true_eq, Bool.not_eq_true', Array.any_eq_false', Bool.or_eq_true, not_or, Bool.not_eq_true, Array.mem_toList_iff, hl]
  constructor
  · rintro ⟨ha, ⟨_, hb⟩, _, hd⟩ c hc
    exact (low_facts c (ha c hc)).2 (hb c hc) (hd c hc).1
  · intro h
    have f := fun c hc => (low_facts c (isLow_lt (h c hc))).1 (h c hc)
    refine ⟨fun c hc => isLow_lt (h c hc), ⟨h1, fun c hc => (f c hc).1⟩, ⟨z.cps[0], Array.getElem_mem (by omega), (f _ (Array.getElem_mem (by omega))).2.1⟩, fun c hc => ⟨(f c hc).2.2.1, (f c hc).2.2.2⟩⟩
/-! ### counts -/
def abcL : List Nat := [97,98,99,100,101,102,103,104,105,106,107,108,109,110,111,112,113,114,115,116,117,118,119,120,121,122]
theorem count_cnt (x : Str) (c : Nat) : Txt.count x ⟨#[c]⟩ = cnt c x.cps.toList := count_is x c
theorem one_sum (n : Nat) : ∀ L : List Nat, L.Nodup → (L.map fun c => if n = c then (1 : Int) else 0).sum = if n ∈ L then 1 else 0
  | [], _ => rfl
  | a :: L, h => by
    obtain ⟨h1, h2⟩ := List.nodup_cons.mp h
    rw [List.map_cons, List.sum_cons, one_sum n L h2]
    by_cases e : n = a
    · subst e
      rw [if_pos rfl, if_neg h1, if_pos (List.mem_cons_self ..)]
      rfl
    · rw [if_neg e]
      by_cases m : n ∈ L
      · rw [if_pos m, if_pos (List.mem_cons_of_mem _ m)]; rfl
      · rw [if_neg m, if_neg (by
          rw [List.mem_cons]
          rintro (z | z)
          · exact e z
          · exact m z)]; rfl
theorem cnt_sum (L : List Nat) (hL : L.Nodup) : ∀ l : List Nat, (L.map fun c => cnt c l).sum = (l.countP (fun n => decide (n ∈ L)) : Nat)
  | [] => by
    have : ∀ L : List Nat, (L.map fun c => cnt c []).sum = 0 := fun L => by
      induction L with
      | nil => rfl
      | cons a L ih => rw [List.map_cons, List.sum_cons, ih]; rfl
    rw [this]
    rfl
  | n :: r => by
    have h : ∀ L : List Nat, (L.map fun c => cnt c (n :: r)).sum = (L.map fun c => if n = c then (1 : Int) else 0).sum + (L.map fun c => cnt c r).sum := fun L => by
      induction L with
      | nil => rfl
      | cons a L ih => rw [List.map_cons, List.sum_cons, ih, cnt_cons, List.map_cons, List.sum_cons, List.map_cons, List.sum_cons]; omega
    rw [h, one_sum n L hL, cnt_sum L hL r, List.countP_cons]
    by_cases m : n ∈ L
    · rw [if_pos m, if_pos (decide_eq_true m)]; omega
    · rw [if_neg m, if_neg (by rw [decide_eq_false m]; decide)]; omega
theorem mem_abc (n : Nat) : n ∈ abcL ↔ isLow n = true := by
  unfold isLow
  rw [decide_eq_true_eq]
  constructor
  · intro h
    have : ∀ n ∈ abcL, 97 ≤ n ∧ n ≤ 122 := by decide
    exact this n h
  · intro h
    have : ∀ n, n < 123 → 97 ≤ n → n ∈ abcL := by decide
    exact this n (by omega) h.1
/-- all letters' counts together -/
def known (z : Str) (L : List Nat) : Int := (L.map fun c => Txt.count z ⟨#[c]⟩).sum
theorem known_eq (z : Str) : known z abcL = (z.cps.toList.countP isLow : Nat) := by
  unfold known
  have e : (abcL.map fun c => Txt.count z ⟨#[c]⟩) = abcL.map fun c => cnt c z.cps.toList := List.map_congr_left fun c _ => count_cnt z c
  rw [e, cnt_sum abcL (by decide)]
  congr 2
  funext n
  rw [Bool.eq_iff_iff, decide_eq_true_eq, mem_abc]
theorem due_eq (z : Str) : (decide (known z abcL = (z.cps.size : Int)) && (decide ((0 : Int) < known z abcL) && decide (known z abcL < 9))) = nameB z := by
  rw [known_eq]
  unfold nameB
  have hz : z.cps.size = z.cps.toList.length := by simp
  have hle := List.countP_le_length (p := isLow) (l := z.cps.toList)
  by_cases h : z.cps.toList.countP isLow = z.cps.toList.length
  · have ha : z.cps.toList.all isLow = true := by
      rw [List.all_eq_true]
      exact List.countP_eq_length.mp h
    rw [ha, h, hz]
    generalize z.cps.toList.length = n
    rw [Bool.and_true, decide_eq_true (show (n : Int) = (n : Int) from rfl), Bool.true_and]
    have e1 : decide ((0 : Int) < (n : Int)) = decide (1 ≤ n) := decide_eq_decide.mpr (by omega)
    have e2 : decide ((n : Int) < 9) = decide (n ≤ 8) := decide_eq_decide.mpr (by omega)
    rw [e1, e2]
  · have ha : z.cps.toList.all isLow = false := by
      rw [Bool.eq_false_iff]
      intro q
      rw [List.all_eq_true] at q
      exact h (List.countP_eq_length.mpr q)
    rw [ha, Bool.and_false, decide_eq_false (by omega), Bool.false_and]
theorem known_step (z : Str) {L : List Nat} {i c : Nat} (h : L[i]? = some c) : known z (L.take (i + 1)) = known z (L.take i) + Txt.count z ⟨#[c]⟩ := by
  unfold known
  have e : (L.map fun c => Txt.count z ⟨#[c]⟩)[i]? = some (Txt.count z ⟨#[c]⟩) := by rw [List.getElem?_map, h]; rfl
  rw [List.map_take, List.map_take, sum_take e]
end Mx

set_option maxRecDepth 100000
set_option maxHeartbeats 4000000
namespace Gx
open PySem PySem.Spec PyProof.Rows L2
/-! ### promises that hold where no repr is under way -/
/-- no repr is under way -/
abbrev Gd (A : Around) : Prop := A.guards = some []
structure FnG (P : Program) (w : World) (K : PySem.W.Frag) (mg : Str → Option Value) (base : Heap) (CX : CXT) (k : Nat) (f : Addr) (fd : FuncData) (ps : List Str) (sp : Sp) : Prop where
  len : ∀ vs H Q E, sp vs H Q E → vs.length = ps.length
  run : ∀ (A : Around) (outer : List Env) (s : Shared) (H : Hp) (args : Args) (us : List Value) (vs : List V) (Q : VK) (E : XK),
    Gd A → Room k A → Env0 P w K mg base A outer s H → BindsTo s fd args (ps.zip us) → Vals vs us → sp vs H Q E →
      codeAny (model P w) A (.call (.ref f) args) (CR CX outer P w H s Q E) s
section
variable {P : Program} {w : World} {K : PySem.W.Frag} {mg : Str → Option Value} {base : Heap} {CX : CXT} {k : Nat} {f : Addr} {fd : FuncData} {ps : List Str} {sp : Sp}
theorem fnG_of (F : FnOk P w K mg base CX k f fd ps sp) : FnG P w K mg base CX k f fd ps sp := ⟨F.len, fun A outer s H args us vs Q E _ => F.run A outer s H args us vs Q E⟩
theorem FnG.up {j : Nat} (F : FnG P w K mg base CX j f fd ps sp) (h : j ≤ k) : FnG P w K mg base CX k f fd ps sp :=
  ⟨F.len, fun A outer s H args us vs Q E g hr => F.run A outer s H args us vs Q E g (hr.mono h)⟩
theorem FnG.less {sp' : Sp} (F : FnG P w K mg base CX k f fd ps sp) (h : ∀ vs H Q E, sp' vs H Q E → sp vs H Q E) : FnG P w K mg base CX k f fd ps sp' :=
  ⟨fun vs H Q E q => F.len vs H Q E (h vs H Q E q), fun A outer s H args us vs Q E g hr he hb hv hs => F.run A outer s H args us vs Q E g hr he hb hv (h vs H Q E hs)⟩
end
/-- a def by its body, where no repr is under way -/
theorem fnG_body {CX : CXT} {P : Program} {w : World} {K : PySem.W.Frag} {mg : Str → Option Value} {base : Heap} {k : Nat} {f : Addr} {nm ql : Str} {prm : Arguments} {bd : List Stmt} {sc : Scope}
    {dv kv dc pm cd ct oc : Value} {an od : Option Addr} {sl : Array (Option Value)} {N ps : List Str} {sp : Sp}
    (look : K.lookup f = some ⟨oc, od, .func (PySem.W.fnOf nm ql prm bd sc dv kv dc pm an cd ct), sl⟩) (hcode : PySem.W.codeIn K cd ql = true) (S : FnScope N ps sc)
    (hlen : ∀ vs H Q E, sp vs H Q E → vs.length = ps.length)
    (hb : ∀ (A : Around) (outer : List Env) (s : Shared) (H : Hp) (vs : List V) (Q : VK) (E : XK), Gd A → Room k (A.deeper (envOfC ql sc s.heap.objs.size f cd)) → sp vs H Q E →
      ∃ t, PSs (cxOf CX P w K mg base N ql sc f cd A outer s H E) bd t ∧ t { nx := fun _ H' => Q .non H', rt := Q } (start N vs) H) :
    FnG P w K mg base CX (k + 1) f (PySem.W.fnOf nm ql prm bd sc dv kv dc pm an cd ct) ps sp := by
  constructor
  · exact hlen
  · intro A outer s H args us vs Q E g room env bind rel want
    have inS : K.In s.heap := env.mod.kin.keeps fun b o e => (env.bs b o e).1
    have noLim : s.heap.NoLimit := env.mod.nolimit.keeps fun b o e => (env.bs b o e).1
    have kinds : ∀ y ∈ ps.zip us, sc.names.lookup y.1 = some .local ∨ (sc.names.lookup y.1 = some .cell ∧ ((cellsFrom (s.heap.objs.size + 1) sc.names []).lookup y.1).isSome = true) := by
      rintro ⟨n, v⟩ hy
      rcases S.par n (List.of_mem_zip hy).1 with q | q
      · exact Or.inl q
      · exact Or.inr ⟨q, PySem.W.cellsFrom_some _ _ _ (Or.inl q)⟩
    refine codeAny_call_function room.depth (inS _ _ look) rfl S.co S.gen rfl (PySem.W.codeRec_of inS hcode)
      (bind _ _ _ _ (wpAny_newFunctionEnv_cells S.kind kinds fun env' he s1 made => ?_))
    subst he
    refine ⟨noLim.keeps made.toInCall.keep, codeAny_func ?_⟩
    obtain ⟨t, ht, hq⟩ := hb A outer s H vs Q E g (room.deeper _) want
    have I0 := inv_start (CX := CX) (E := E) (N := N) S room.hd env (hlen _ _ _ _ want) rel made
    refine wpAny_mono (ht.run [] s1 (start N vs) H _ I0 hq) ?_ (fun e s' hs => hs)
    intro fl s' hs
    cases fl with
    | brk =>
      obtain ⟨_, _, _, no⟩ := hs
      exact no.elim
    | cont =>
      obtain ⟨_, _, _, no⟩ := hs
      exact no.elim
    | next =>
      obtain ⟨σ', H', J, q⟩ := hs
      exact ⟨V.non, H', J.os, J.bare, J.base, J.hok, rfl, q⟩
    | ret u =>
      obtain ⟨v, σ', H', J, rv, q⟩ := hs
      exact ⟨v, H', J.os, J.bare, J.base, J.hok, rv, q⟩
section
variable {P : Program} {w : World} {K : PySem.W.Frag} {mg : Str → Option Value} {base : Heap}
/-- .. of the text -/
theorem okG {x qual : Str} {st : Stmt} {f : Addr} {fd : FuncData} {N ps : List Str} {k : Nat} {sp : Sp} (F : Fun K x qual st f fd) (S : FnScope N ps (defScope st)) (hlen : ∀ vs H Q E, sp vs H Q E → vs.length = ps.length)
    (hb : ∀ (cdv : Value) (A : Around) (outer : List Env) (s : Shared) (H : Hp) (vs : List V) (Q : VK) (E : XK), Gd (A.deeper (envOfC qual (defScope st) s.heap.objs.size f cdv)) → Room k (A.deeper (envOfC qual (defScope st) s.heap.objs.size f cdv)) → sp vs H Q E →
      ∃ t, PSs (cxOf CX0 P w K mg base N qual (defScope st) f cdv A outer s H E).nox (defBody st) t ∧ t { nx := fun _ H' => Q .non H', rt := Q } (start N vs) H) : FnG P w K mg base CX0 (k + 1) f fd ps sp := by
  obtain ⟨oc, od, kV, doc, pm, an, cdv, ct, osl, rfl, lk, hcd⟩ := F.ex
  refine fnG_body lk hcd S hlen fun A outer s H vs Q E g hr want => ?_
  obtain ⟨t, h, q⟩ := hb cdv A outer s H vs Q E g hr want
  exact ⟨t, h.nox, q⟩
/-- .. which may raise -/
theorem okGX {x qual : Str} {st : Stmt} {f : Addr} {fd : FuncData} {N ps : List Str} {k : Nat} {sp : Sp} (F : Fun K x qual st f fd) (S : FnScope N ps (defScope st)) (hlen : ∀ vs H Q E, sp vs H Q E → vs.length = ps.length) {CX : CXT}
    (hb : ∀ (cdv : Value) (A : Around) (outer : List Env) (s : Shared) (H : Hp) (vs : List V) (Q : VK) (E : XK), Gd (A.deeper (envOfC qual (defScope st) s.heap.objs.size f cdv)) → Room k (A.deeper (envOfC qual (defScope st) s.heap.objs.size f cdv)) → sp vs H Q E →
      ∃ t, PSs (cxOf CX P w K mg base N qual (defScope st) f cdv A outer s H E) (defBody st) t ∧ t { nx := fun _ H' => Q .non H', rt := Q } (start N vs) H) : FnG P w K mg base CX (k + 1) f fd ps sp := by
  obtain ⟨oc, od, kV, doc, pm, an, cdv, ct, osl, rfl, lk, hcd⟩ := F.ex
  exact fnG_body lk hcd S hlen fun A outer s H vs Q E g hr want => hb cdv A outer s H vs Q E g hr want
/-- the name x is a def that keeps the promise sp where no repr is under way -/
def CalG (P : Program) (w : World) (K : PySem.W.Frag) (mg : Str → Option Value) (base : Heap) (k : Nat) (x : Str) (ps : List Str) (sp : Sp) : Prop :=
  ∃ (f : Addr) (fd : FuncData), FnG P w K mg base CX0 k f fd ps sp ∧ PySem.W.keepIn K (.ref f) = true ∧ Binds K fd ps [] ∧ mg x = some (.ref f)
theorem Cal.g {k : Nat} {x : Str} {ps : List Str} {sp : Sp} (c : Cal P w K mg base k x ps sp) : CalG P w K mg base k x ps sp := by
  obtain ⟨f, fd, F, r⟩ := c
  exact ⟨f, fd, fnG_of F, r⟩
theorem CalG.up {j k : Nat} {x : Str} {ps : List Str} {sp : Sp} (c : CalG P w K mg base j x ps sp) (h : j ≤ k) : CalG P w K mg base k x ps sp := by
  obtain ⟨f, fd, F, r⟩ := c
  exact ⟨f, fd, F.up h, r⟩
theorem Def.calG {x qual : Str} {st : Stmt} {ps : List Str} (d : Def K mg x qual st ps) {k : Nat} {sp : Sp} (h : ∀ f fd, Fun K x qual st f fd → FnG P w K mg base CX0 k f fd ps sp) : CalG P w K mg base k x ps sp := by
  obtain ⟨f, fd, F, b, g⟩ := d
  exact ⟨f, fd, h f fd F, F.kp, b, g⟩
end
section
variable {X : Cx}
/-- the callee runs -/
theorem runG {CX : CXT} {k : Nat} {f : Addr} {fd : FuncData} {ps : List Str} {sp : Sp} {E : XK} {ds : List Value} {dvs : List V} {pins : List (Addr × Obj)} {σ : L2.St} {H : Hp} {s : Shared} {Q : VK} {us : List Value} {vs : List V}
    (F : FnG X.prog X.w X.K X.mg X.base CX k f fd ps sp) (g : Gd X.A) (room : Room k X.A) (hb : Binds X.K fd ps ds) (hd : Vals dvs ds) (hx : Passes CX X E)
    (I : Inv X pins σ H s) (r : Vals vs us) (want : sp (vs ++ dvs) H Q E) : wpAny (model X.prog X.w) X.A (call (.ref f) us) (EP X pins σ Q) X.xe s := by
  have rel := r.append hd
  have hl : (us ++ ds).length = ps.length := rel.length.symm.trans (F.len _ _ _ _ want)
  have hc := F.run X.A X.stack s H ⟨us, []⟩ (us ++ ds) (vs ++ dvs) Q E g room I.env0 (hb s us I.kIn hl) rel want
  refine wpAny_call (codeAny_mono hc ?_)
  intro res s' hres
  match res, hres with
  | .error e, hres => exact hx pins σ H s e s' I hres
  | .ok (.ret u), hres => exact I.after hres
theorem pe_calG {x : Str} {ps : List Str} {sp : Sp} {k : Nat} {e : Expr} {es : List Expr} {t : TA} {p pos : Pos} (c : CalG X.prog X.w X.K X.mg X.base k x ps sp) (g : Gd X.A) (room : Room k X.A) (hg : Gl X x) (h : PA X (e :: es) t)
    (hdb : (x == ("__debug__" : Str)) = false := by decide) (hst : starEach (e :: es) X.env = (false, eval e X.env) :: starEach es X.env := by rfl) (hpl : (backTo pos (starEach es X.env)).any (·.1) = false := by rfl) :
    PE X (.Call (.Name x p) (e :: es) [] pos) (tCl sp t) := by
  obtain ⟨f, fd, F, kp, b, hm⟩ := c
  rw [← tCl_eq]
  refine ⟨fun pins s σ H Q I want => wpAny_Call_Name_kw (ld_glob I hg hm ?_ hdb)⟩
  exact PySem.W.callWith_K (h₀ := X.base) I.ok.mod.kin kp (thn (h.run pos pins s σ H _ I want) fun us s1 ⟨vs, H1, I1, r, q⟩ => ⟨I1.kIn, runG F g room b .nil pass0 I1 r q⟩) hst hpl
theorem pe_calG0 {x : Str} {ps : List Str} {sp : Sp} {k : Nat} {p pos : Pos} (c : CalG X.prog X.w X.K X.mg X.base k x ps sp) (g : Gd X.A) (room : Room k X.A) (hg : Gl X x)
    (hdb : (x == ("__debug__" : Str)) = false := by decide) : PE X (.Call (.Name x p) [] [] pos) (tCl sp tNil) := by
  obtain ⟨f, fd, F, kp, b, hm⟩ := c
  rw [← tCl_eq]
  exact ⟨fun pins s σ H Q I want => wpAny_Call_Name_kw (ld_glob I hg hm (PySem.W.callWith_K0 I.kIn kp (runG (us := []) F g room b .nil pass0 I .nil want)) hdb)⟩
end
/-! ### repr of data -/
theorem repr_ref {prog : Program} {w : World} {A : Around} {E : Value → Shared → Prop} {s : Shared} {Q : Value → Shared → Prop} {a : Addr} {d : PyData} {as : List Addr}
    (r : Reads s.heap (.ref a) d as) (hs : d.showable = true) (hsm : d.hasDict = true → sysModules ∉ as) (hsz : d.shown.length ≤ sizeLine) (g : Gd A) (hu : A.units + 1 + d.depth < cLine)
    (h : ∀ h' u tk, (∀ b o, s.heap.get? b = some o → h'.get? b = some o) → Q (.str d.shown u) { s with heap := h', toks := tk }) : wpAny (model prog w) A (call (.builtin "repr") [.ref a]) Q E s := by
  obtain ⟨T, idr, B⟩ := showsBy_of_reads (prog := prog) (w := w) r hs hsm hsz
  have hT := B.typeIs s fun _ _ e => e
  refine Calls.call_function_entry F.kind_repr F.plain_repr F.entry_repr (F.args_repr1 _) ?_
  unfold Builtin.«repr»
  refine wpAny_bind (m := oneArg "repr" _) (wpAny_pure ?_)
  refine wpAny_bind (wpAny_cRoomFor (by show A.units + 1 < cLine; omega) ?_)
  refine wpAny_bind (wpAny_specialOf (name := Str.ofString "__repr__") hT B.slotRepr.lookup ?_)
  refine wpAny_bind (m := callSpecialIfBound? (.ref a) (Str.ofString "__repr__")) (wpAny_callSpecialIfBound?_slotG (name := Str.ofString "__repr__") hT B.slotRepr (B.call _ _ s _ g (by show A.units + 1 + _ < cLine; omega) (fun _ _ e => e) fun h' u tk hk => ?_))
  refine wpAny_bind (wpAny_isInstance (T := "str") (b := true) rfl isSubtype_str_str ?_)
  exact wpAny_pure ⟨_, rfl, h h' u tk hk⟩
section
variable {X : Cx}
/-- repr(x), x data without dicts -/
def rRepr (K : PySem.W.Frag) : List V → Hp → VK → Prop := fun xs H Q => ∃ (x : V) (d : PyData), xs = [x] ∧ Dp K H x d ∧ d.showable = true ∧ d.hasDict = false ∧ d.depth ≤ 60 ∧ d.shown.length ≤ sizeLine ∧ Q (.str d.shown) H
theorem call_reprD (g : Gd X.A) (hu : X.A.units + 64 < cLine) : CallR X (.builtin "repr") (rRepr X.K) := by
  intro pins s σ H xs us Q I r h
  obtain ⟨x, d, rfl, hd, h1, h2, h3, h4, q⟩ := h
  obtain ⟨u, rfl, rx⟩ := vals1 r
  obtain ⟨as, hr⟩ := Dp.reads I d x u hd rx
  cases hr with
  | none => simp only [PyData.shown] at q; exact PySem.P.repr_of_none ⟨.str _, H, I.tok _, ⟨_, rfl⟩, q⟩
  | bool b => simp only [PyData.shown] at q; exact PySem.P.repr_of_bool ⟨.str _, H, I.tok _, ⟨_, rfl⟩, q⟩
  | int i t => simp only [PyData.shown] at q; exact PySem.P.repr_of_int (by simpa [PyData.showable] using h1) ⟨.str _, H, I.tok _, ⟨_, rfl⟩, q⟩
  | str y t => simp only [PyData.shown] at q h4; exact PySem.P.repr_of_str ⟨.str _, H, I.tok _, ⟨_, rfl⟩, q⟩ h4
  | list e1 e2 e3 e4 =>
    exact repr_ref (.list e1 e2 e3 e4) h1 (fun e => by rw [h2] at e; cases e) h4 g (by omega) fun h' u tk hk => ⟨.str _, H, I.kept (t' := tk) hk, ⟨_, rfl⟩, q⟩
  | tuple e1 e2 e3 e4 =>
    exact repr_ref (.tuple e1 e2 e3 e4) h1 (fun e => by rw [h2] at e; cases e) h4 g (by omega) fun h' u tk hk => ⟨.str _, H, I.kept (t' := tk) hk, ⟨_, rfl⟩, q⟩
  | dict e1 e2 e3 e4 e5 =>
    exact repr_ref (.dict e1 e2 e3 e4 e5) h1 (fun e => by rw [h2] at e; cases e) h4 g (by omega) fun h' u tk hk => ⟨.str _, H, I.kept (t' := tk) hk, ⟨_, rfl⟩, q⟩
end
/-! ### sorted of a tuple of texts -/
section
variable {X : Cx}
def rSortedTS (K : PySem.W.Frag) : List V → Hp → VK → Prop := fun vs H Q => ∃ (a : Addr) (xs : List Str), vs = [V.ref a] ∧ SqT K H a (xs.map V.str) ∧ xs.length ≤ 100000 ∧
  ∀ (ys : List Str) (p : Addr), ys.Perm xs → sortedS ys = true → H p = none → Q (.ref p) (upd H p (.lst (ys.map V.str)))
theorem cr_sortedTS : CallR X (.builtin "sorted") (rSortedTS X.K) := by
  intro pins s σ H vs us Q I r h
  obtain ⟨a, xs, rfl, ht, hz, q⟩ := h
  obtain ⟨its, rv, ⟨o, ho, hc, n, hd⟩, _⟩ := I.tuple ht
  rw [Vals.ref1 r]
  have hln : xs.length = its.length := by
    have e := rv.length
    rw [List.length_map] at e
    exact e
  have hS : StrsAre its xs := rv.strs
  have hL : its.length ≤ sizeLine := Nat.le_trans (by omega) (show 100000 ≤ sizeLine by decide)
  refine Calls.call_function_entry kind_sorted plain_sorted entry_sorted (args_sorted1 _) ?_
  unfold Builtin.«sorted»
  refine wpAny_bind (m := checkCount "sorted" 1 1 _) (wpAny_pure ?_)
  refine wpAny_bind (wpAny_collect_seq a (.inr rfl) ho hc hd (fun h' hk => ?_) (by rw [List.size_toArray]; exact hL))
  have I1 : Inv _ pins σ H { s with heap := h' } := I.kept (t' := s.toks) hk
  rw [List.toList_toArray]
  refine wpAny_bind (wpAny_newList ?_ hL)
  have hoL : (h'.push (seqObj "list" its.toArray 0)).get? h'.objs.size = some (seqObj "list" its.toArray 0) := Heap.get?_push_size _ rfl
  show wpAny _ _ _ _ _ { s with heap := h'.push (seqObj "list" its.toArray 0) }
  refine wpAny_bind (wpAny_holding (wpAny_call_entry slot_list_sort ⟨_, hoL, rfl⟩ entry_list_sort
    (list_sort_treeKAny strKind_oneLt (s := { s with heap := h'.push (seqObj "list" its.toArray 0) }) hoL hS.keysOf (fun v₁ v₂ rest e => keyKind_strs (by rw [← e]; exact hS)) hL fun st' hp hs => ⟨_, rfl, ?_⟩) (args_list_sort _)))
  obtain ⟨ys, g1, g2, g3⟩ := sorted_out_str hS hp hs
  obtain ⟨e', he'⟩ := sortedHeap_at (vs := its) (out := (arrOf st').map (·.2)) hoL
  have hlen : (ys.map V.str).length ≤ sizeLine := by
    rw [List.length_map, g2.length_eq, hln]
    exact hL
  refine wpAny_pure ⟨_, rfl, .ref h'.objs.size, upd H h'.objs.size (.lst (ys.map V.str)), I1.laid (t' := s.toks) (fun b u e => ?_) (Nat.le_refl _)
    (show ObjOk X.prog X.w _ _ _ (.lst (ys.map V.str)) from ⟨hlen, ((arrOf st').map (·.2)).toList, e', vals_of_strs g1, by rw [Array.toArray_toList]; exact he'⟩), rfl, q ys _ g2 g3 (I1.hok.fresh (Nat.le_refl _))⟩
  have hb : b < h'.objs.size := Heap.lt_size e
  rw [sortedHeap_old (Nat.ne_of_lt hb) (by rw [size_push']; exact Nat.lt_succ_of_lt hb)]
  exact Heap.get?_push_of_some _ e
end
/-! ### the end of a law whose promise holds where no repr is under way -/
/-- the abstract heap at the law's call: the script alone, if the module does not own it -/
def H00 (a : Addr) (o : Obj) (ns : List Int) (own : Bool) : Hp := fun b => if own = false ∧ b = a then some (.frz o (.lst (ns.map V.int))) else none
theorem h00_none {a b : Addr} {o : Obj} {ns : List Int} {own : Bool} (h : own = true ∨ b ≠ a) : H00 a o ns own b = none := by
  unfold H00
  rw [if_neg]
  rintro ⟨h1, h2⟩
  rcases h with h | h
  · rw [h1] at h; cases h
  · exact h h2
theorem h00_some {a b : Addr} {o : Obj} {ns : List Int} {own : Bool} {u : HO} (h : H00 a o ns own b = some u) : own = false ∧ b = a ∧ u = .frz o (.lst (ns.map V.int)) := by
  unfold H00 at h
  by_cases c : own = false ∧ b = a
  · rw [if_pos c] at h
    exact ⟨c.1, c.2, (Option.some.inj h).symm⟩
  · rw [if_neg c] at h
    cases h
theorem lawG {P : Program} {w : World} {K : PySem.W.Frag} {mg mb : Str → Option Value} {CX : CXT} {k : Nat} {fa a : Addr} {fd : FuncData} {x : Str} {sp : Sp} {t : Shared} {vs : List Value} {ns : List Int}
    (inK : K.In t.heap) (glob : t.heap.Ns mainGlobals mg) (blt : t.heap.Ns builtinsNs mb) (boot : ∀ y : Str, y ≠ "__name__" → mb y = bootBuiltins y) (noLim : t.heap.NoLimit) (gens : t.gens = #[])
    (scr : t.heap.get? a = some { cls := .type "list", data := .seq vs.toArray }) (hints : IntsAre vs ns) (short : ns.length ≤ sizeLine) (room : Room k callerA)
    (F : ∀ base : Heap, K.In base → base.Ns mainGlobals mg → FnG P w K mg base CX k fa fd [x] sp) (bind : ∀ (s : Shared) (u : Value), BindsTo s fd ⟨[u], []⟩ [(x, u)])
    (want : ∀ H : Hp, Only H → SqL K H a (ns.map V.int) → sp [.ref a] H (fun v _ => v = .bl true) fun _ _ _ => False)
    (noErr : ∀ H e s', CX [] H t (fun _ _ _ => False) e s' → False) :
    codeAny (model P w) callerA (.call (.ref fa) ⟨[.ref a], []⟩) (fun r s' => r = .ok (.ret (.bool true)) ∧ OldK t.heap s'.heap ∧ s'.os = t.os ∧ AllBare s'.gens) t := by
  have hv : Vals (ns.map V.int) vs := vals_ints hints
  have hlv : vs.length = ns.length := hints.length
  -- does the module own the script?
  obtain ⟨own, hown⟩ : ∃ own : Bool, own = (K.lookup a).isSome := ⟨_, rfl⟩
  let o : Obj := { cls := .type "list", data := .seq vs.toArray }
  have hOk : HOk P w (H00 a o ns own) t.heap := by
    intro b u e
    obtain ⟨_, rfl, rfl⟩ := h00_some e
    exact ⟨scr, by rw [List.length_map]; exact short, vs, _, hv, scr⟩
  have keepT : ∀ {b : Addr} {ob : Obj}, t.heap.get? b = some ob → own = true ∨ b ≠ a → (hidT t.heap (H00 a o ns own)).get? b = some ob := fun e n => hidT_get e (h00_none n)
  have notScr : ∀ {b : Addr} {m : Str → Option Value}, t.heap.Ns b m → b ≠ a := by
    rintro b m ⟨ob, es, ep, e, dd, _⟩ rfl
    rw [scr] at e
    cases e
    cases dd
  have nsKeep : ∀ {b : Addr} {m : Str → Option Value}, t.heap.Ns b m → (hidT t.heap (H00 a o ns own)).Ns b m := by
    intro b m n
    have ne := notScr n
    obtain ⟨ob, es, ep, e, r⟩ := n
    exact ⟨ob, es, ep, keepT e (.inr ne), r⟩
  have inK' : K.In (hidT t.heap (H00 a o ns own)) := by
    intro b ob e
    refine keepT (inK b ob e) ?_
    by_cases hb : b = a
    · subst hb
      left
      rw [hown, e]
      rfl
    · exact .inr hb
  have noLim' : (hidT t.heap (H00 a o ns own)).NoLimit := by
    obtain ⟨mc, h1, h2⟩ := noLim
    exact ⟨mc, nsKeep h1, h2⟩
  have env : Env0 P w K mg (hidT t.heap (H00 a o ns own)) callerA [] t (H00 a o ns own) := by
    refine ⟨rfl, ⟨inK', nsKeep glob, ⟨mb, nsKeep blt, boot⟩, noLim'⟩, fun b ob e => of_hidT e, Nat.le_of_eq (hidT_size _ _), trivial, ?_, hOk, .of_eq gens⟩
    intro b hb
    exact absurd (show b ∈ ([] : List Addr) from hb) List.not_mem_nil
  have only : Only (H00 a o ns own) := by
    intro b
    cases e : H00 a o ns own b with
    | none => exact .inl rfl
    | some u =>
      obtain ⟨_, _, rfl⟩ := h00_some e
      exact .inr ⟨_, _, rfl⟩
  have hS : SqL K (H00 a o ns own) a (ns.map V.int) := by
    cases own with
    | false => exact .inl (.inr ⟨o, by unfold H00; rw [if_pos ⟨rfl, rfl⟩]⟩)
    | true =>
      obtain ⟨ob, e⟩ := Option.isSome_iff_exists.mp hown.symm
      have e2 := inK a ob e
      rw [scr] at e2
      cases e2
      exact .inr ⟨_, vs.toArray, _, e, rfl, rfl, rfl, by rw [List.size_toArray, hlv]; exact short, by simpa using hv⟩
  have runs := (F _ inK' (nsKeep glob)).run callerA [] t (H00 a o ns own) ⟨[.ref a], []⟩ [.ref a] [.ref a] _ _ rfl room env (bind t (.ref a)) (.cons rfl .nil) (want _ only hS)
  refine codeAny_mono runs ?_
  intro res s' hres
  match res, hres with
  | .error e, hres => exact (noErr _ e s' hres).elim
  | .ok (.ret u), hres =>
    obtain ⟨v, H', hos, bare, un, ok', rel, rfl⟩ := hres
    obtain rfl : u = Value.bool true := rel
    refine ⟨rfl, OldK.of_keep fun b ob e => ?_, hos, bare⟩
    cases q : H00 a o ns own b with
    | none => exact un.keep b ob e q (fun z => absurd (show b ∈ ([] : List Addr) from z) List.not_mem_nil) List.not_mem_nil
    | some u =>
      obtain ⟨_, _, rfl⟩ := h00_some q
      have q' := un.frzs b _ _ q
      have e1 := (hOk b _ q).1
      rw [e] at e1
      cases e1
      exact (ok' b _ q').1
/-- what k_head leaves -/
theorem walkG {l : PySem.W.OpenLaw} {n k : Nat} {q : Program} {loose : List Str} {XP : (Str → Option Value) → Heap → Prop} {YP : World → Heap → Prop} {d : DefRec} {K : Params → PySem.W.Frag} {CX : World → CXT} {sp : World → Sp} {x : Str}
    (most : l.most = some n) (small : n ≤ sizeLine) (plain : d.params.defaults = []) (room : Room k callerA) (hY : ∀ (w : World) (h : Heap), YP w h → (K w.params).In h)
    (F : ∀ (w : World) (mg : Str → Option Value) (fa : Addr) (h : Heap), (K w.params).In h → h.Ns mainGlobals mg → mg d.name = some (.ref fa) →
      ∃ fd : FuncData, (∀ (s : Shared) (u : Value), BindsTo s fd ⟨[u], []⟩ [(x, u)]) ∧ ∀ base : Heap, (K w.params).In base → base.Ns mainGlobals mg → FnG l.prog w (K w.params) mg base (CX w) k fa fd [x] (sp w))
    (want : ∀ (w : World) (H : Hp) (a : Addr) (ns : List Int), ns.length ≤ n → Only H → SqL (K w.params) H a (ns.map V.int) → sp w [.ref a] H (fun v _ => v = .bl true) fun _ _ _ => False)
    (noErr : ∀ (w : World) (H : Hp) (s : Shared) (e : Value) (s' : Shared), CX w [] H s (fun _ _ _ => False) e s' → False) :
    PySem.W.WalkO q loose XP YP l.row.toRowW d [] (fun f vs => PySem.call f vs) := by
  refine Att.attach_call most plain fun w s₀ t mg mb fa o pm cd doc a vs ns G Y ho hd hcd hmg scr hints hlen gens => ?_
  obtain ⟨fd, bind, body⟩ := F w mg fa _ (hY w _ Y) G.T.g hmg
  exact lawG (hY w _ Y) G.T.g G.T.b G.T.builtins G.T.nolimit gens scr hints (Nat.le_trans hlen small) room body bind (fun H hO hS => want w H a ns hlen hO hS) fun H e s' => noErr w H t e s'
end Gx

set_option maxRecDepth 100000
set_option maxHeartbeats 4000000
namespace Gx
open PySem PySem.Spec PySem.W PySem.Calls Builtin Builtin.ObjectAttr
section
variable {prog : Program} {w : World} {A : Around} {R : Result → Shared → Prop} {hp : Heap} {g : Array GenState} {d : Drawn} {t : Nat} {os : OsState} {K : Frag}
/-- the first field of an own exception, over any built-in base -/
theorem exc_storeX {B : String} {bmB : List Value} {name : Str} {tk : Tok} {v : Value} {x C t0 : Addr} (SF : StoreFacts B bmB "object.__setattr__" "object")
    (inK : K.In hp) (hx : hp.get? x = some (excObj C t0 none .none)) (over : excOver K C bmB = true) (noTake : takerIn K C name = some none) (hasD : hasDictIn K C = true)
    (hq : ∀ (h' : Heap) (tk' : Nat) (dx : Addr), (∀ b o, b ≠ x → hp.get? b = some o → h'.get? b = some o) → hp.objs.size ≤ dx → dx ≠ x → h'.get? x = some (excObj C t0 (some dx) .none) →
      h'.Ns1 dx (fun y => if y = name then some v else none) → R (.ok (.ret .none)) ⟨h', g, d, tk', os⟩) :
    codeAny (model prog w) A (.call (.builtin "object.__setattr__") ⟨[.ref x, .str name tk, v], []⟩) R ⟨hp, g, d, t, os⟩ := by
  have xs : x ≠ hp.objs.size := Nat.ne_of_lt (Heap.lt_size hx)
  refine osa_openX (s := ⟨hp, g, d, t, os⟩) (od := none) SF inK ⟨hx, rfl, rfl, trivial⟩ over noTake fun b => ?_
  obtain ⟨cd, hc, hd⟩ := any_some hasD
  refine wpAny_bind (wpAny_pure (wpAny_bind (instanceDict_exc (s := ⟨hp, g, d, t, os⟩) hx (looks_clsIn inK hc) hd ?_)))
  show wpAny _ _ (storeInDict hp.objs.size (.str name tk) name v) _ _ _
  have hx1 : (hp.push (dictOf [] 0)).get? x = some (excObj C t0 none .none) := Heap.get?_push_of_some _ hx
  refine PySem.HandSPX.store_in_new ⟨_, #[], _, (Heap.get?_update_ne _ _ _ _ xs.symm).trans (Heap.get?_push_at rfl rfl), rfl, fun e he => absurd he (by simp), fun _ => rfl⟩ fun h' tk' hn hs => ?_
  refine hq h' tk' hp.objs.size (fun b o hb ho => ?_) (Nat.le_refl _) xs.symm ((hs.2 x xs).trans (Heap.get?_update_self _ hx1 rfl)) hn
  have bl : b ≠ hp.objs.size := Nat.ne_of_lt (Heap.lt_size ho)
  exact (hs.2 b bl).trans ((Heap.get?_update_ne _ _ _ _ hb).trans (Heap.get?_push_of_some _ ho))
end
end Gx
namespace Gx
open PySem PySem.Spec PySem.W PySem.Calls PyProof.Rows L2
/-! ### own exceptions with one field: class cn(B): def __init__(self, fld): self.fld = fld -/
/-- what the written part says of the class -/
structure XTxt (K : Frag) (mg : Str → Option Value) (cn fld : Str) (newId : String) (bmB : List Value) (C fI : Addr) : Prop where
  gC : mg cn = some (.ref C)
  cls : ∃ nm q N bs bm sn sub ab col dd k0 k1 k2 k3 k5, K.lookup C = some (excClassObj nm q C N bs bm true sn sub ab col dd k0 k1 k2 k3 k5 newId) ∧ excTail bmB bm = true
  over : excOver K C bmB = true
  tak : takerIn K C fld = some none
  hdC : hasDictIn K C = true
  sa : findIn K (.ref C) "__setattr__" = some (some (.builtin "object.__setattr__"))
  ga : findIn K (.ref C) "__getattribute__" = some (some (.builtin "BaseException.__getattribute__"))
  gg : findIn K (.ref C) "__getattr__" = some none
  noN : findIn K (.ref C) fld = some none
  iC : findIn K (.ref C) "__init__" = some (some (.ref fI))
  tC : typeIn K (.ref fI) = some (.type "function")
  kC : keepIn K (.ref C) = true
  exC : subIn K (.ref C) (.type "BaseException") = some true
  tyC : typeIn K (.ref C) = some (.type "type")
  te : exmOne K (.ref C) (.ref C) = some true
/-- what __init__ leaves of a new exception at x -/
structure XInit (h h' : Heap) (x C dx t0 : Addr) (fld : Str) (v : Value) : Prop where
  keep : ∀ b o, b ≠ x → h.get? b = some o → h'.get? b = some o
  obj : h'.get? x = some (excObj C t0 (some dx) .none)
  big : h.objs.size ≤ dx
  ne : dx ≠ x
  ns : h'.Ns1 dx (fun y => if y = fld then some v else none)
/-- __init__ stores the field -/
def InitDoes (K : Frag) (C fI : Addr) (fld : Str) : Prop := ∀ (prog : Program) (w : World) (A : Around) (R : Result → Shared → Prop) (s : Shared) (x t0 : Addr) (v : Value),
  K.In s.heap → s.heap.NoLimit → s.heap.get? x = some (excObj C t0 none .none) → K.lookup x = none → A.depth < recursionLimit →
  (∀ h' tk dx, XInit s.heap h' x C dx t0 fld v → R (.ok (.ret .none)) { s with heap := h', toks := tk }) → codeAny (model prog w) A (.call (.ref fI) ⟨[.ref x, v], []⟩) R s
/-- such an exception, made -/
structure XMade (h h' : Heap) (e C d : Addr) (fld : Str) (v : Value) : Prop where
  keep : ∀ b o, h.get? b = some o → h'.get? b = some o
  new : h.objs.size ≤ e
  obj : ∃ oe vs, h'.get? e = some oe ∧ oe.cls = .ref C ∧ oe.dict = some d ∧ oe.data = .fields vs ∧ vs[1]? = some .none
  big : h.objs.size ≤ d
  ne : d ≠ e
  ns : h'.Ns1 d (fun y => if y = fld then some v else none)
theorem one_line (v : Value) : [v].length ≤ sizeLine := by
  show 1 ≤ sizeLine
  decide
section
variable {prog : Program} {w : World} {A : Around} {R : Result → Shared → Prop} {s : Shared} {K : Frag} {mg : Str → Option Value} {C fI : Addr} {cn fld : Str} {B newId initId : String} {bmB : List Value}
theorem x_made (FB : ExcBaseFacts B newId initId bmB) (T : XTxt K mg cn fld newId bmB C fI) (D : InitDoes K C fI fld) {v : Value} (inK : K.In s.heap) (lim : s.heap.NoLimit) (room : A.depth + 1 < recursionLimit)
    (hq : ∀ h' tk e d, XMade s.heap h' e C d fld v → R (.ok (.ret (.ref e))) { s with heap := h', toks := tk }) : codeAny (model prog w) A (.call (.ref C) ⟨[v], []⟩) R s := by
  obtain ⟨nm, q, N, bs, bm, sn, sub, ab, col, dd, k0, k1, k2, k3, k5, hC, tail⟩ := T.cls
  obtain ⟨hp, g, dr, tk, os⟩ := s
  have stay : ∀ b o, hp.get? b = some o → ((hp.push (kdv_tup [v])).push (excObj C hp.objs.size none .none)).get? b = some o := fun b o e => Heap.get?_push_of_some _ (Heap.get?_push_of_some _ e)
  have there : ((hp.push (kdv_tup [v])).push (excObj C hp.objs.size none .none)).get? (hp.objs.size + 1) = some (excObj C hp.objs.size none .none) := by heap_get
  have fresh : K.lookup (hp.objs.size + 1) = none := by
    cases e : K.lookup (hp.objs.size + 1) with
    | none => rfl
    | some o => exact absurd (Nat.lt_of_succ_lt (Heap.lt_size (inK _ _ e))) (Nat.lt_irrefl _)
  refine PySem.HandSPX.call_own FB (fun Y => excTail_contains Y bm tail) (inK _ _ hC) (looks_findIn inK T.iC) (fun self => bind_fn inK self T.tC) (one_line v) ?_
  refine D prog w _ _ ⟨(hp.push (kdv_tup [v])).push (excObj C hp.objs.size none .none), g, dr, tk, os⟩ _ _ v (inK.keeps stay) (lim.keeps stay) there fresh room fun h' tk' dx M => ?_
  have old : ∀ b o, hp.get? b = some o → h'.get? b = some o := fun b o e => M.keep b o (Nat.ne_of_lt (Nat.lt_succ_of_lt (Heap.lt_size e))) (stay b o e)
  have z : hp.objs.size + 1 + 1 ≤ dx := by
    have q := M.big
    first
      | exact q
      | simpa only [Heap.size_push] using q
  exact ⟨rfl, hq h' tk' (hp.objs.size + 1) dx ⟨old, Nat.le_succ _, ⟨_, _, M.obj, rfl, rfl, rfl, rfl⟩, Nat.le_trans (Nat.le_trans (Nat.le_succ _) (Nat.le_succ _)) z, M.ne, M.ns⟩⟩
end
theorem relO_one {fld : Str} {v : V} {u : Value} (r : RelV v u) (f : Str) : RelO (List.lookup f [(fld, v)]) (if f = fld then some u else none) := by
  by_cases e : f = fld
  · subst e
    rw [if_pos rfl, show List.lookup f [(f, v)] = some v by simp [List.lookup]]
    exact r
  · have q : (f == fld) = false := by simpa using e
    rw [if_neg e, show List.lookup f [(fld, v)] = none by simp [List.lookup, q]]
    trivial
section
variable {X : Cx} {C fI : Addr} {cn fld : Str} {B newId initId : String} {bmB : List Value}
/-- cn(e) -/
def tMkX (C : Addr) (fld : Str) (ta : TA) : L2.St → Hp → XK → Prop := fun σ H Q => ta σ H fun vs H1 => ∃ v, vs = [v] ∧ ∀ d, H1 d = none → Q (.ref C) (some d) (upd H1 d (.xd [(fld, v)]))
theorem pmk_x {a : Expr} {ta : TA} {p pos : Pos} {k : Nat} (FB : ExcBaseFacts B newId initId bmB) (T : XTxt X.K X.mg cn fld newId bmB C fI) (D : InitDoes X.K C fI fld) (room : Room k X.A) (ha : PA X [a] ta) (hg : Gl X cn)
    (hdb : (cn == ("__debug__" : Str)) = false := by decide) (hst : starEach (a :: []) X.env = (false, eval a X.env) :: starEach [] X.env := by rfl) (hpl : (backTo pos (starEach [] X.env)).any (·.1) = false := by rfl) :
    PMk X (.Call (.Name cn p) [a] [] pos) (tMkX C fld ta) := by
  intro pins s σ H Q I h
  refine wpAny_Call_Name_kw (ld_glob I hg T.gC ?_ hdb)
  refine PySem.W.callWith_K (h₀ := X.base) I.ok.mod.kin T.kC (thn (ha.run pos pins s σ H _ I h) ?_) hst hpl
  rintro us s1 ⟨vs, H1, I1, r1, v, rfl, q1⟩
  refine ⟨I1.kIn, ?_⟩
  obtain ⟨u, rfl, rv⟩ := vals1 r1
  show wpAny _ _ (call (.ref C) [u]) _ _ _
  have lim := I1.nolimit
  obtain ⟨hp, g, dr, tk, os⟩ := s1
  refine wpAny_call (x_made FB T D I1.kIn lim (by have := room.dp; omega) fun h' tk' e d M => ?_)
  show MkP X pins σ Q (.ref e) ⟨h', g, dr, tk', os⟩
  obtain ⟨oe, fv, hoe, hc, hd, hdat, h1⟩ := M.obj
  obtain ⟨G', g1, g2⟩ := restrict h' fun b => decide (b ≠ e)
  have off : ∀ b, b ≠ e → G'.get? b = h'.get? b := fun b hb => g1 b (decide_eq_true hb)
  have gone : G'.get? e = none := g2 e (by simp)
  have old : ∀ b o, hp.get? b = some o → G'.get? b = some o := fun b o q => (off b (Nat.ne_of_lt (Nat.lt_of_lt_of_le (Heap.lt_size q) M.new))).trans (M.keep b o q)
  have ob : ObjOk X.prog X.w (upd H1 d (.xd [(fld, v)])) G' d (.xd [(fld, v)]) := ⟨_, M.ns.at (fun o q => (off d M.ne).trans q), fun f => relO_one rv f⟩
  have J : Inv X pins σ (upd H1 d (.xd [(fld, v)])) ⟨G', g, dr, tk', os⟩ := I1.laid (t' := tk') old M.big ob
  refine ⟨e, oe, fv, ⟨G', g, dr, tk', os⟩, _, .ref C, some d, rfl, J, ?_, gone, hoe, ⟨hc, hd⟩, hdat, h1, ?_, rfl, I1.bare, raises_own T.exC T.tyC, q1 d (I1.hok.fresh M.big)⟩
  · intro b o q
    have q' : G'.get? b = some o := q
    by_cases hb : b = e
    · rw [hb, gone] at q'
      cases q'
    · exact (off b hb).symm.trans q
  · rw [upd_ne (Ne.symm M.ne)]
    exact I1.hok.fresh M.new
/-- raise cn(e) -/
def tRaiseX (C : Addr) (fld : Str) (W : WX) (ta : TA) : TS := fun _ σ H => tMkX C fld ta σ H fun cls d H' => W cls d σ H'
theorem ps_raiseX {a : Expr} {ta : TA} {W : WX} {p pos pos2 : Pos} {k : Nat} (hc : X.calm = true) (FB : ExcBaseFacts B newId initId bmB) (T : XTxt X.K X.mg cn fld newId bmB C fI) (D : InitDoes X.K C fI fld) (room : Room k X.A) (tk : Takes X W) (ha : PA X [a] ta) (hg : Gl X cn)
    (hdb : (cn == ("__debug__" : Str)) = false := by decide) (hst : starEach (a :: []) X.env = (false, eval a X.env) :: starEach [] X.env := by rfl) (hpl : (backTo pos (starEach [] X.env)).any (·.1) = false := by rfl) :
    PS X (.Raise (some (.Call (.Name cn p) [a] [] pos)) none pos2) (tRaiseX C fld W ta) := ps_raise hc tk (pmk_x FB T D room ha hg hdb hst hpl)
/-- e.fld, e the exception that the suite holds (at a; its class cls, its dict d) -/
def tByX (C : Addr) (fld : Str) (a : Addr) (cls : Value) (d : Option Addr) (te : TE) : TE := fun σ H Q => te σ H fun x H1 => x = .ref a ∧ cls = .ref C ∧ ∃ (dd : Addr) (v : V), d = some dd ∧ H1 dd = some (.xd [(fld, v)]) ∧ Q v H1
theorem pe_byX {a : Addr} {oe : Obj} {cls : Value} {d : Option Addr} {pn : List (Addr × Obj)} {e : Expr} {te : TE} {pos : Pos} (T : XTxt X.K X.mg cn fld newId bmB C fI) (hz : Zc cls d oe) (hf : ∃ vs, oe.data = .fields vs) (he : PE (X.suite a ((a, oe) :: pn)) e te)
    (hb : attributeBase e fld X.env (eval e X.env) = eval e X.env := by rfl) : PE (X.suite a ((a, oe) :: pn)) (.Attribute e fld pos) (tByX C fld a cls d te) := by
  constructor
  intro pins s σ H Q I h
  refine attr_of hb (thn (he.run pins s σ H _ I h) ?_)
  rintro u s1 ⟨x, H1, I1, rx, rfl, rfl, dd, v, rfl, ea, q⟩
  obtain rfl : u = Value.ref a := rx
  obtain ⟨here, _⟩ := I1.pin (a, oe) (List.mem_append_left _ List.mem_cons_self)
  obtain ⟨vs, hd⟩ := hf
  obtain ⟨mA, hns, hr⟩ := (show ObjOk X.prog X.w H1 s1.heap dd (.xd [(fld, v)]) from I1.hok dd _ ea)
  obtain ⟨od, ho, hl⟩ := lookIn_ns hns
  have l : List.lookup fld [(fld, v)] = some v := by simp [List.lookup]
  have hrf := hr fld
  rw [l] at hrf
  obtain ⟨u, hu, ru⟩ := RelO.some_of (v := v) (o := mA fld) hrf
  have J : PySem.W.InstAt s1.heap a oe C (some od) := ⟨here, hz.1, by unfold PySem.W.notCls; rw [hd] <;> rfl, by rw [hz.2]; exact ho⟩
  exact HandSPX.exc_get I1.kIn J T.ga T.gg T.exC (PySem.W.findObj_own T.hdC T.noN rfl (by rw [hl, hu])) (handed_of ru) ⟨v, H1, I1.tok _, ru, q⟩
end
end Gx
namespace Gx
open PySem PySem.Spec PySem.Calls PyProof.Rows L2
/-! ### calls of defs that may raise, also with keywords, where no repr is under way -/
section
variable {P : Program} {w : World} {K : PySem.W.Frag} {mg : Str → Option Value} {base : Heap}
theorem FnG.toX {k : Nat} {f : Addr} {fd : FuncData} {ps : List Str} {sp : Sp} (F : FnG P w K mg base CX0 k f fd ps sp) : FnG P w K mg base (L2.CX P w) k f fd ps sp := by
  refine ⟨F.len, fun A outer s H args us vs Q E g hr he hb hv hs => codeAny_mono (F.run A outer s H args us vs Q E g hr he hb hv hs) ?_⟩
  intro r s' h
  match r, h with
  | .error e, h => exact h.elim
  | .ok (.ret u), h => exact h
/-- the name x is a def that keeps sp, and may raise -/
def CalX (P : Program) (w : World) (K : PySem.W.Frag) (mg : Str → Option Value) (base : Heap) (k : Nat) (x : Str) (ps : List Str) (sp : Sp) : Prop :=
  ∃ (f : Addr) (fd : FuncData), FnG P w K mg base (L2.CX P w) k f fd ps sp ∧ PySem.W.keepIn K (.ref f) = true ∧ Binds K fd ps [] ∧ mg x = some (.ref f)
theorem CalX.up {j k : Nat} {x : Str} {ps : List Str} {sp : Sp} (c : CalX P w K mg base j x ps sp) (h : j ≤ k) : CalX P w K mg base k x ps sp := by
  obtain ⟨f, fd, F, r⟩ := c
  exact ⟨f, fd, F.up h, r⟩
theorem CalG.toX {k : Nat} {x : Str} {ps : List Str} {sp : Sp} (c : CalG P w K mg base k x ps sp) : CalX P w K mg base k x ps sp := by
  obtain ⟨f, fd, F, r⟩ := c
  exact ⟨f, fd, F.toX, r⟩
theorem Def.calX {x qual : Str} {st : Stmt} {ps : List Str} (d : Def K mg x qual st ps) {k : Nat} {sp : Sp} (h : ∀ f fd, Fun K x qual st f fd → FnG P w K mg base (L2.CX P w) k f fd ps sp) : CalX P w K mg base k x ps sp := by
  obtain ⟨f, fd, F, b, g⟩ := d
  exact ⟨f, fd, h f fd F, F.kp, b, g⟩
/-- .. called with n values by position and keywords ks; gV puts them in the parameters' order -/
def CalK (P : Program) (w : World) (K : PySem.W.Frag) (mg : Str → Option Value) (base : Heap) (k : Nat) (x : Str) (ps : List Str) (n : Nat) (ks : List Str) (gV : List V → List V → List V) (sp : Sp) : Prop :=
  ∃ (f : Addr) (fd : FuncData) (g : List Value → List Value → List Value), FnG P w K mg base (L2.CX P w) k f fd ps sp ∧ PySem.W.keepIn K (.ref f) = true ∧ KBn K fd ps n ks g gV ∧ mg x = some (.ref f)
theorem CalK.up {j k n : Nat} {x : Str} {ps ks : List Str} {gV : List V → List V → List V} {sp : Sp} (c : CalK P w K mg base j x ps n ks gV sp) (h : j ≤ k) : CalK P w K mg base k x ps n ks gV sp := by
  obtain ⟨f, fd, g, F, r⟩ := c
  exact ⟨f, fd, g, F.up h, r⟩
/-- the top's def with keyword-only parameters and no defaults -/
def DefK (K : PySem.W.Frag) (mg : Str → Option Value) (x qual : Str) (st : Stmt) (ps : List Str) (n : Nat) (ks : List Str) : Prop :=
  ∃ (f : Addr) (fd : FuncData), Fun K x qual st f fd ∧ KBn K fd ps n ks (fun us ws => us ++ ws) (fun vs zs => vs ++ zs) ∧ mg x = some (.ref f)
theorem DefK.calK {x qual : Str} {st : Stmt} {ps ks : List Str} {n : Nat} (d : DefK K mg x qual st ps n ks) {k : Nat} {sp : Sp} (h : ∀ f fd, Fun K x qual st f fd → FnG P w K mg base (L2.CX P w) k f fd ps sp) : CalK P w K mg base k x ps n ks (fun vs zs => vs ++ zs) sp := by
  obtain ⟨f, fd, F, b, g⟩ := d
  exact ⟨f, fd, _, h f fd F, F.kp, b, g⟩
theorem kbn_of {fd : FuncData} {ps ks : List Str} {n : Nat} (h : ∀ us ws : List Value, us.length = n → ws.length = ks.length → bindArgs fd ⟨us, ks.zip ws⟩ = pure (ps.zip (us ++ ws))) : KBn K fd ps n ks (fun us ws => us ++ ws) (fun vs zs => vs ++ zs) :=
  ⟨fun s us ws _ h1 h2 => .of_eq (h us ws h1 h2), fun r1 r2 => r1.append r2⟩
end
section
variable {X : Cx}
/-- nothing is raised -/
theorem neverAt (σ : L2.St) : PassesAt (L2.CX X.prog X.w) X σ ((fun _ => E0) σ) := by
  rintro pins H s e s' I ⟨a, B, H', cls, d, _, _, _, _, _, _, _, no⟩
  exact no.elim
theorem runX {k : Nat} {f : Addr} {fd : FuncData} {ps : List Str} {sp : Sp} {E : L2.St → XK} {args : Args} {pins : List (Addr × Obj)} {σ : L2.St} {H : Hp} {s : Shared} {Q : VK} {us : List Value} {vs : List V}
    (F : FnG X.prog X.w X.K X.mg X.base (L2.CX X.prog X.w) k f fd ps sp) (g : Gd X.A) (room : Room k X.A) (hb : BindsTo s fd args (ps.zip us)) (hx : PassesAt (L2.CX X.prog X.w) X σ (E σ))
    (I : Inv X pins σ H s) (r : Vals vs us) (want : sp vs H Q (E σ)) : wpAny (model X.prog X.w) X.A (call (.ref f) args.pos args.kw) (EP X pins σ Q) X.xe s := by
  have hc := F.run X.A X.stack s H args us vs Q (E σ) g room I.env0 hb r want
  refine wpAny_call (codeAny_mono hc ?_)
  intro res s' hres
  match res, hres with
  | .error e, hres => exact hx pins H s e s' I hres
  | .ok (.ret u), hres => exact I.after hres
def tClX (sp : Sp) (E : L2.St → XK) (t : TA) : TE := fun σ H Q => t σ H fun vs H1 => sp vs H1 Q (E σ)
theorem pe_calX {x : Str} {ps : List Str} {sp : Sp} {k : Nat} {e : Expr} {es : List Expr} {t : TA} {E : L2.St → XK} {p pos : Pos} (c : CalX X.prog X.w X.K X.mg X.base k x ps sp) (g : Gd X.A) (room : Room k X.A) (hg : Gl X x) (hx : ∀ σ, PassesAt (L2.CX X.prog X.w) X σ (E σ)) (h : PA X (e :: es) t)
    (hdb : (x == ("__debug__" : Str)) = false := by decide) (hst : starEach (e :: es) X.env = (false, eval e X.env) :: starEach es X.env := by rfl) (hpl : (backTo pos (starEach es X.env)).any (·.1) = false := by rfl) :
    PE X (.Call (.Name x p) (e :: es) [] pos) (tClX sp E t) := by
  obtain ⟨f, fd, F, kp, b, hm⟩ := c
  refine ⟨fun pins s σ H Q I want => wpAny_Call_Name_kw (ld_glob I hg hm ?_ hdb)⟩
  refine PySem.W.callWith_K (h₀ := X.base) I.ok.mod.kin kp (thn (h.run pos pins s σ H _ I want) fun us s1 ⟨vs, H1, I1, r, q⟩ => ⟨I1.kIn, ?_⟩) hst hpl
  have hl : us.length = ps.length := r.length.symm.trans (F.len _ _ _ _ q)
  have b1 := b s1 us I1.kIn (by rw [List.append_nil]; exact hl)
  rw [List.append_nil] at b1
  exact runX (args := ⟨us, []⟩) F g room b1 (hx σ) I1 r q
def tClK (n m : Nat) (sp : Sp) (gV : List V → List V → List V) (E : L2.St → XK) (t tk : TA) : TE := fun σ H Q => t σ H fun vs H1 => tk σ H1 fun zs H2 => vs.length = n ∧ zs.length = m ∧ sp (gV vs zs) H2 Q (E σ)
theorem pe_calK {x : Str} {ps ks : List Str} {n : Nat} {gV : List V → List V → List V} {sp : Sp} {k : Nat} {e : Expr} {es : List Expr} {kws : List Keyword} {t tk : TA} {E : L2.St → XK} {p pos : Pos} (c : CalK X.prog X.w X.K X.mg X.base k x ps n ks gV sp) (g : Gd X.A) (room : Room k X.A) (hg : Gl X x)
    (hx : ∀ σ, PassesAt (L2.CX X.prog X.w) X σ (E σ)) (h : PA X (e :: es) t) (hk : PK X kws tk) (hall : (backToKw pos (keywordEach kws X.env)).all (·.1.isSome) = true := by rfl) (hks : (backToKw pos (keywordEach kws X.env)).filterMap (·.1) = ks := by rfl)
    (hdb : (x == ("__debug__" : Str)) = false := by decide) (hst : starEach (e :: es) X.env = (false, eval e X.env) :: starEach es X.env := by rfl)
    (hpl : ((backTo pos (starEach (e :: es) X.env)).any (·.1) || (backToKw pos (keywordEach kws X.env)).any (·.1.isNone)) = false := by rfl) :
    PE X (.Call (.Name x p) (e :: es) kws pos) (tClK n ks.length sp gV E t tk) := by
  obtain ⟨f, fd, gg, F, kp, b, hm⟩ := c
  refine ⟨fun pins s σ H Q I want => wpAny_Call_Name_kw (ld_glob I hg hm ?_ hdb)⟩
  refine PySem.W.callWith_KW (h₀ := X.base) I.ok.mod.kin kp hall (thn (h.run pos pins s σ H _ I want) ?_) hpl hst
  rintro us s1 ⟨vs, H1, I1, r, q⟩
  refine thn (hk.run pos pins s1 σ H1 _ I1 q) ?_
  rintro ws s2 ⟨zs, H2, I2, rz, l1, l2, q2⟩
  refine ⟨I2.kIn, ?_⟩
  rw [hks]
  exact runX (args := ⟨us, ks.zip ws⟩) F g room (b.to s2 us ws I2.kIn (r.length.symm.trans l1) (rz.length.symm.trans l2)) (hx σ) I2 (b.rel r rz) q2
end
end Gx

set_option maxRecDepth 100000
set_option maxHeartbeats 4000000
namespace Mx
open PySem PySem.Spec PyProof.Rows L2 Gx
/-! ### the order of texts -/
/-- a is not behind b -/
def leS (a b : Str) : Prop := ¬ b.cps.toList < a.cps.toList
theorem leS_iff (a b : Str) : leS a b ↔ ltCps b.cps.toList a.cps.toList = false := by
  rw [ltCps_eq, decide_eq_false_iff_not]
  exact Iff.rfl
theorem leS_anti {a b : Str} (h1 : leS a b) (h2 : leS b a) : a = b := by
  have e : a.cps.toList = b.cps.toList := List.le_antisymm (as := a.cps.toList) (bs := b.cps.toList) h1 h2
  cases a
  cases b
  simp only [Str.mk.injEq]
  exact Array.toList_inj.mp e
theorem leS_refl (a : Str) : leS a a := List.lt_irrefl _
theorem leS_trans {a b c : Str} (h1 : leS a b) (h2 : leS b c) : leS a c :=
  List.le_trans (l₁ := a.cps.toList) (l₂ := b.cps.toList) (l₃ := c.cps.toList) h1 h2
theorem leS_total (a b : Str) : leS a b ∨ leS b a := List.le_total a.cps.toList b.cps.toList
theorem risingS_iff : ∀ (l : List Str) (p : Str), risingS p l = true ↔ (p :: l).Pairwise leS
  | [], p => by simp [risingS]
  | x :: r, p => by
    rw [risingS, Bool.and_eq_true, risingS_iff r x, Bool.not_eq_true', ← leS_iff]
    constructor
    · rintro ⟨h1, h2⟩
      refine List.pairwise_cons.mpr ⟨fun y hy => ?_, h2⟩
      rcases List.mem_cons.mp hy with rfl | hy
      · exact h1
      · exact leS_trans h1 ((List.pairwise_cons.mp h2).1 y hy)
    · intro h
      obtain ⟨h1, h2⟩ := List.pairwise_cons.mp h
      exact ⟨h1 x (List.mem_cons_self ..), h2⟩
theorem sortedS_iff (l : List Str) : sortedS l = true ↔ l.Pairwise leS := by
  cases l with
  | nil => simp [sortedS]
  | cons x r => exact risingS_iff r x
theorem sortedS_unique {l m : List Str} (h : l.Perm m) (hl : sortedS l = true) (hm : sortedS m = true) : l = m :=
  List.Perm.eq_of_pairwise (fun _ _ _ _ => leS_anti) ((sortedS_iff l).mp hl) ((sortedS_iff m).mp hm) h
/-- a list of texts is what sorting makes of it just if it is sorted -/
theorem eq_sorted_iff {l m : List Str} (h : m.Perm l) (hm : sortedS m = true) : decide (l = m) = sortedS l := by
  cases e : sortedS l with
  | true => exact decide_eq_true (sortedS_unique h.symm e hm)
  | false => exact decide_eq_false fun q => by rw [q, hm] at e; cases e
/-! ### data of texts -/
def tD (xs : List Str) : List PyData := xs.map PyData.str
theorem eqv_texts : ∀ xs ys : List Str, PyData.eqvAll (tD xs) (tD ys) = decide (xs = ys)
  | [], [] => by simp [tD, PyData.eqvAll]
  | [], y :: ys => by simp [tD, PyData.eqvAll]
  | x :: xs, [] => by simp [tD, PyData.eqvAll]
  | x :: xs, y :: ys => by
    have ih := eqv_texts xs ys
    unfold tD at ih ⊢
    rw [List.map_cons, List.map_cons, PyData.eqvAll, ih, PyData.eqv]
    by_cases h : x = y
    · subst h
      by_cases h2 : xs = ys
      · subst h2
        simp
      · rw [decide_eq_false h2, Bool.and_false, decide_eq_false fun q => h2 (List.cons.inj q).2]
    · rw [decide_eq_false fun q => h (List.cons.inj q).1, beq_eq_false_iff_ne.mpr h, Bool.false_and]
theorem dp_texts {K : PySem.W.Frag} {H : Hp} : ∀ xs : List Str, DpAll K H (xs.map V.str) (tD xs)
  | [] => .nil
  | x :: xs => .cons (.str x) (dp_texts xs)
theorem canLay_texts : ∀ xs : List Str, (∀ x ∈ xs, PyData.strOk x = true) → PyData.canLayAll0 (tD xs) = true
  | [], _ => by simp [tD, PyData.canLayAll0]
  | x :: xs, h => by
    have ih := canLay_texts xs fun y hy => h y (List.mem_cons_of_mem _ hy)
    unfold tD at ih ⊢
    rw [List.map_cons, PyData.canLayAll0, ih, PyData.canLay0, h x (List.mem_cons_self ..)]
    rfl
theorem depth_texts : ∀ xs : List Str, PyData.depthAll (tD xs) ≤ 1
  | [] => by simp [tD, PyData.depthAll]
  | x :: xs => by
    have ih := depth_texts xs
    unfold tD at ih ⊢
    rw [List.map_cons, PyData.depthAll]
    simp only [PyData.depth]
    omega
theorem shaped_texts {xs : List Str} (h : ∀ x ∈ xs, PyData.strOk x = true) : SeqAt.shaped (.list (tD xs)) = true := by
  unfold SeqAt.shaped
  rw [Bool.and_eq_true]
  refine ⟨by simp only [PyData.canLay0]; exact canLay_texts xs h, decide_eq_true ?_⟩
  have := depth_texts xs
  simp only [PyData.depth]
  omega
theorem shaped_textsT {xs : List Str} (h : ∀ x ∈ xs, PyData.strOk x = true) : SeqAt.shaped (.tuple (tD xs)) = true := by
  unfold SeqAt.shaped
  rw [Bool.and_eq_true]
  refine ⟨by simp only [PyData.canLay0]; exact canLay_texts xs h, decide_eq_true ?_⟩
  have := depth_texts xs
  simp only [PyData.depth]
  omega
end Mx

set_option maxRecDepth 100000
set_option maxHeartbeats 4000000
namespace Kl
open PySem PySem.Spec PyProof.Rows L2 Gx
def topS (i : Nat) : Stmt := PySem.Challenge.pw_linkbooks_k01_whole_sorted_tuples.main.body.getD i (.Pass ⟨0, 0, 0, 0⟩)
abbrev s_is_integer : Stmt := topS 5
theorem sc_is_integer : FnScope ["value"] ["value"] (defScope s_is_integer) := ⟨rfl, rfl, rfl, by decide +kernel, rfl, by decide +kernel, by decide +kernel⟩
abbrev s_is_count : Stmt := topS 6
theorem sc_is_count : FnScope ["value"] ["value"] (defScope s_is_count) := ⟨rfl, rfl, rfl, by decide +kernel, rfl, by decide +kernel, by decide +kernel⟩
abbrev s_is_name : Stmt := topS 7
theorem sc_is_name : FnScope ["value"] ["value"] (defScope s_is_name) := ⟨rfl, rfl, rfl, by decide +kernel, rfl, by decide +kernel, by decide +kernel⟩
abbrev s_is_sorted : Stmt := topS 8
theorem sc_is_sorted : FnScope ["value", "most", "name"] ["value", "most"] (defScope s_is_sorted) := ⟨rfl, rfl, rfl, by decide +kernel, rfl, by decide +kernel, by decide +kernel⟩
abbrev s_law_dice : Stmt := topS 10
theorem sc_law_dice : FnScope ["_law_script", "_law_spot", "_law_cell", "_law_left"] ["_law_script", "_law_spot"] (defScope s_law_dice) := ⟨rfl, rfl, rfl, by decide +kernel, rfl, by decide +kernel, by decide +kernel⟩
abbrev s_law_roll : Stmt := topS 11
theorem sc_law_roll : FnScope ["_law_dice_here", "_law_total", "_law_found", "_law_one", "_law_two"] ["_law_dice_here", "_law_total"] (defScope s_law_roll) := ⟨rfl, rfl, rfl, by decide +kernel, rfl, by decide +kernel, by decide +kernel⟩
abbrev s_law_pick : Stmt := topS 12
theorem sc_law_pick : FnScope ["_law_dice_here", "_law_items"] ["_law_dice_here", "_law_items"] (defScope s_law_pick) := ⟨rfl, rfl, rfl, by decide +kernel, rfl, by decide +kernel, by decide +kernel⟩
abbrev s_law_word : Stmt := topS 13
theorem sc_law_word : FnScope ["_law_dice_here", "_law_word_here", "_law_turn"] ["_law_dice_here"] (defScope s_law_word) := ⟨rfl, rfl, rfl, by decide +kernel, rfl, by decide +kernel, by decide +kernel⟩
abbrev s_law_is_name : Stmt := topS 14
theorem sc_law_is_name : FnScope ["_law_word_here"] ["_law_word_here"] (defScope s_law_is_name) := ⟨rfl, rfl, rfl, by decide +kernel, rfl, by decide +kernel, by decide +kernel⟩
abbrev s_law_places : Stmt := topS 15
theorem sc_law_places : FnScope ["_law_words", "_law_row", "_law_word_here", "_law_at"] ["_law_words"] (defScope s_law_places) := ⟨rfl, rfl, rfl, by decide +kernel, rfl, by decide +kernel, by decide +kernel⟩
abbrev s_law_is_less : Stmt := topS 16
theorem sc_law_is_less : FnScope ["_law_one", "_law_other", "_law_signs", "_law_at"] ["_law_one", "_law_other"] (defScope s_law_is_less) := ⟨rfl, rfl, rfl, by decide +kernel, rfl, by decide +kernel, by decide +kernel⟩
abbrev s_law_told : Stmt := topS 17
theorem sc_law_told : FnScope ["_law_value", "_law_limit", "e"] ["_law_value", "_law_limit"] (defScope s_law_told) := ⟨rfl, rfl, rfl, by decide +kernel, rfl, by decide +kernel, by decide +kernel⟩
abbrev s_law_tuples : Stmt := topS 18
theorem sc_law_tuples : FnScope ["_law_words", "_law_found", "_law_layer", "_law_turn", "_law_longer", "_law_row", "_law_word_here"] ["_law_words"] (defScope s_law_tuples) := ⟨rfl, rfl, rfl, by decide +kernel, rfl, by decide +kernel, by decide +kernel⟩
abbrev s_law_right : Stmt := topS 19
theorem sc_law_right : FnScope ["_law_dice_here", "_law_words", "_law_places_here", "_law_row", "_law_spots", "_law_is_due", "_law_limit", "_law_is_let", "_law_value", "_law_due", "_law_turn", "_law_word_here"] ["_law_dice_here"] (defScope s_law_right) := ⟨rfl, rfl, rfl, by decide +kernel, rfl, by decide +kernel, by decide +kernel⟩
abbrev s_law : Stmt := topS 20
theorem sc_law : FnScope ["_law_script", "_law_spot"] ["_law_script"] (defScope s_law) := ⟨rfl, rfl, rfl, by decide +kernel, rfl, by decide +kernel, by decide +kernel⟩
abbrev s_InvalidNumber_init : Stmt := inClass (topS 1) 0
abbrev XT_InvalidNumber (K : PySem.W.Frag) (mg : Str → Option Value) (C fI : Addr) : Prop := XTxt K mg "InvalidNumber" "value" "IndexError.__new__" [.type "IndexError", .type "LookupError", .type "Exception", .type "BaseException", .type "object"] C fI
/-- the error InvalidNumber as the top has made it -/
def XDef_InvalidNumber (K : PySem.W.Frag) (mg : Str → Option Value) : Prop := ∃ (C fI : Addr) (fd : FuncData), XT_InvalidNumber K mg C fI ∧ Fun K "__init__" "InvalidNumber.__init__" s_InvalidNumber_init fI fd
theorem init_InvalidNumber {K : PySem.W.Frag} {mg : Str → Option Value} {C fI : Addr} {fd : FuncData} (T : XT_InvalidNumber K mg C fI) (F : Fun K "__init__" "InvalidNumber.__init__" s_InvalidNumber_init fI fd) : InitDoes K C fI "value" := by
  intro prog w A R s x t0 v inK lim hx fresh room hq
  obtain ⟨oc, od, kV, doc, pm, an, cdv, ct, osl, rfl, lk, hcd⟩ := F.ex
  refine Att.call_fn (binds := [("self", .ref x), ("value", v)]) inK lim lk hcd room (BindsTo.of_eq (by first | rfl | with_unfolding_all rfl)) (by first | rfl | decide) (fun s₁ IC => ?_) rfl rfl rfl
  obtain ⟨h₁, tk₁, rfl⟩ := IC.toInCall.same
  have k := IC.toInCall.keep
  have hn := IC.toInCall.ns
  have inK₁ : K.In h₁ := inK.keeps k
  have hx₁ := k _ _ hx
  show wpAny _ _ (execs _ _) _ _ _
  refine wpAny_execs_cons (plainObj_wpAny_Assign_Attribute ?_)
  refine wpAny_Name (wpAny_loadName_local (v := v) (by rfl) (by rfl) hn (by first | rfl | with_unfolding_all rfl | kernel_rfl) ?_) (by decide)
  refine wpAny_Name (wpAny_loadName_local (v := .ref x) (by rfl) (by rfl) hn (by first | rfl | with_unfolding_all rfl | kernel_rfl) ?_) (by decide)
  refine PySem.W.set_plain inK₁ (ox := PySem.W.excObj C t0 none .none) (od := none) ⟨hx₁, rfl, rfl, trivial⟩ T.sa ?_
  refine exc_storeX PySem.F.store_IndexError inK₁ hx₁ T.over T.tak T.hdC (fun h₃ tk₃ dx k₃ dn dne hx₃ hn₃ => ?_)
  show wpAny _ _ (execs _ _) _ _ _
  exact wpAny_execs_nil (hq h₃ tk₃ dx ⟨fun b o hb e => k₃ b o hb (k b o e), hx₃, Nat.le_of_lt (Nat.lt_of_lt_of_le hn.lt dn), dne, hn₃⟩)
/-- what the walk asks of the top -/
structure Top (K : PySem.W.Frag) (mg : Str → Option Value) : Prop where
  b_IndexError : mg "IndexError" = none
  b_abs : mg "abs" = none
  b_all : mg "all" = none
  b_bool : mg "bool" = none
  b_dict : mg "dict" = none
  b_enumerate : mg "enumerate" = none
  b_int : mg "int" = none
  b_isinstance : mg "isinstance" = none
  b_len : mg "len" = none
  b_list : mg "list" = none
  b_max : mg "max" = none
  b_min : mg "min" = none
  b_range : mg "range" = none
  b_repr : mg "repr" = none
  b_sorted : mg "sorted" = none
  b_str : mg "str" = none
  b_tuple : mg "tuple" = none
  g_MAX_LETTERS : ∃ t, mg "MAX_LETTERS" = some (.int 8 t)
  g__TOO_LONG : ∃ t, mg "_TOO_LONG" = some (.int 1000000000000000000000000000000000000000000000000000000000000 t)
  d_is_integer : Def K mg "is_integer" "is_integer" s_is_integer ["value"]
  d_is_count : Def K mg "is_count" "is_count" s_is_count ["value"]
  d_is_name : Def K mg "is_name" "is_name" s_is_name ["value"]
  d_is_sorted : DefK K mg "is_sorted" "is_sorted" s_is_sorted ["value", "most"] 1 ["most"]
  d_law_dice : Def K mg "_law_dice" "_law_dice" s_law_dice ["_law_script", "_law_spot"]
  d_law_roll : Def K mg "_law_roll" "_law_roll" s_law_roll ["_law_dice_here", "_law_total"]
  d_law_pick : Def K mg "_law_pick" "_law_pick" s_law_pick ["_law_dice_here", "_law_items"]
  d_law_word : Def K mg "_law_word" "_law_word" s_law_word ["_law_dice_here"]
  d_law_is_name : Def K mg "_law_is_name" "_law_is_name" s_law_is_name ["_law_word_here"]
  d_law_places : Def K mg "_law_places" "_law_places" s_law_places ["_law_words"]
  d_law_is_less : Def K mg "_law_is_less" "_law_is_less" s_law_is_less ["_law_one", "_law_other"]
  d_law_told : Def K mg "_law_told" "_law_told" s_law_told ["_law_value", "_law_limit"]
  d_law_tuples : Def K mg "_law_tuples" "_law_tuples" s_law_tuples ["_law_words"]
  d_law_right : Def K mg "_law_right" "_law_right" s_law_right ["_law_dice_here"]
  x_InvalidNumber : XDef_InvalidNumber K mg
end Kl

set_option maxRecDepth 100000
set_option maxHeartbeats 4000000
namespace Kl
open PySem PySem.Spec PyProof.Rows L2 Gx Mx
section
variable {P : Program} {w : World} {K : PySem.W.Frag} {mg : Str → Option Value} {base : Heap}
/-! ### kinds of values -/
theorem tyx_same {H H' : Hp} (sm : Same H H') {v : V} {t : Value} (h : TyX K H v t) : TyX K H' v t := by
  cases h with
  | base b =>
    cases b with
    | non => exact .base .non
    | bl x => exact .base (.bl x)
    | int i => exact .base (.int i)
    | str x => exact .base (.str x)
    | flt x => exact .base (.flt x)
    | lst e => exact .base (.lst (sm _ _ e))
    | frz e => exact .base (.frz (sm _ _ e))
    | tup e => exact .base (.tup (sm _ _ e))
    | dK e => exact .base (.dK (sm _ _ e))
    | dT e => exact .base (.dT (sm _ _ e))
    | ins e cl ha hn htk hm => exact .base (.ins (sm _ _ e) cl ha hn htk hm)
  | byt b => exact .byt b
  | set e => exact .set (sm _ _ e)
  | kList e c => exact .kList e c
  | kTuple e c => exact .kTuple e c
  | kDict e c => exact .kDict e c
  | fTuple e => exact .fTuple (sm _ _ e)
  | fDict e => exact .fDict (sm _ _ e)
/-- the value is no instance of this built-in class -/
def Not (K : PySem.W.Frag) (H : Hp) (v : V) (T : String) : Prop := ∃ t, TyX K H v t ∧ PySem.W.kitOne K t (.type T) = some false
theorem Not.same {H H' : Hp} (sm : Same H H') {v : V} {T : String} (h : Not K H v T) : Not K H' v T := by
  obtain ⟨t, a, b⟩ := h
  exact ⟨t, tyx_same sm a, b⟩
/-- text, or not -/
def NameArg (K : PySem.W.Frag) (H : Hp) (v : V) : Prop := (∃ z : Str, v = .str z ∧ z.length ≤ sizeLine) ∨ ((∀ z, v ≠ .str z) ∧ Not K H v "str")
theorem NameArg.same {H H' : Hp} (sm : Same H H') {v : V} (h : NameArg K H v) : NameArg K H' v := by
  rcases h with h | ⟨a, b⟩
  · exact .inl h
  · exact .inr ⟨a, b.same sm⟩
/-- int, truth, or neither -/
def IntArg (K : PySem.W.Frag) (H : Hp) (v : V) : Prop := (∃ i, v = .int i) ∨ (∃ b, v = .bl b) ∨ ((∀ i, v ≠ .int i) ∧ Not K H v "int")
theorem IntArg.same {H H' : Hp} (sm : Same H H') {v : V} (h : IntArg K H v) : IntArg K H' v := by
  rcases h with h | h | ⟨a, b⟩
  · exact .inl h
  · exact .inr (.inl h)
  · exact .inr (.inr ⟨a, b.same sm⟩)
/-! ### is_integer, is_count -/
def TEN60 : Int := 1000000000000000000000000000000000000000000000000000000000000
def intV : V → Bool
  | .int i => decide (-TEN60 < i) && decide (i < TEN60)
  | _ => false
def cntV : V → Bool
  | .int i => (decide (-TEN60 < i) && decide (i < TEN60)) && decide (0 ≤ i)
  | _ => false
def spInt (K : PySem.W.Frag) : Sp := fun vs H Q _ => ∃ v : V, vs = [v] ∧ IntArg K H v ∧ Q (.bl (intV v)) H
theorem ok_int {f : Addr} {fd : FuncData} (F : Fun K "is_integer" "is_integer" s_is_integer f fd) (T : Top K mg) : FnOk P w K mg base CX0 1 f fd ["value"] (spInt K) := by
  obtain ⟨tm, gm⟩ := T.g__TOO_LONG
  refine F.ok sc_is_integer (fun vs H Q E h => ?_) (fun cdv A outer s H vs Q E hr h => ?_)
  · obtain ⟨v, rfl, _⟩ := h
    rfl
  · obtain ⟨v, rfl, hv, q⟩ := h
    refine ⟨_, pss_cons (ps_if (PW.pt (pw_or (pt_not (pt_val (pe_callB call_isi (by rfl) T.b_isinstance (by decide +kernel) (pa_cons (pv 0) (pa_cons (pe_bltn (v := .ty "int") (by rfl) T.b_int (by decide +kernel) rfl) pa_nil)))))
          (pw_or1 (pt_val (pe_callB call_isi (by rfl) T.b_isinstance (by decide +kernel) (pa_cons (pv 0) (pa_cons (pe_bltn (v := .ty "bool") (by rfl) T.b_bool (by decide +kernel) rfl) pa_nil)))))))
        (pss_one (ps_ret pe_bl)) pss_nil)
      (pss_one (ps_ret (pe_chain op_lt op_lt (pe_un un_neg (pe_glob (v := .int TEN60) (by rfl) gm ⟨_, rfl⟩)) (pv 0) (pe_glob (v := .int TEN60) (by rfl) gm ⟨_, rfl⟩)))), ?_⟩
    rcases hv with ⟨i, rfl⟩ | ⟨b, rfl⟩ | ⟨hn, t, ht, hk⟩
    · refine ⟨_, rfl, _, .ty "int", .type "int", .type "int", true, rfl, .ty _, .base (.int i), kit_ty (by decide +kernel), true, rfl, ?_⟩
      refine ⟨_, rfl, _, .ty "bool", .type "int", .type "bool", false, rfl, .ty _, .base (.int i), kit_ty (by decide +kernel), false, rfl, ?_⟩
      refine ⟨_, rfl, _, rfl, _, _, rfl, rfl, _, rfl, ?_⟩
      have q' : Q (.bl (decide (-TEN60 < i) && decide (i < TEN60))) H := q
      cases e : decide (-TEN60 < i) with
      | false =>
        rw [e] at q'
        exact q'
      | true =>
        rw [e] at q'
        exact ⟨_, _, rfl, rfl, q'⟩
    · refine ⟨_, rfl, _, .ty "int", .type "bool", .type "int", true, rfl, .ty _, .base (.bl b), kit_ty (by decide +kernel), true, rfl, ?_⟩
      exact ⟨_, rfl, _, .ty "bool", .type "bool", .type "bool", true, rfl, .ty _, .base (.bl b), kit_ty (by decide +kernel), true, rfl, q⟩
    · refine ⟨_, rfl, _, .ty "int", t, .type "int", false, rfl, .ty _, ht, hk, false, rfl, ?_⟩
      have e : intV v = false := by
        cases v with
        | int i => exact absurd rfl (hn i)
        | _ => rfl
      rw [e] at q
      exact q
def spCnt (K : PySem.W.Frag) : Sp := fun vs H Q _ => ∃ v : V, vs = [v] ∧ IntArg K H v ∧ Q (.bl (cntV v)) H
theorem ok_cnt {f : Addr} {fd : FuncData} (F : Fun K "is_count" "is_count" s_is_count f fd) (T : Top K mg) : FnOk P w K mg base CX0 2 f fd ["value"] (spCnt K) := by
  have ci : Cal P w K mg base 1 "is_integer" ["value"] (spInt K) := T.d_is_integer.cal fun f fd F => ok_int F T
  refine F.ok sc_is_count (fun vs H Q E h => ?_) (fun cdv A outer s H vs Q E hr h => ?_)
  · obtain ⟨v, rfl, _⟩ := h
    rfl
  · obtain ⟨v, rfl, hv, q⟩ := h
    refine ⟨_, pss_one (ps_ret (pe_and (pe_cal ci hr (by rfl) (pa_cons (pv 0) pa_nil)) (pe_one (pe_cmpR op_ge (pv 0) pe_int (nomark _))))), ?_⟩
    refine ⟨_, rfl, v, rfl, hv, _, rfl, ?_⟩
    cases v with
    | int i =>
      have q' : Q (.bl (intV (.int i) && decide (0 ≤ i))) H := q
      cases e : intV (.int i) with
      | false =>
        rw [e] at q'
        exact q'
      | true =>
        rw [e] at q'
        exact ⟨_, rfl, _, _, rfl, rfl, q'⟩
    | _ => exact q
/-! ### is_name -/
def nameV : V → Bool
  | .str z => nameB z
  | _ => false
def spName (K : PySem.W.Frag) : Sp := fun vs H Q _ => ∃ v : V, vs = [v] ∧ NameArg K H v ∧ Q (.bl (nameV v)) H
theorem nameV_no {v : V} (h : ∀ z, v ≠ .str z) : nameV v = false := by
  cases v with
  | str z => exact absurd rfl (h z)
  | _ => rfl
theorem ok_name {f : Addr} {fd : FuncData} (F : Fun K "is_name" "is_name" s_is_name f fd) (T : Top K mg) : FnOk P w K mg base CX0 1 f fd ["value"] (spName K) := by
  obtain ⟨tm, gm⟩ := T.g_MAX_LETTERS
  refine F.ok sc_is_name (fun vs H Q E h => ?_) (fun cdv A outer s H vs Q E hr h => ?_)
  · obtain ⟨v, rfl, _⟩ := h
    rfl
  · obtain ⟨v, rfl, hv, q⟩ := h
    refine ⟨_, pss_cons (ps_if (PW.pt (pw_or (pt_not (pt_val (pe_callB call_isi (by rfl) T.b_isinstance (by decide +kernel) (pa_cons (pv 0) (pa_cons (pe_bltn (v := .ty "str") (by rfl) T.b_str (by decide +kernel) rfl) pa_nil)))))
          (pw_or1 (pt_not (pt_chain op_le op_le pe_int (pe_callB call_len_str (by rfl) T.b_len PySem.boot_len (pa_cons (pv 0) pa_nil)) (pe_glob (v := .int 8) (by rfl) gm ⟨_, rfl⟩))))))
        (pss_one (ps_ret pe_bl)) pss_nil)
      (pss_one (ps_ret (pe_and (pe_m0 PySem.F.slot_str_isascii PySem.F.type_str_isascii mt_isascii (pv 0))
        (pe_and (pe_m0 PySem.F.slot_str_isalpha PySem.F.type_str_isalpha mt_isalpha (pv 0)) (pe_one (pe_m0 PySem.F.slot_str_islower PySem.F.type_str_islower mt_islower (pv 0))))))), ?_⟩
    rcases hv with ⟨z, rfl, hz⟩ | ⟨hn, t, ht, hk⟩
    · have q' : Q (.bl (nameB z)) H := q
      refine ⟨_, rfl, _, .ty "str", .type "str", .type "str", true, rfl, .ty _, .base (.str z), kit_ty (by decide +kernel), true, rfl, ?_⟩
      refine ⟨_, rfl, _, rfl, hz, _, _, rfl, rfl, _, rfl, ite2 (fun e1 => ?_) (fun e1 => ?_)⟩
      · have h1 : 1 ≤ z.cps.size := by
          have e2 : (1 : Int) ≤ (z.length : Int) := of_decide_eq_true e1
          have e3 : z.length = z.cps.size := rfl
          omega
        refine ⟨_, _, rfl, rfl, _, rfl, ?_⟩
        have e3 : decide ((z.length : Int) ≤ 8) = decide (z.cps.size ≤ 8) := decide_eq_decide.mpr (by
          have e3 : z.length = z.cps.size := rfl
          omega)
        by_cases h8 : z.cps.size ≤ 8
        · have e4 : decide ((z.length : Int) ≤ 8) = true := e3.trans (decide_eq_true h8)
          rw [e4]
          have e5 : nameB z = (Txt.isascii z && (Txt.isalpha z && Txt.islower z)) := by
            rw [name_by z h1]
            unfold nameB
            rw [decide_eq_true h1, decide_eq_true h8, Bool.true_and, Bool.true_and]
          rw [e5] at q'
          refine ⟨_, rfl, ⟨_, rfl⟩, z, rfl, rfl, trivial, _, rfl, ?_⟩
          cases a1 : Txt.isascii z with
          | false =>
            rw [a1] at q'
            exact q'
          | true =>
            rw [a1] at q'
            refine ⟨_, rfl, ⟨_, rfl⟩, z, rfl, rfl, trivial, _, rfl, ?_⟩
            cases a2 : Txt.isalpha z with
            | false =>
              rw [a2] at q'
              exact q'
            | true =>
              rw [a2] at q'
              exact ⟨_, rfl, ⟨_, rfl⟩, z, rfl, rfl, trivial, q'⟩
        · have e4 : decide ((z.length : Int) ≤ 8) = false := e3.trans (decide_eq_false h8)
          rw [e4]
          show Q (.bl false) H
          have e5 : nameB z = false := by
            unfold nameB
            rw [decide_eq_false h8, Bool.and_false, Bool.false_and]
          rw [← e5]
          exact q'
      · have h1 : ¬ 1 ≤ z.cps.size := fun h => e1 (decide_eq_true (by
          have e3 : z.length = z.cps.size := rfl
          omega))
        refine ⟨_, rfl, ?_⟩
        show Q (.bl false) H
        have e5 : nameB z = false := by
          unfold nameB
          rw [decide_eq_false h1, Bool.false_and, Bool.false_and]
        rw [← e5]
        exact q'
    · refine ⟨_, rfl, _, .ty "str", t, .type "str", false, rfl, .ty _, ht, hk, false, rfl, ?_⟩
      rw [nameV_no hn] at q
      exact q
end
end Kl

set_option maxRecDepth 100000
set_option maxHeartbeats 4000000
namespace Kl
open PySem PySem.Spec PyProof.Rows L2 Gx Mx
section
variable {P : Program} {w : World} {K : PySem.W.Frag} {mg : Str → Option Value} {base : Heap}
/-! ### is_sorted -/
def textOf : V → Str
  | .str z => z
  | _ => ""
/-- what is_sorted says of the values of a tuple -/
def sortB (xs : List V) : Bool := xs.all nameV && sortedS (xs.map textOf)
/-- the first argument of is_sorted, and what it answers with the limit M -/
def SortArg (K : PySem.W.Frag) (H : Hp) (v : V) (M : Int) (b : Bool) : Prop :=
  (Not K H v "tuple" ∧ b = false) ∨ ∃ (p : Addr) (xs : List V), v = .ref p ∧ SqT K H p xs ∧ TyX K H v (.type "tuple") ∧ xs.length ≤ 1000 ∧ (∀ x ∈ xs, NameArg K H x) ∧ b = (decide ((xs.length : Int) ≤ M) && sortB xs)
def spSorted (K : PySem.W.Frag) (C : Addr) : Sp := fun vs H Q E => ∃ (v m : V), vs = [v, m] ∧ IntArg K H m ∧
  (cntV m = false → ∀ d, H d = none → E (.ref C) (some d) (upd H d (.xd [("value", m)]))) ∧
  (cntV m = true → ∃ (M : Int) (b : Bool), m = .int M ∧ SortArg K H v M b ∧ ∀ H', Same H H' → Q (.bl b) H')
theorem names_texts : ∀ xs : List V, xs.all nameV = true → xs = (xs.map textOf).map V.str
  | [], _ => rfl
  | x :: xs, h => by
    rw [List.all_cons, Bool.and_eq_true] at h
    rw [List.map_cons, List.map_cons, ← names_texts xs h.2]
    cases x with
    | str z => rfl
    | _ => cases h.1
theorem names_ok : ∀ xs : List V, xs.all nameV = true → ∀ z ∈ xs.map textOf, PyData.strOk z = true
  | [], _, z, hz => by cases hz
  | x :: xs, h, z, hz => by
    rw [List.all_cons, Bool.and_eq_true] at h
    rcases List.mem_cons.mp (show z ∈ textOf x :: xs.map textOf from hz) with rfl | hz
    · cases x with
      | str y =>
        have hy : nameB y = true := h.1
        unfold nameB at hy
        rw [Bool.and_eq_true] at hy
        show y.cps.all _ = true
        rw [Array.all_eq_true']
        intro c hc
        have := List.all_eq_true.mp hy.2 c (Array.mem_toList_iff.mpr hc)
        exact decide_eq_true (Nat.lt_trans (isLow_lt this) (by decide))
      | _ => cases h.1
    · exact names_ok xs h.2 z hz
theorem ok_sorted {C fI f : Addr} {fd fdI : FuncData} (F : Fun K "is_sorted" "is_sorted" s_is_sorted f fd) (T : Top K mg) (TX : XT_InvalidNumber K mg C fI) (FX : Fun K "__init__" "InvalidNumber.__init__" s_InvalidNumber_init fI fdI) :
    FnG P w K mg base (L2.CX P w) 4 f fd ["value", "most"] (spSorted K C) := by
  have cc : Cal P w K mg base 3 "is_count" ["value"] (spCnt K) := (T.d_is_count.cal fun f fd F => ok_cnt F T).mono (by decide)
  have cn : Cal P w K mg base 3 "is_name" ["value"] (spName K) := (T.d_is_name.cal fun f fd F => ok_name F T).mono (by decide)
  refine okGX F sc_is_sorted (fun vs H Q E h => ?_) (fun cdv A outer s H vs Q E g hr h => ?_)
  · obtain ⟨v, m, rfl, _⟩ := h
    rfl
  · obtain ⟨v, m, rfl, hm, hE, hQ⟩ := h
    refine ⟨_, pss_cons (ps_if (pt_not (pt_val (pe_cal cc hr (by rfl) (pa_cons (pv 1) pa_nil)))) (pss_one (ps_raiseX rfl PySem.F.excBase_IndexError TX (init_InvalidNumber TX FX) hr (takes_of rfl rfl rfl rfl) (pa_cons (pv 1) pa_nil) (by rfl))) pss_nil)
      (pss_cons (ps_if (PW.pt (pw_or (pt_not (pt_val (pe_callB call_isi (by rfl) T.b_isinstance (by decide +kernel) (pa_cons (pv 0) (pa_cons (pe_bltn (v := .ty "tuple") (by rfl) T.b_tuple (by decide +kernel) rfl) pa_nil)))))
          (pw_or1 (pt_cmpR op_gt (pe_callB call_len_seq (by rfl) T.b_len PySem.boot_len (pa_cons (pv 0) pa_nil)) (pv 1) (nomark _))))) (pss_one (ps_ret pe_bl)) pss_nil)
      (pss_cons (ps_if (pt_not (pt_val (pe_callB (cr_all rfl) (by rfl) T.b_all (by decide +kernel) (pa_cons (pe_lc (own := [("name", 2)]) (g := gName 2) (tt := tYes) rfl sc_is_sorted.nd (pi_tup (pv 0))
            (blkOk_by (N := ["value", "most", "name"]) (sc := defScope s_is_sorted) (by decide +kernel))
            (fun _ _ _ _ _ => pg_name (i := 2) sc_is_sorted.nd rfl (.inl rfl)) (fun _ _ _ _ _ => pts_nil) (fun _ _ _ _ _ => pe_cal cn hr (by rfl) (pa_cons (pv 2) pa_nil))) pa_nil)))) (pss_one (ps_ret pe_bl)) pss_nil)
      (pss_one (ps_ret (pe_cmpR (op_eqD hr.units) (pe_callTy call_list_of (by rfl) T.b_list (by decide +kernel) (pa_cons (pv 0) pa_nil)) (pe_callB cr_sortedTS (by rfl) T.b_sorted (by decide +kernel) (pa_cons (pv 0) pa_nil)) (nomark _)))))), ?_⟩
    refine ⟨_, rfl, m, rfl, hm, _, rfl, ?_⟩
    cases hc : cntV m with
    | false =>
      exact ⟨_, rfl, m, rfl, fun d hd => hE hc d hd⟩
    | true =>
      obtain ⟨M, b, rfl, hs, hq⟩ := hQ hc
      clear hE hQ
      rcases hs with ⟨⟨t, ht, hk⟩, rfl⟩ | ⟨p, xs, rfl, hp, hT, hlen, hx, rfl⟩
      · refine ⟨_, rfl, _, .ty "tuple", t, .type "tuple", false, rfl, .ty _, ht, hk, false, rfl, ?_⟩
        exact hq H (Same.refl H)
      · refine ⟨_, rfl, _, .ty "tuple", .type "tuple", .type "tuple", true, rfl, .ty _, hT, kit_ty (by decide +kernel), true, rfl, ?_⟩
        refine ⟨_, rfl, p, xs, rfl, .inr hp, _, rfl, _, _, rfl, rfl, _, rfl, ite2 (fun e => ?_) (fun e => ?_)⟩
        · have e1 : decide ((xs.length : Int) ≤ M) = false := decide_eq_false (by
            have := of_decide_eq_true e
            omega)
          rw [e1, Bool.false_and] at hq
          exact hq H (Same.refl H)
        · have e1 : decide ((xs.length : Int) ≤ M) = true := decide_eq_true (by
            have : ¬ (M < (xs.length : Int)) := fun z => e (decide_eq_true z)
            omega)
          rw [e1, Bool.true_and] at hq
          -- all([is_name(name) for name in value])
          refine ⟨_, rfl, p, rfl, ⟨_, hp⟩, fun D hD => ?_⟩
          refine lc_tup (xs := xs) (fun j H2 => H2 D = some (.lst ((xs.take j).map fun x => V.bl (nameV x))) ∧ Same H H2) ⟨upd_same, same_at hD (Same.refl H)⟩ (fun j H2 _ hP => ?_) (fun j x H2 hj hP => ?_) (fun H2 hP => ?_)
          · exact sqT_same hP.2 hp
          · obtain ⟨eD, sm⟩ := hP
            refine ⟨rfl, _, rfl, x, rfl, (hx x (List.mem_of_getElem? hj)).same sm, _, eD, ?_, ?_, same_at hD sm⟩
            · rw [List.length_map, List.length_take]
              exact small_line (Nat.le_trans (Nat.min_le_right _ _) (by omega))
            · rw [upd_same, take_snoc hj, List.map_append]
              rfl
          · obtain ⟨eD, sm⟩ := hP
            rw [List.take_length] at eD
            refine ⟨D, xs.map nameV, rfl, .inl (.inl (by rw [eD, List.map_map]; rfl)), _, rfl, ?_⟩
            have ea : (xs.map nameV).all id = xs.all nameV := by rw [List.all_map]; rfl
            rw [ea]
            cases hall : xs.all nameV with
            | false =>
              unfold sortB at hq
              rw [hall, Bool.false_and] at hq
              exact hq _ sm
            | true =>
              unfold sortB at hq
              rw [hall, Bool.true_and] at hq
              have hxt := names_texts xs hall
              have hok := names_ok xs hall
              generalize xs.map textOf = zs at hq hxt hok
              subst hxt
              -- list(value) == sorted(value)
              refine ⟨_, rfl, p, _, rfl, .inr (sqT_same sm hp), fun l nl => ?_⟩
              have sm2 := same_new sm nl (o := .lst (zs.map V.str))
              refine ⟨_, rfl, p, zs, rfl, sqT_same sm2 hp, by rw [List.length_map] at hlen; omega, fun ys l2 hperm hsrt nl2 => ?_⟩
              refine ⟨.list (tD zs), .list (tD ys), ?_, ?_, shaped_texts hok, shaped_texts (fun z hz => hok z (hperm.mem_iff.mp hz)), ?_⟩
              · exact .lst (.inl (.inl (by rw [upd_ne (ne_of_none upd_same nl2), upd_same]))) (dp_texts zs)
              · exact .lst (.inl (.inl upd_same)) (dp_texts ys)
              · rw [PyData.eqv, eqv_texts, eq_sorted_iff hperm hsrt]
                exact hq _ (same_new sm2 nl2)
end
end Kl

set_option maxRecDepth 100000
set_option maxHeartbeats 4000000
namespace Kl
open PySem PySem.Spec PyProof.Rows L2 Gx Mx
section
variable {P : Program} {w : World} {K : PySem.W.Frag} {mg : Str → Option Value} {base : Heap}
/-! ### the law's dice -/
def spDice (K : PySem.W.Frag) : Sp := fun vs H Q _ => ∃ (a : Addr) (ns : List Int) (i : Nat), vs = [.ref a, .int i] ∧ SqL K H a (ns.map V.int) ∧ ns.length ≤ 63 ∧ i ≤ 1000 ∧
  ∀ (p : Addr) (x b : Int), H p = none → Q (.ref p) (upd H p (.lst [.int x, .int b, .int 0]))
theorem ok_dice {f : Addr} {fd : FuncData} (F : Fun K "_law_dice" "_law_dice" s_law_dice f fd) (T : Top K mg) : FnOk P w K mg base CX0 1 f fd ["_law_script", "_law_spot"] (spDice K) := by
  refine F.ok sc_law_dice (fun vs H Q E h => ?_) (fun cdv A outer s H vs Q E hr h => ?_)
  · obtain ⟨a, ns, i, rfl, _⟩ := h
    rfl
  · obtain ⟨a, ns, i, rfl, hS, hlen, hi, q⟩ := h
    refine ⟨_, pss_cut (ps_set (i := 2) sc_law_dice.nd rfl (.inl rfl) (pe_ifExp
        (pt_cmpR op_lt (pv 1) (pe_callB call_len_seq (by rfl) T.b_len PySem.boot_len (pa_cons (pv 0) pa_nil)) (nomark _))
        (pe_callTy call_int1 (by rfl) T.b_int (by decide +kernel) (pa_cons (pe_ix ix_list (pv 0) (pv 1) (fun _ _ => rfl)) pa_nil))
        (pe_op op_add (pe_op op_mul pe_int (pv 1)) pe_int)))
      (pss_cons (ps_set (i := 3) sc_law_dice.nd rfl (.inl rfl) (pe_op op_mod
        (pe_callB (call_max2 rfl) (by rfl) T.b_max (by decide +kernel) (pa_cons pe_int (pa_cons (pe_op op_sub
          (pe_callB call_abs (by rfl) T.b_abs (by decide +kernel) (pa_cons (pv 2) pa_nil)) (pe_op op_pow pe_int pe_int)) pa_nil)))
        (pe_op op_mulW (pe_op op_pow pe_int pe_int) (pe_op op_pow pe_int pe_int))))
      (pss_one (ps_ret (pe_lst (pa_cons (pv 3) (pa_cons
        (pe_op op_add (pe_op op_add (pe_op op_add (pe_op op_mul (pe_op op_mod (pe_callB call_abs (by rfl) T.b_abs (by decide +kernel) (pa_cons (pv 2) pa_nil)) pe_int) pe_int)
          (pe_op op_mul pe_int (pv 1)))
          (pe_op op_mul pe_int (pe_callTy call_int1 (by rfl) T.b_int (by decide +kernel) (pa_cons (pe_cmpR op_lt (pv 2) pe_int (nomark _)) pa_nil)))) pe_int)
        (pa_cons pe_int pa_nil))))))), ?_⟩
    refine ⟨fun σ' H' => ∃ c : Int, σ' = [some (.ref a), some (.int i), some (.int c), none] ∧ H' = H, ?_, ?_⟩
    · refine ⟨_, rfl, .ref a, rfl, a, _, rfl, .inl hS, _, _, rfl, rfl, _, rfl, ite2 (fun e => ?_) (fun e => ?_)⟩
      · have e' : i < ns.length := by
          have := of_decide_eq_true e
          rw [List.length_map] at this
          omega
        refine ⟨.ref a, rfl, .int i, rfl, a, _, _, .int ns[i], rfl, rfl, hS, atI_nat (by rw [List.getElem?_map, List.getElem?_eq_getElem e']; rfl), .inl ⟨_, rfl, ns[i], rfl, rfl⟩⟩
      · refine ⟨_, rfl, _, _, rfl, rfl, .inl ⟨by decide, by decide⟩, _, _, rfl, rfl, _, rfl, rfl⟩
    · rintro σ' H' ⟨c, rfl, rfl⟩
      refine ⟨_, rfl, _, rfl, ?_⟩
      refine ⟨_, _, rfl, rfl, ⟨by decide, by decide, by decide⟩, ?_⟩
      refine ⟨_, _, rfl, rfl, ?_⟩
      refine ⟨_, _, rfl, ?_⟩
      refine ⟨_, _, rfl, rfl, ⟨by decide, by decide, by decide⟩, ?_⟩
      refine ⟨_, _, rfl, rfl, ⟨by decide, by decide, by decide⟩, ?_⟩
      refine ⟨_, _, rfl, rfl, wide_mul (a := 200) (b := 200) (by decide) (by decide) (by decide) (by decide) (by decide), ?_⟩
      refine ⟨_, _, rfl, rfl, by show (0 : Int) < _; decide, ?_⟩
      generalize (if (if c < 0 then -c else c) - 10 ^ Int.toNat 17 > 0 then (if c < 0 then -c else c) - 10 ^ Int.toNat 17 else 0) % (10 ^ Int.toNat 60 * 10 ^ Int.toNat 60) = left
      refine ⟨_, rfl, _, rfl, _, rfl, _, _, rfl, rfl, by show (0 : Int) < _; decide, _, _, rfl, rfl, .inr ⟨by decide, by decide⟩, ?_⟩
      refine ⟨_, rfl, _, _, rfl, rfl, .inl ⟨by decide, by decide⟩, _, _, rfl, rfl, _, rfl, _, _, rfl, rfl, .inr ⟨_, rfl, ?_⟩⟩
      refine ⟨_, _, rfl, rfl, .inl ⟨by decide, by decide⟩, _, _, rfl, rfl, _, _, rfl, rfl, by show 3 ≤ sizeLine; decide, fun p hp => ?_⟩
      exact q p _ _ hp
def spRoll : Sp := fun vs H Q _ => ∃ (d : Addr) (t : Int), vs = [.ref d, .int t] ∧ DiceAt H d ∧ 0 < t ∧ t.natAbs.log2 < 9000 ∧
  ∀ (r x b c : Int), 0 ≤ r → r < t → Q (.int r) (upd H d (.lst [.int x, .int b, .int c]))
theorem ok_roll {f : Addr} {fd : FuncData} (F : Fun K "_law_roll" "_law_roll" s_law_roll f fd) (T : Top K mg) : FnOk P w K mg base CX0 1 f fd ["_law_dice_here", "_law_total"] spRoll := by
  refine F.ok sc_law_roll (fun vs H Q E h => ?_) (fun cdv A outer s H vs Q E hr h => ?_)
  · obtain ⟨d, t, rfl, _⟩ := h
    rfl
  · obtain ⟨d, t, rfl, ⟨x, b, c, hd⟩, ht, ht2, q⟩ := h
    refine ⟨_, pss_cons (ps_if (pt_cmpR op_gt (pe_ix ix_list (pv 0) pe_int (fun _ _ => rfl)) pe_int (nomark _))
        (pss_cons (ps_set (i := 2) sc_law_roll.nd rfl (.inl rfl) (pe_op op_mod (pe_callTy call_int1 (by rfl) T.b_int (by decide +kernel) (pa_cons (pe_ix ix_list (pv 0) pe_int (fun _ _ => rfl)) pa_nil)) (pv 1)))
        (pss_cons (ps_asg (pe_op op_fdivW (pe_ix ix_list (pv 0) pe_int (fun _ _ => rfl)) (pv 1)) (pg_sub (pv 0) pe_int set_list))
        (pss_one (ps_ret (pv 2))))) pss_nil)
      (pss_cons (ps_asg (pe_op op_add (pe_ix ix_list (pv 0) pe_int (fun _ _ => rfl)) pe_int) (pg_sub (pv 0) pe_int set_list))
      (pss_cons (ps_set (i := 3) sc_law_roll.nd rfl (.inl rfl) (pe_op op_mod (pe_callTy call_int1 (by rfl) T.b_int (by decide +kernel) (pa_cons
        (pe_op op_add (pe_ix ix_list (pv 0) pe_int (fun _ _ => rfl)) (pe_op op_mul pe_int (pe_ix ix_list (pv 0) pe_int (fun _ _ => rfl)))) pa_nil)) pe_int))
      (pss_cons (ps_set (i := 4) sc_law_roll.nd rfl (.inl rfl) (pe_op op_add (pe_op op_mul (pe_op op_mod (pe_callTy call_int1 (by rfl) T.b_int (by decide +kernel) (pa_cons
        (pe_op op_add (pe_op op_mul (pv 3) (pv 3)) (pe_op op_mul pe_int (pe_ix ix_list (pv 0) pe_int (fun _ _ => rfl)))) pa_nil)) pe_int) pe_int) (pv 3)))
      (pss_one (ps_ret (pe_op op_mod (pe_callTy call_int1 (by rfl) T.b_int (by decide +kernel) (pa_cons (pe_op op_fdiv (pv 4) pe_int) pa_nil)) (pv 1))))))), ?_⟩
    have at0 : ∀ (x y z : V), atI [x, y, z] 0 = some x := fun x y z => atI_nat (j := 0) rfl
    have at1 : ∀ (x y z : V), atI [x, y, z] 1 = some y := fun x y z => atI_nat (j := 1) rfl
    have at2 : ∀ (x y z : V), atI [x, y, z] 2 = some z := fun x y z => atI_nat (j := 2) rfl
    have hS : SqL K H d [.int x, .int b, .int c] := .inl (.inl hd)
    refine ⟨_, rfl, d, _, _, _, rfl, rfl, hS, at0 _ _ _, _, _, rfl, rfl, _, rfl, ite2 (fun e => ?_) (fun e => ?_)⟩
    · refine ⟨_, rfl, d, _, _, _, rfl, rfl, hS, at0 _ _ _, .inl ⟨_, rfl, _, rfl, _, _, rfl, rfl, ht, ?_⟩⟩
      refine ⟨_, rfl, d, _, _, _, rfl, rfl, hS, at0 _ _ _, _, rfl, _, _, rfl, rfl, ⟨ht, ht2⟩, ?_⟩
      refine ⟨_, rfl, d, _, _, 0, rfl, rfl, hd, rfl, ?_⟩
      refine ⟨_, rfl, ?_⟩
      exact q _ _ _ _ (Int.emod_nonneg _ (by omega)) (Int.emod_lt_of_pos _ ht)
    · refine ⟨_, rfl, d, _, _, _, rfl, rfl, hS, at2 _ _ _, _, _, rfl, rfl, ?_⟩
      refine ⟨_, rfl, d, _, _, 2, rfl, rfl, hd, rfl, ?_⟩
      have hd1 : (upd H d (.lst ([V.int x, V.int b, V.int c].set 2 (.int (c + 1))))) d = some (.lst [V.int x, V.int b, V.int (c + 1)]) := upd_same
      have hS1 : SqL K (upd H d (.lst ([V.int x, V.int b, V.int c].set 2 (.int (c + 1))))) d [V.int x, V.int b, V.int (c + 1)] := .inl (.inl hd1)
      refine ⟨_, rfl, d, _, _, _, rfl, rfl, hS1, at1 _ _ _, _, rfl, d, _, _, _, rfl, rfl, hS1, at2 _ _ _, _, _, rfl, rfl, .inl ⟨by decide, by decide⟩, _, _, rfl, rfl, .inl ⟨_, rfl, ?_⟩⟩
      refine ⟨_, _, rfl, rfl, by show (0 : Int) < _; decide, ?_⟩
      have h1 := Int.emod_nonneg (b + 7919 * (c + 1)) (show (2305843009213693907 : Int) ≠ 0 by decide)
      have h2 := Int.emod_lt_of_pos (b + 7919 * (c + 1)) (show (0 : Int) < 2305843009213693907 by decide)
      generalize (b + 7919 * (c + 1)) % 2305843009213693907 = one at h1 h2
      refine ⟨_, rfl, _, rfl, _, _, rfl, rfl, .inl ⟨by omega, by omega⟩, _, rfl, d, _, _, _, rfl, rfl, hS1, at2 _ _ _, _, _, rfl, rfl, .inl ⟨by decide, by decide⟩, _, _, rfl, rfl, .inl ⟨_, rfl, ?_⟩⟩
      refine ⟨_, _, rfl, rfl, by show (0 : Int) < _; decide, _, _, rfl, rfl, .inr ⟨by decide, by decide⟩, _, rfl, _, _, rfl, rfl, ?_⟩
      refine ⟨_, rfl, _, _, rfl, rfl, ⟨by decide, by decide⟩, .inl ⟨_, rfl, _, rfl, _, _, rfl, rfl, ht, ?_⟩⟩
      exact q _ _ _ _ (Int.emod_nonneg _ (by omega)) (Int.emod_lt_of_pos _ ht)
/-- what may be picked from: the items of a list, a tuple, a text -/
def Items (K : PySem.W.Frag) (H : Hp) (d : Addr) (x : V) (xs : List V) : Prop :=
  (∃ p, x = .ref p ∧ p ≠ d ∧ (SqL K H p xs ∨ SqT K H p xs)) ∨ ∃ z : Str, x = .str z ∧ xs = signV z ∧ z.length ≤ sizeLine
def spPick (K : PySem.W.Frag) : Sp := fun vs H Q _ => ∃ (d : Addr) (x : V) (xs : List V), vs = [.ref d, x] ∧ DiceAt H d ∧ Items K H d x xs ∧ xs ≠ [] ∧ xs.length ≤ 100000 ∧
  ∀ (v : V) (x b c : Int), v ∈ xs → Q v (upd H d (.lst [.int x, .int b, .int c]))
theorem log2_small {n : Nat} (h : n ≤ 100000) : ((n : Int).natAbs).log2 < 9000 := by
  have h1 : ((n : Int).natAbs) < 2 ^ 20 := by
    rw [Int.natAbs_natCast]
    exact Nat.lt_of_le_of_lt h (by decide)
  exact Nat.lt_of_lt_of_le (PySem.Flt.log2_lt_of (by decide) h1) (by decide)
theorem ok_pick {f : Addr} {fd : FuncData} (F : Fun K "_law_pick" "_law_pick" s_law_pick f fd) (T : Top K mg) : FnOk P w K mg base CX0 2 f fd ["_law_dice_here", "_law_items"] (spPick K) := by
  have cr : Cal P w K mg base 1 "_law_roll" ["_law_dice_here", "_law_total"] spRoll := T.d_law_roll.cal fun f fd F => ok_roll F T
  refine F.ok sc_law_pick (fun vs H Q E h => ?_) (fun cdv A outer s H vs Q E hr h => ?_)
  · obtain ⟨d, x, xs, rfl, _⟩ := h
    rfl
  · obtain ⟨d, x, xs, rfl, hd, hI, hne, hlen, q⟩ := h
    refine ⟨_, pss_one (ps_ret (pe_ix ix_seq (pv 1) (pe_cal cr hr (by rfl) (pa_cons (pv 0) (pa_cons (pe_callB call_len (by rfl) T.b_len PySem.boot_len (pa_cons (pv 1) pa_nil)) pa_nil))) (fun _ _ => rfl))), ?_⟩
    have hpos : 0 < xs.length := List.length_pos_iff.mpr hne
    rcases hI with ⟨p, rfl, hp, hs⟩ | ⟨z, rfl, rfl, hz⟩
    · refine ⟨_, rfl, _, rfl, _, rfl, _, (xs.length : Nat), rfl, ?_, ?_⟩
      · rcases hs with hs | hs
        · exact .inl ⟨_, hs, rfl⟩
        · exact .inr ⟨_, hs, rfl⟩
      · refine ⟨d, _, rfl, hd, by omega, log2_small hlen, fun r x b c h0 h1 => ?_⟩
        obtain ⟨v, hv, ha⟩ := atI_int (xs := xs) h0 h1
        rcases hs with hs | hs
        · exact .inl ⟨p, _, _, v, rfl, rfl, sqL_ne hp hs, ha, q v x b c hv⟩
        · exact .inr (.inl ⟨p, _, _, v, rfl, rfl, sqT_ne hp hs, ha, q v x b c hv⟩)
    · have hlz := signV_len z
      refine ⟨_, rfl, _, rfl, _, rfl, _, (z.length : Nat), rfl, ⟨hz, rfl⟩, ?_⟩
      refine ⟨d, _, rfl, hd, by omega, log2_small (by omega), fun r x b c h0 h1 => ?_⟩
      obtain ⟨v, hv, ha⟩ := atI_int (xs := z.cps.toList) h0 (by rw [Array.length_toList]; exact h1)
      exact .inr (.inr ⟨z, r, v, rfl, rfl, hz, ha, q _ x b c (List.mem_map.mpr ⟨_, hv, rfl⟩)⟩)
end
end Kl

set_option maxRecDepth 100000
set_option maxHeartbeats 4000000
namespace Mx
open PySem PySem.Spec PyProof.Rows L2 Gx
/-! ### the words of the law: at most nine signs of five -/
def S5 : List Nat := [32, 65, 97, 98, 122]
/-- a word over the five signs, of n signs at most -/
def WordN (n : Nat) (z : Str) : Prop := z.length ≤ n ∧ ∀ c ∈ z.cps.toList, c ∈ S5
abbrev WordOk (z : Str) : Prop := WordN 9 z
theorem cps_app (a b : Str) : (a ++ b).cps.toList = a.cps.toList ++ b.cps.toList := by
  show (a.cps ++ b.cps).toList = _
  rw [Array.toList_append]
theorem wordN_app {a b : Str} {n m : Nat} (ha : WordN n a) (hb : WordN m b) : WordN (n + m) (a ++ b) := by
  refine ⟨by rw [app_len]; exact Nat.add_le_add ha.1 hb.1, fun c hc => ?_⟩
  rw [cps_app] at hc
  rcases List.mem_append.mp hc with h | h
  · exact ha.2 c h
  · exact hb.2 c h
theorem WordN.mono {a : Str} {n m : Nat} (h : WordN n a) (hm : n ≤ m) : WordN m a := ⟨Nat.le_trans h.1 hm, h.2⟩
theorem join_mem {e : Str} (he : e.length = 0) {P : Nat → Prop} : ∀ zs : List Str, (∀ z ∈ zs, ∀ c ∈ z.cps.toList, P c) → ∀ c ∈ (Txt.join e zs).cps.toList, P c := by
  intro zs h
  rw [TL.join_eq]
  have e0 : e.cps.toList = [] := List.length_eq_zero_iff.mp (by rw [Array.length_toList]; exact he)
  induction zs with
  | nil =>
    intro c hc
    have : (Str.join e []).cps.toList = [] := rfl
    rw [this] at hc
    cases hc
  | cons x r ih =>
    cases r with
    | nil => exact h x (List.mem_cons_self ..)
    | cons y r =>
      intro c hc
      have hc' : c ∈ (x ++ e ++ Str.join e (y :: r)).cps.toList := hc
      rw [cps_app, cps_app, e0, List.append_nil] at hc'
      rcases List.mem_append.mp hc' with q | q
      · exact h x (List.mem_cons_self ..) c q
      · exact ih (fun z hz => h z (List.mem_cons_of_mem _ hz)) c q
theorem join_word {e : Str} (he : e.length = 0) {zs : List Str} {n : Nat} (h1 : ∀ z ∈ zs, z.length = 1) (h2 : ∀ z ∈ zs, ∀ c ∈ z.cps.toList, c ∈ S5) (hn : zs.length ≤ n) : WordN n (Txt.join e zs) :=
  ⟨by rw [join_one he zs h1]; exact hn, join_mem he zs h2⟩
/-! ### lower(), isalpha() of such words -/
theorem low5 : ∀ c ∈ S5, Unicode.lowerOf c = [if c = 65 then 97 else c] ∧ (c == 0x3A3) = false ∧ (Unicode.isAlpha c = !decide (c = 32)) ∧ (isLow c = (!decide (c = 32) && !decide (c = 65))) := by decide +kernel
theorem flat_map (f : Nat → List Nat) : ∀ l : List Nat, (l.map fun c => (f c).toArray).flatMap (fun a => a.toList) = l.flatMap f
  | [] => rfl
  | c :: l => by rw [List.map_cons, List.flatMap_cons, List.flatMap_cons, flat_map f l]
theorem lower_word {z : Str} (h : ∀ c ∈ z.cps.toList, c ∈ S5) : (Txt.lower z).cps.toList = z.cps.toList.map fun c => if c = 65 then 97 else c := by
  obtain ⟨⟨l⟩⟩ := z
  have e : (Txt.lower ⟨⟨l⟩⟩).cps.toList = (l.mapIdx fun i c => Unicode.lowerAt ⟨l⟩ i).flatten := by
    show ((((⟨l⟩ : Array Nat).mapIdx fun i c => (Unicode.lowerAt ⟨l⟩ i).toArray)).flatten).toList = _
    rw [Array.toList_flatten, Array.toList_mapIdx]
    congr 1
    apply List.ext_getElem
    · simp
    · intro i h1 h2
      simp
  rw [e]
  have key : (l.mapIdx fun i c => Unicode.lowerAt ⟨l⟩ i) = l.map fun c => [if c = 65 then 97 else c] := by
    apply List.ext_getElem
    · simp
    · intro i h1 h2
      rw [List.getElem_mapIdx, List.getElem_map]
      have hi : i < l.length := by simpa using h1
      unfold Unicode.lowerAt
      have hg : (⟨l⟩ : Array Nat)[i]? = some l[i] := by simp [hi]
      rw [hg]
      obtain ⟨a1, a2, _⟩ := low5 _ (h _ (List.getElem_mem hi))
      show (if _ then _ else _) = _
      rw [a2, Bool.false_and, if_neg (by decide), a1]
  rw [key]
  show _ = l.map _
  clear key e h
  induction l with
  | nil => rfl
  | cons c l ih => rw [List.map_cons, List.flatten_cons, ih, List.map_cons]; rfl
theorem map_self {f : Nat → Nat} : ∀ l : List Nat, decide (l.map f = l) = l.all fun c => decide (f c = c)
  | [] => rfl
  | c :: l => by
    rw [List.map_cons, List.all_cons, ← map_self l, Bool.eq_iff_iff, Bool.and_eq_true, decide_eq_true_eq, decide_eq_true_eq, decide_eq_true_eq, List.cons.injEq]
/-- the law's own word for a name -/
theorem law_name {z : Str} (h : WordOk z) (h1 : 1 ≤ z.length) : ((Txt.lower z == z) && Txt.isalpha z) = z.cps.toList.all isLow := by
  have e1 : (Txt.lower z == z) = z.cps.toList.all fun c => !decide (c = 65) := by
    have e : (Txt.lower z == z) = decide ((Txt.lower z).cps.toList = z.cps.toList) := by
      rw [Bool.eq_iff_iff, beq_iff_eq, decide_eq_true_eq]
      constructor
      · intro q; rw [q]
      · intro q
        generalize Txt.lower z = y at q
        cases y
        cases z
        rw [Str.mk.injEq]
        exact Array.toList_inj.mp q
    rw [e, lower_word h.2, map_self]
    congr 1
    funext c
    rw [Bool.eq_iff_iff, decide_eq_true_eq, Bool.not_eq_true', decide_eq_false_iff_not]
    by_cases q : c = 65
    · subst q; simp
    · simp [q]
  have e2 : Txt.isalpha z = z.cps.toList.all Unicode.isAlpha := by
    unfold Txt.isalpha
    rw [Array.all_toList]
    have hl : z.length = z.cps.size := rfl
    rw [decide_eq_true (show z.length > 0 from h1), Bool.true_and]
  rw [e1, e2, Bool.eq_iff_iff, Bool.and_eq_true, List.all_eq_true, List.all_eq_true, List.all_eq_true]
  constructor
  · rintro ⟨a, b⟩ c hc
    obtain ⟨_, _, f3, f4⟩ := low5 c (h.2 c hc)
    rw [f4, a c hc, ← f3, b c hc]; rfl
  · intro a
    refine ⟨fun c hc => ?_, fun c hc => ?_⟩
    · have q := a c hc
      rw [(low5 c (h.2 c hc)).2.2.2, Bool.and_eq_true] at q
      exact q.2
    · have q := a c hc
      rw [(low5 c (h.2 c hc)).2.2.2, Bool.and_eq_true] at q
      rw [(low5 c (h.2 c hc)).2.2.1]
      exact q.1
/-! ### the order of words, sign by sign -/
def rank5 (c : Nat) : Nat := if c = 32 then 0 else if c = 65 then 1 else if c = 97 then 2 else if c = 98 then 3 else 4
theorem rank_lt : ∀ a ∈ S5, ∀ b ∈ S5, decide ((rank5 a : Int) < (rank5 b : Int)) = decide (a < b) := by decide +kernel
theorem rank_occ : ∀ c ∈ S5, Builtin.Str.occurrences (" Aabz" : Str) ⟨#[c]⟩ 0 (" Aabz" : Str).length 1 = [rank5 c] := by decide +kernel
theorem ltCps_at : ∀ (i : Nat) (a b : List Nat) (x y : Nat), a.take i = b.take i → a[i]? = some x → b[i]? = some y → x ≠ y → ltCps a b = decide (x < y)
  | 0, a :: r, b :: t, x, y, _, ha, hb, n => by
    simp only [List.getElem?_cons_zero, Option.some.injEq] at ha hb
    subst ha hb
    rw [ltCps, beq_eq_false_iff_ne.mpr n, Bool.false_and, Bool.or_false]
  | i + 1, a :: r, b :: t, x, y, h, ha, hb, n => by
    rw [List.take_succ_cons, List.take_succ_cons, List.cons.injEq] at h
    rw [List.getElem?_cons_succ] at ha hb
    rw [ltCps, ltCps_at i r t x y h.2 ha hb n, h.1]
    simp
  | _, [], _, _, _, _, ha, _, _ => by simp at ha
  | _, _ :: _, [], _, _, _, _, hb, _ => by simp at hb
theorem ltCps_end : ∀ (a b : List Nat), a.take (min a.length b.length) = b.take (min a.length b.length) → ltCps a b = decide (a.length < b.length)
  | [], [], _ => rfl
  | [], _ :: _, _ => by simp [ltCps]
  | _ :: _, [], _ => by simp [ltCps]
  | a :: r, b :: t, h => by
    rw [List.length_cons, List.length_cons, Nat.add_min_add_right, List.take_succ_cons, List.take_succ_cons, List.cons.injEq] at h
    rw [ltCps, ltCps_end r t h.2, h.1]
    simp
/-- a is ahead of b -/
def ltS (a b : Str) : Bool := ltCps a.cps.toList b.cps.toList
end Mx

set_option maxRecDepth 100000
set_option maxHeartbeats 4000000
namespace Kl
open PySem PySem.Spec PyProof.Rows L2 Gx Mx
section
variable {P : Program} {w : World} {K : PySem.W.Frag} {mg : Str → Option Value} {base : Heap}
/-! ### a drawn word -/
/-- all but what stands at d is as it was -/
def SameX (d : Addr) (H H' : Hp) : Prop := ∀ b o, b ≠ d → H b = some o → H' b = some o
theorem SameX.refl (d : Addr) (H : Hp) : SameX d H H := fun _ _ _ e => e
theorem SameX.trans {d : Addr} {H H' H'' : Hp} (h : SameX d H H') (h' : SameX d H' H'') : SameX d H H'' := fun b o n e => h' b o n (h b o n e)
theorem SameX.atd {d : Addr} {H H' : Hp} {o : HO} (h : SameX d H H') : SameX d H (upd H' d o) := fun b u n e => by rw [upd_ne n]; exact h b u n e
theorem SameX.new {d p : Addr} {H H' : Hp} {o : HO} (h : SameX d H H') (n : H' p = none) : SameX d H (upd H' p o) := fun b u nb e => by
  have e' := h b u nb e
  rw [upd_ne (ne_of_none e' n)]
  exact e'
theorem SameX.at {d p : Addr} {H H' : Hp} {o : HO} (h : SameX d H H') (n : H p = none) : SameX d H (upd H' p o) := fun b u nb e => by
  rw [upd_ne (ne_of_none e n)]
  exact h b u nb e
theorem SameX.of {d : Addr} {H H' : Hp} (h : Same H H') : SameX d H H' := fun b o _ e => h b o e
theorem SameX.free {d p : Addr} {H H' : Hp} (h : SameX d H H') (n : p ≠ d) (e : H' p = none) : H p = none := by
  cases q : H p with
  | none => rfl
  | some o => rw [h p o n q] at e; cases e
theorem dice_ne {H : Hp} {d p : Addr} (h : DiceAt H d) (e : H p = none) : p ≠ d := fun q => by
  obtain ⟨_, _, _, h⟩ := h
  rw [q, h] at e
  cases e
theorem dice_upd {H : Hp} {d p : Addr} {o : HO} (h : DiceAt H d) (n : p ≠ d) : DiceAt (upd H p o) d := by
  obtain ⟨a, b, c, h⟩ := h
  exact ⟨a, b, c, by rw [upd_ne n.symm]; exact h⟩
theorem dice_new {H : Hp} {d : Addr} (x b c : Int) : DiceAt (upd H d (.lst [.int x, .int b, .int c])) d := ⟨_, _, _, upd_same⟩
def spWord : Sp := fun vs H Q _ => ∃ d : Addr, vs = [.ref d] ∧ DiceAt H d ∧ ∀ (z : Str) (H' : Hp), WordOk z → SameX d H H' → DiceAt H' d → Q (.str z) H'
theorem aabz : ∀ v ∈ signV ("aabz" : Str), ∃ c : Nat, v = .str ⟨#[c]⟩ ∧ c ∈ S5 := by
  intro v hv
  obtain ⟨c, hc, rfl⟩ := List.mem_map.mp hv
  refine ⟨c, rfl, ?_⟩
  have : ∀ c ∈ ("aabz" : Str).cps.toList, c ∈ S5 := by decide +kernel
  exact this c hc
theorem lit7 : WordN 7 ("aaaaaaa" : Str) := ⟨by decide +kernel, by decide +kernel⟩
theorem litA : WordN 1 ("A" : Str) := ⟨by decide +kernel, by decide +kernel⟩
theorem litN : WordN 0 ("" : Str) := ⟨by decide +kernel, by decide +kernel⟩
theorem litB : WordN 1 (" " : Str) := ⟨by decide +kernel, by decide +kernel⟩
theorem ok_word {f : Addr} {fd : FuncData} (F : Fun K "_law_word" "_law_word" s_law_word f fd) (T : Top K mg) : FnOk P w K mg base CX0 3 f fd ["_law_dice_here"] spWord := by
  have cr : Cal P w K mg base 2 "_law_roll" ["_law_dice_here", "_law_total"] spRoll := (T.d_law_roll.cal fun f fd F => ok_roll F T).mono (by decide)
  have cp : Cal P w K mg base 2 "_law_pick" ["_law_dice_here", "_law_items"] (spPick K) := T.d_law_pick.cal fun f fd F => ok_pick F T
  refine F.ok sc_law_word (fun vs H Q E h => ?_) (fun cdv A outer s H vs Q E hr h => ?_)
  · obtain ⟨d, rfl, _⟩ := h
    rfl
  · obtain ⟨d, rfl, hd, q⟩ := h
    refine ⟨_, pss_cons (ps_set (i := 1) sc_law_word.nd rfl (.inl rfl) (pe_join pe_str (pe_lc (own := [("_law_turn", 2)]) (g := gName 2) (tt := tYes) rfl sc_law_word.nd (pi_range1 (by rfl) T.b_range (pa_cons
            (pe_op op_add pe_int (pe_cal cr hr (by rfl) (pa_cons (pv 0) (pa_cons pe_int pa_nil)))) pa_nil))
            (blkOk_by (N := ["_law_dice_here", "_law_word_here", "_law_turn"]) (sc := defScope s_law_word) (by decide +kernel))
            (fun _ _ _ _ _ => pg_name (i := 2) sc_law_word.nd rfl (.inl rfl)) (fun _ _ _ _ _ => pts_nil) (fun _ _ _ _ _ => pe_cal cp hr (by rfl) (pa_cons (pv 0) (pa_cons pe_str pa_nil))))))
      (pss_one (ps_ret (pe_cal cp hr (by rfl) (pa_cons (pv 0) (pa_cons (pe_lst (pa_cons (pv 1) (pa_cons (pv 1) (pa_cons (pv 1) (pa_cons (pv 1) (pa_cons (pe_op op_add_str (pv 1) pe_str) (pa_cons (pe_op op_add_str (pv 1) pe_str)
          (pa_cons pe_str (pa_cons (pe_op op_add_str (pv 1) pe_str) pa_nil))))))))) pa_nil))))), ?_⟩
    refine ⟨⟨_, rfl⟩, _, rfl, d, _, rfl, hd, by decide, by decide, fun r x b c h0 h1 => ?_⟩
    have sm1 : SameX d H (upd H d (.lst [.int x, .int b, .int c])) := (SameX.refl d H).atd
    have hd1 : DiceAt (upd H d (.lst [.int x, .int b, .int c])) d := dice_new x b c
    generalize upd H d (.lst [.int x, .int b, .int c]) = H1 at sm1 hd1 ⊢
    refine ⟨_, _, rfl, rfl, _, rfl, by omega, by omega, fun D hD => ?_⟩
    have nDd := dice_ne hd1 hD
    refine lc_range (lo := 0) (fun j H2 => ∃ zs : List Str, H2 D = some (.lst (zs.map V.str)) ∧ zs.length = j ∧ (∀ z ∈ zs, z.length = 1) ∧ (∀ z ∈ zs, ∀ c ∈ z.cps.toList, c ∈ S5) ∧ SameX d H H2 ∧ DiceAt H2 d)
      ⟨[], upd_same, rfl, (fun z hz => by cases hz), (fun z hz => by cases hz), sm1.new hD, dice_upd hd1 nDd⟩ (fun j H2 hj hP => ?_) (fun H2 hP => ?_)
    · obtain ⟨zs, ez, el, e1, e2, sm2, hd2⟩ := hP
      refine ⟨rfl, ?_⟩
      refine ⟨_, rfl, d, _, _, rfl, hd2, .inr ⟨_, rfl, rfl, by decide⟩, by decide +kernel, by decide +kernel, fun v x b c hv => ?_⟩
      obtain ⟨ch, rfl, h5⟩ := aabz v hv
      refine ⟨zs.map V.str, by rw [upd_ne nDd]; exact ez, by rw [List.length_map]; exact Nat.lt_of_le_of_lt (show zs.length ≤ 100 by omega) (by decide), zs ++ [⟨#[ch]⟩], ?_, ?_, ?_, ?_, ?_, ?_⟩
      · rw [upd_same, List.map_append]
        rfl
      · rw [List.length_append, el]
        rfl
      · intro z hz
        rcases List.mem_append.mp hz with hz | hz
        · exact e1 z hz
        · rw [List.mem_singleton.mp hz]
          rfl
      · intro z hz c hc
        rcases List.mem_append.mp hz with hz | hz
        · exact e2 z hz c hc
        · rw [List.mem_singleton.mp hz] at hc
          rw [List.mem_singleton.mp (show c ∈ [ch] from hc)]
          exact h5
      · exact (sm2.atd).at (sm1.free nDd hD)
      · exact dice_upd (dice_new x b c) nDd
    obtain ⟨zs, ez, el, e1, e2, sm2, hd2⟩ := hP
    have hw : WordN 2 (Txt.join "" zs) := join_word rfl e1 e2 (by omega)
    refine ⟨_, D, zs, rfl, rfl, .inl (.inl (.inl ez)), ?_, ?_⟩
    · rw [sum_ones zs e1]
      have : (("" : Str).length) = 0 := rfl
      rw [this]
      omega
    generalize Txt.join "" zs = word at hw ⊢
    have w7 := wordN_app hw lit7
    have wA := wordN_app hw litA
    have wB := wordN_app hw litB
    refine ⟨_, rfl, _, rfl, _, rfl, _, rfl, _, rfl, _, rfl, _, _, rfl, rfl, by rw [← app_len]; exact Nat.le_trans w7.1 (by decide), _, rfl, _, _, rfl, rfl, by rw [← app_len]; exact Nat.le_trans wA.1 (by decide), _, rfl, _, _, rfl, rfl, by rw [← app_len]; exact Nat.le_trans wB.1 (by decide), by show 8 ≤ sizeLine; decide, fun p np => ?_⟩
    have npd := dice_ne hd2 np
    refine ⟨d, _, _, rfl, dice_upd hd2 npd, .inl ⟨p, rfl, npd, .inl (.inl (.inl upd_same))⟩, by simp, by show 8 ≤ 100000; decide, fun v x b c hv => ?_⟩
    obtain ⟨z, rfl, hz⟩ : ∃ z : Str, v = .str z ∧ WordOk z := by
      simp only [List.mem_cons, List.not_mem_nil, or_false] at hv
      rcases hv with rfl | rfl | rfl | rfl | rfl | rfl | rfl | rfl
      · exact ⟨_, rfl, hw.mono (by decide)⟩
      · exact ⟨_, rfl, hw.mono (by decide)⟩
      · exact ⟨_, rfl, hw.mono (by decide)⟩
      · exact ⟨_, rfl, hw.mono (by decide)⟩
      · exact ⟨_, rfl, w7.mono (by decide)⟩
      · exact ⟨_, rfl, wA.mono (by decide)⟩
      · exact ⟨_, rfl, litN.mono (by decide)⟩
      · exact ⟨_, rfl, wB.mono (by decide)⟩
    exact q z _ hz ((sm2.new np).atd) (dice_new x b c)
/-! ### the law's own judge of names -/
def spLName : Sp := fun vs H Q _ => ∃ z : Str, vs = [.str z] ∧ WordOk z ∧ Q (.bl (nameB z)) H
theorem ok_lname {f : Addr} {fd : FuncData} (F : Fun K "_law_is_name" "_law_is_name" s_law_is_name f fd) (T : Top K mg) : FnOk P w K mg base CX0 1 f fd ["_law_word_here"] spLName := by
  refine F.ok sc_law_is_name (fun vs H Q E h => ?_) (fun cdv A outer s H vs Q E hr h => ?_)
  · obtain ⟨z, rfl, _⟩ := h
    rfl
  · obtain ⟨z, rfl, hz, q⟩ := h
    have hs : z.length ≤ sizeLine := Nat.le_trans hz.1 (by decide)
    refine ⟨_, pss_one (ps_ret (pe_and (pe_chain op_lt op_lt pe_int (pe_callB call_len_str (by rfl) T.b_len PySem.boot_len (pa_cons (pv 0) pa_nil)) pe_int)
      (pe_and (pe_cmpR op_eq (pe_lower (pv 0)) (pv 0) (nomark _)) (pe_one (pe_m0 PySem.F.slot_str_isalpha PySem.F.type_str_isalpha mt_isalpha (pv 0)))))), ?_⟩
    unfold nameB at q
    have hl : z.length = z.cps.size := rfl
    refine ⟨_, rfl, z, rfl, hs, _, _, rfl, rfl, _, rfl, ite2 (fun e => ?_) (fun e => ?_)⟩
    rotate_left
    · have : ¬ (1 ≤ z.cps.size) := fun h => e (decide_eq_true (by omega))
      rw [decide_eq_false this] at q
      exact ⟨_, rfl, q⟩
    · have h1 : 1 ≤ z.length := by have := of_decide_eq_true e; omega
      rw [decide_eq_true (show 1 ≤ z.cps.size from h1), Bool.true_and, ← law_name hz h1] at q
      clear e
      refine ⟨_, _, rfl, rfl, _, rfl, ?_⟩
      cases hb2 : decide ((z.length : Int) < 9) with
      | false =>
        have : ¬ (z.cps.size ≤ 8) := fun h => of_decide_eq_false hb2 (by omega)
        rw [decide_eq_false this] at q
        exact q
      | true =>
        have h2 : z.length ≤ 8 := by have := of_decide_eq_true hb2; omega
        rw [decide_eq_true (show z.cps.size ≤ 8 from h2), Bool.true_and] at q
        refine ⟨_, rfl, ⟨_, rfl⟩, z, rfl, rfl, Nat.le_trans hz.1 (by decide), _, rfl, rfl, _, rfl, ?_⟩
        have e : decide (V.str (Txt.lower z) = V.str z) = (Txt.lower z == z) := by
          rw [decS, Bool.eq_iff_iff, beq_iff_eq, decide_eq_true_eq]
        rw [e]
        cases e2 : (Txt.lower z == z) with
        | false =>
          rw [e2, Bool.false_and] at q
          exact q
        | true =>
          rw [e2, Bool.true_and] at q
          exact ⟨_, rfl, ⟨_, rfl⟩, z, rfl, rfl, trivial, q⟩
end
end Kl

set_option maxRecDepth 100000
set_option maxHeartbeats 4000000
namespace Kl
open PySem PySem.Spec PyProof.Rows L2 Gx Mx
section
variable {P : Program} {w : World} {K : PySem.W.Frag} {mg : Str → Option Value} {base : Heap}
/-! ### the law's own order of words -/
def spLess : Sp := fun vs H Q _ => ∃ a b : Str, vs = [.str a, .str b] ∧ WordOk a ∧ WordOk b ∧ Q (.bl (ltS a b)) H
theorem take_snoc2 {α : Type} {l m : List α} {i : Nat} {x : α} (h : l.take i = m.take i) (h1 : l[i]? = some x) (h2 : m[i]? = some x) : l.take (i + 1) = m.take (i + 1) := by
  rw [take_snoc h1, take_snoc h2, h]
theorem sign_ne (a b : Nat) : decide (V.str ⟨#[a]⟩ = V.str ⟨#[b]⟩) = decide (a = b) := by
  rw [decS]
  exact decide_eq_decide.mpr ⟨fun e => by simpa using e, fun e => by rw [e]⟩
theorem ok_less {f : Addr} {fd : FuncData} (F : Fun K "_law_is_less" "_law_is_less" s_law_is_less f fd) (T : Top K mg) : FnOk P w K mg base CX0 1 f fd ["_law_one", "_law_other"] spLess := by
  refine F.ok sc_law_is_less (fun vs H Q E h => ?_) (fun cdv A outer s H vs Q E hr h => ?_)
  · obtain ⟨a, b, rfl, _⟩ := h
    rfl
  · obtain ⟨a, b, rfl, ha, hb, q⟩ := h
    have sa : a.length ≤ sizeLine := Nat.le_trans ha.1 (by decide)
    have sb : b.length ≤ sizeLine := Nat.le_trans hb.1 (by decide)
    refine ⟨_, pss_cons (ps_set (i := 2) sc_law_is_less.nd rfl (.inl rfl) pe_str)
      (pss_cons (ps_for PassesOwn.never rfl (pi_range1 (by rfl) T.b_range (pa_cons (pe_callB (call_min2 rfl) (by rfl) T.b_min (by decide +kernel) (pa_cons (pe_callB call_len_str (by rfl) T.b_len PySem.boot_len (pa_cons (pv 0) pa_nil))
            (pa_cons (pe_callB call_len_str (by rfl) T.b_len PySem.boot_len (pa_cons (pv 1) pa_nil)) pa_nil))) pa_nil)) (pg_name (i := 3) sc_law_is_less.nd rfl (.inl rfl))
        (pss_one (ps_if (pt_cmpR op_ne (pe_ix ix_str (pv 0) (pv 3) (fun _ _ => rfl)) (pe_ix ix_str (pv 1) (pv 3) (fun _ _ => rfl)) (nomark _))
          (pss_one (ps_ret (pe_cmpR op_lt (pe_m1 PySem.F.slot_str_index PySem.F.type_str_index mt_sindex (pv 2) (pe_ix ix_str (pv 0) (pv 3) (fun _ _ => rfl)))
            (pe_m1 PySem.F.slot_str_index PySem.F.type_str_index mt_sindex (pv 2) (pe_ix ix_str (pv 1) (pv 3) (fun _ _ => rfl))) (nomark _)))) pss_nil)))
      (pss_one (ps_ret (pe_cmpR op_lt (pe_callB call_len_str (by rfl) T.b_len PySem.boot_len (pa_cons (pv 0) pa_nil)) (pe_callB call_len_str (by rfl) T.b_len PySem.boot_len (pa_cons (pv 1) pa_nil)) (nomark _))))), ?_⟩
    refine ⟨_, rfl, a, rfl, sa, _, rfl, b, rfl, sb, _, _, rfl, _, rfl, ?_⟩
    have hm : (if (b.length : Int) < (a.length : Int) then (b.length : Int) else (a.length : Int)) = ((min a.length b.length : Nat) : Int) := by
      split <;> omega
    have la : a.cps.toList.length = a.length := Array.length_toList
    have lb : b.cps.toList.length = b.length := Array.length_toList
    have l9 : a.length ≤ 9 := ha.1
    rw [hm]
    refine ⟨by omega, by omega, ?_⟩
    refine for_range (lo := 0) (fun i σ' H' => ∃ y3, σ' = [some (.str a), some (.str b), some (.str " Aabz"), y3] ∧ H' = H ∧ a.cps.toList.take i = b.cps.toList.take i) ⟨none, rfl, rfl, rfl⟩ (fun i σ' H' hi hP => ?_) (fun σ' H' hP => ?_)
    · obtain ⟨y3, rfl, rfl, ht⟩ := hP
      have ia : i < a.cps.toList.length := by omega
      have ib : i < b.cps.toList.length := by omega
      have ga : a.cps.toList[i]? = some a.cps.toList[i] := List.getElem?_eq_getElem ia
      have gb : b.cps.toList[i]? = some b.cps.toList[i] := List.getElem?_eq_getElem ib
      have ma := ha.2 _ (List.getElem_mem ia)
      have mb := hb.2 _ (List.getElem_mem ib)
      generalize a.cps.toList[i] = x at ga ma
      generalize b.cps.toList[i] = y at gb mb
      have xa : atI a.cps.toList (0 + (i : Int)) = some x := by rw [Int.zero_add]; exact atI_nat ga
      have xb : atI b.cps.toList (0 + (i : Int)) = some y := by rw [Int.zero_add]; exact atI_nat gb
      refine ⟨_, rfl, _, rfl, a, _, x, rfl, rfl, sa, xa, _, rfl, _, rfl, b, _, y, rfl, rfl, sb, xb, rfl, _, rfl, ite2 (fun e => ?_) (fun e => ?_)⟩
      · rw [sign_ne] at e
        have n : x ≠ y := fun q => by rw [decide_eq_true q] at e; cases e
        refine ⟨_, rfl, ⟨_, rfl⟩, _, rfl, _, rfl, a, _, x, rfl, rfl, sa, xa, _, _, _, _, rfl, rfl, rank_occ x ma, _, rfl, ⟨_, rfl⟩, _, rfl, _, rfl, b, _, y, rfl, rfl, sb, xb, _, _, _, _, rfl, rfl, rank_occ y mb, _, _, rfl, rfl, ?_⟩
        have e2 : ltS a b = decide ((rank5 x : Int) < (rank5 y : Int)) := (ltCps_at i _ _ x y ht ga gb n).trans (rank_lt x ma y mb).symm
        rw [e2] at q
        exact q
      · rw [sign_ne] at e
        have n : x = y := by
          cases h : decide (x = y) with
          | true => exact of_decide_eq_true h
          | false => rw [h] at e; exact absurd rfl e
        subst n
        exact ⟨_, rfl, rfl, take_snoc2 ht ga gb⟩
    · obtain ⟨y3, rfl, rfl, ht⟩ := hP
      refine ⟨_, rfl, a, rfl, sa, _, rfl, b, rfl, sb, _, _, rfl, rfl, ?_⟩
      have e : ltS a b = decide ((a.length : Int) < (b.length : Int)) := by
        unfold ltS
        rw [ltCps_end, la, lb]
        · exact decide_eq_decide.mpr (by omega)
        · rw [la, lb]
          exact ht
      rw [e] at q
      exact q
end
end Kl

set_option maxRecDepth 100000
set_option maxHeartbeats 4000000
namespace Mx
open PySem PySem.Spec PyProof.Rows L2 Gx
/-! ### rows that rise strictly, and one more word put in -/
def Ris (l : List Str) : Prop := l.Pairwise fun a b => ltS a b = true
theorem ltS_iff (a b : Str) : ltS a b = true ↔ a.cps.toList < b.cps.toList := by
  unfold ltS
  rw [ltCps_eq, decide_eq_true_eq]
theorem ltS_trans {a b c : Str} (h1 : ltS a b = true) (h2 : ltS b c = true) : ltS a c = true :=
  (ltS_iff a c).mpr (List.lt_trans ((ltS_iff a b).mp h1) ((ltS_iff b c).mp h2))
theorem ltS_irrefl (a : Str) : ltS a a = false := (leS_iff a a).mp (leS_refl a)
theorem ltS_of_not {a b : Str} (h : ltS a b = false) (n : a ≠ b) : ltS b a = true := by
  cases e : ltS b a with
  | true => rfl
  | false => exact absurd (leS_anti ((leS_iff a b).mpr e) ((leS_iff b a).mpr h)) n
theorem ltS_asym {a b : Str} (h : ltS a b = true) : ltS b a = false := by
  cases e : ltS b a with
  | false => rfl
  | true => rw [← ltS_trans h e, ltS_irrefl a]
theorem ris_ins {l : List Str} {k : Nat} {w : Str} (h : Ris l) (h1 : ∀ x ∈ l.take k, ltS x w = true) (h2 : ∀ x, l[k]? = some x → ltS x w = false) (n : w ∉ l) : Ris (l.take k ++ [w] ++ l.drop k) := by
  unfold Ris at h ⊢
  have hs : (l.take k ++ l.drop k).Pairwise fun a b => ltS a b = true := by rw [List.take_append_drop]; exact h
  obtain ⟨ha, hb, hc⟩ := List.pairwise_append.mp hs
  have hw : ∀ y ∈ l.drop k, ltS w y = true := by
    intro y hy
    cases e : l.drop k with
    | nil => rw [e] at hy; cases hy
    | cons z r =>
      have g : l[k]? = some z := by
        have := congrArg (fun m => m[0]?) e
        simpa using this
      have zl : z ∈ l := List.mem_of_getElem? g
      have wz : ltS w z = true := ltS_of_not (h2 z g) fun q => n (q ▸ zl)
      rw [e] at hy hb
      rcases List.mem_cons.mp hy with rfl | hy
      · exact wz
      · exact ltS_trans wz ((List.pairwise_cons.mp hb).1 y hy)
  refine List.pairwise_append.mpr ⟨List.pairwise_append.mpr ⟨ha, List.pairwise_singleton _ _, fun x hx y hy => ?_⟩, hb, fun x hx y hy => ?_⟩
  · rw [List.mem_singleton.mp hy]
    exact h1 x hx
  · rcases List.mem_append.mp hx with hx | hx
    · exact hc x hx y hy
    · rw [List.mem_singleton.mp hx]
      exact hw y hy
/-- places in a row that rises: the order of the words -/
theorem ris_place {l : List Str} (h : Ris l) {i j : Nat} {a b : Str} (ha : l[i]? = some a) (hb : l[j]? = some b) : decide (i ≤ j) = !ltS b a := by
  have key : ∀ {i j : Nat} {a b : Str}, l[i]? = some a → l[j]? = some b → i < j → ltS a b = true := by
    intro i j a b ha hb hij
    obtain ⟨hi, rfl⟩ := List.getElem?_eq_some_iff.mp ha
    obtain ⟨hj, rfl⟩ := List.getElem?_eq_some_iff.mp hb
    exact List.pairwise_iff_getElem.mp h i j hi hj hij
  rcases Nat.lt_trichotomy i j with q | q | q
  · rw [ltS_asym (key ha hb q), decide_eq_true (Nat.le_of_lt q)]; rfl
  · subst q
    rw [ha] at hb
    cases hb
    rw [ltS_irrefl, decide_eq_true (Nat.le_refl _)]; rfl
  · rw [key hb ha q, decide_eq_false (Nat.not_le.mpr q)]; rfl
theorem ris_nodup {l : List Str} (h : Ris l) : l.Nodup := by
  unfold Ris at h
  exact h.imp fun {a b} e q => by rw [q, ltS_irrefl] at e; cases e
/-! ### slices, membership, the dict of places -/
theorem cut_take {xs : List V} {k : Nat} (h : k ≤ xs.length) : cutV xs none (some (k : Int)) = xs.take k := by
  unfold cutV HT.sIx
  simp only [List.drop_zero]
  have : ¬ ((k : Int) < 0) := by omega
  simp [this]
theorem cut_drop {xs : List V} {k : Nat} (h : k ≤ xs.length) : cutV xs (some (k : Int)) none = xs.drop k := by
  unfold cutV HT.sIx
  have : ¬ ((k : Int) < 0) := by omega
  simp [this]
  rw [Nat.min_eq_left h, List.take_of_length_le]
  rw [List.length_drop]
  omega
theorem flat_texts (l : List Str) : (l.map V.str).all flatV = true := by
  rw [List.all_map]
  exact List.all_eq_true.mpr fun _ _ => rfl
theorem inV_texts (w : Str) (l : List Str) : inV (.str w) (l.map V.str) = decide (w ∈ l) := by
  unfold inV
  rw [List.any_map, Bool.eq_iff_iff, List.any_eq_true, decide_eq_true_eq]
  constructor
  · rintro ⟨x, hx, e⟩
    have e' : (x == w) = true := e
    rw [← eq_of_beq e']
    exact hx
  · intro h
    exact ⟨w, h, show (w == w) = true from beq_self_eq_true w⟩
/-- pairs of words and their places, from n on -/
def plc : List Str → Nat → List (Key × V)
  | [], _ => []
  | z :: l, n => (Sum.inr z, .int (n : Nat)) :: plc l (n + 1)
theorem plc_snoc (z : Str) : ∀ (l : List Str) (n : Nat), plc (l ++ [z]) n = plc l n ++ [(Sum.inr z, .int ((n + l.length : Nat)))]
  | [], n => rfl
  | y :: l, n => by
    show _ :: plc (l ++ [z]) (n + 1) = _
    rw [plc_snoc z l (n + 1), List.length_cons, show n + 1 + l.length = n + (l.length + 1) by omega]
    rfl
theorem valV_merge_not {k : Key} : ∀ (more kvs : List (Key × V)), (∀ p ∈ more, p.1 ≠ k) → valV (mergeK kvs more) k = valV kvs k
  | [], _, _ => rfl
  | p :: more, kvs, h => by
    show valV (mergeK (putK kvs p.1 p.2) more) k = _
    rw [valV_merge_not more _ fun q hq => h q (List.mem_cons_of_mem _ hq), valV_put, if_neg fun e => h p (List.mem_cons_self ..) e.symm]
theorem plc_keys : ∀ (l : List Str) (n : Nat) (p : Key × V), p ∈ plc l n → ∃ z, z ∈ l ∧ p.1 = Sum.inr z
  | z :: l, n, p, h => by
    rcases List.mem_cons.mp (show p ∈ _ :: plc l (n + 1) from h) with rfl | h
    · exact ⟨z, List.mem_cons_self .., rfl⟩
    · obtain ⟨y, hy, e⟩ := plc_keys l (n + 1) p h
      exact ⟨y, List.mem_cons_of_mem _ hy, e⟩
theorem plc_at : ∀ (l : List Str) (n : Nat) (kvs : List (Key × V)) (i : Nat) (z : Str), l.Nodup → l[i]? = some z → valV (mergeK kvs (plc l n)) (Sum.inr z) = some (.int ((n + i : Nat)))
  | y :: l, n, kvs, 0, z, hn, h => by
    simp only [List.getElem?_cons_zero, Option.some.injEq] at h
    subst h
    show valV (mergeK (putK kvs (Sum.inr y) (.int (n : Nat))) (plc l (n + 1))) (Sum.inr y) = _
    rw [valV_merge_not, valV_put, if_pos rfl]
    · rfl
    · intro p hp e
      obtain ⟨z, hz, e2⟩ := plc_keys l (n + 1) p hp
      rw [e2] at e
      cases e
      exact (List.nodup_cons.mp hn).1 hz
  | y :: l, n, kvs, i + 1, z, hn, h => by
    rw [List.getElem?_cons_succ] at h
    show valV (mergeK (putK kvs (Sum.inr y) (.int (n : Nat))) (plc l (n + 1))) (Sum.inr z) = _
    rw [plc_at l (n + 1) _ i z (List.nodup_cons.mp hn).2 h, show n + 1 + i = n + (i + 1) by omega]
theorem sqL_same {K : PySem.W.Frag} {H H' : Hp} {a : Addr} {xs : List V} (e : Same H H') (h : SqL K H a xs) : SqL K H' a xs := by
  rcases h with (h | ⟨o, h⟩) | h
  · exact .inl (.inl (e _ _ h))
  · exact .inl (.inr ⟨o, e _ _ h⟩)
  · exact .inr h
end Mx

set_option maxRecDepth 100000
set_option maxHeartbeats 4000000
namespace Kl
open PySem PySem.Spec PyProof.Rows L2 Gx Mx
section
variable {P : Program} {w : World} {K : PySem.W.Frag} {mg : Str → Option Value} {base : Heap}
theorem sqT_samex {D p : Addr} {H H' : Hp} {xs ys : List V} (eD : H D = some (.lst ys)) (sx : SameX D H H') (h : SqT K H p xs) : SqT K H' p xs := by
  rcases h with (h | ⟨o, h⟩) | h
  · exact .inl (.inl (sx _ _ (fun e => by rw [e, eD] at h; cases h) h))
  · exact .inl (.inr ⟨o, sx _ _ (fun e => by rw [e, eD] at h; cases h) h⟩)
  · exact .inr h
theorem paired_imp {α β : Type} {F G : α → β → Prop} (h : ∀ a b, F a b → G a b) : ∀ {l : List α} {m : List β}, PySem.Paired F l m → PySem.Paired G l m
  | _, _, .nil => .nil
  | _, _, .cons a r => .cons (h _ _ a) (paired_imp h r)
/-! ### the law's own places of words -/
def spPlaces (K : PySem.W.Frag) : Sp := fun vs H Q _ => ∃ (a : Addr) (ws : List Str), vs = [.ref a] ∧ SqL K H a (ws.map V.str) ∧ ws.length ≤ 3 ∧ (∀ z ∈ ws, WordOk z) ∧
  ∀ (p : Addr) (H' : Hp) (L : List Str) (kvs : List (Key × V)), Same H H' → H' p = some (.dK kvs) → Ris L → (∀ z ∈ ws, z ∈ L) → (∀ (i : Nat) (z : Str), L[i]? = some z → valV kvs (Sum.inr z) = some (.int i)) → Q (.ref p) H'
theorem ok_places {f : Addr} {fd : FuncData} (F : Fun K "_law_places" "_law_places" s_law_places f fd) (T : Top K mg) : FnOk P w K mg base CX0 2 f fd ["_law_words"] (spPlaces K) := by
  have cl : Cal P w K mg base 1 "_law_is_less" ["_law_one", "_law_other"] spLess := T.d_law_is_less.cal fun f fd F => ok_less F T
  refine F.ok sc_law_places (fun vs H Q E h => ?_) (fun cdv A outer s H vs Q E hr h => ?_)
  · obtain ⟨a, ws, rfl, _⟩ := h
    rfl
  · obtain ⟨a, ws, rfl, hS, hlen, hws, q⟩ := h
    refine ⟨_, pss_cons (ps_set (i := 1) sc_law_places.nd rfl (.inl rfl) (pe_lst pa_nil))
      (pss_cons (ps_for PassesOwn.never rfl (pi_list (pv 0)) (pg_name (i := 2) sc_law_places.nd rfl (.inl rfl))
        (pss_cons (ps_set (i := 3) sc_law_places.nd rfl (.inl rfl) pe_int)
        (pss_cut (ps_while PassesOwn.never (PW.pt (pw_and (pt_cmpR op_lt (pv 3) (pe_callB call_len_seq (by rfl) T.b_len PySem.boot_len (pa_cons (pv 1) pa_nil)) (nomark _))
              (pw_and1 (pt_val (pe_cal cl hr (by rfl) (pa_cons (pe_ix ix_list (pv 1) (pv 3) (fun _ _ => rfl)) (pa_cons (pv 2) pa_nil)))))))
            (pss_one (ps_set (i := 3) sc_law_places.nd rfl (.inl rfl) (pe_op op_add (pv 3) pe_int))))
        (pss_one (ps_set (i := 1) sc_law_places.nd rfl (.inl rfl) (pe_ifExp (pt_cmpR op_notIn_seq (pv 2) (pv 1) (by rfl))
            (pe_op op_cat (pe_op op_cat (pe_slice sl_list (pv 1) po_none (po_some (pv 3))) (pe_lst (pa_cons (pv 2) pa_nil))) (pe_slice sl_list (pv 1) (po_some (pv 3)) po_none)) (pv 1)))))))
      (pss_one (ps_ret (pe_callTy (call_dictP rfl) (by rfl) T.b_dict (by decide +kernel) (pa_cons (pe_lc (own := [("_law_at", 3), ("_law_word_here", 2)]) (g := gTup K 2 (gCons (gName 3) (gCons (gName 2) gNil))) (tt := tYes) rfl sc_law_places.nd
            (pi_enum (by rfl) T.b_enumerate (pa_cons (pv 1) pa_nil))
            (blkOk_by (N := ["_law_words", "_law_row", "_law_word_here", "_law_at"]) (sc := defScope s_law_places) (by decide +kernel))
            (fun _ _ _ _ _ => pg_tup rfl (pgs_cons (pg_name (i := 3) sc_law_places.nd rfl (.inl rfl)) (pgs_cons (pg_name (i := 2) sc_law_places.nd rfl (.inl rfl)) pgs_nil))) (fun _ _ _ _ _ => pts_nil)
            (fun _ _ _ _ _ => pe_tup (pa_cons (pv 2) (pa_cons (pv 3) pa_nil)))) pa_nil))))), ?_⟩
    refine ⟨by show 0 ≤ sizeLine; decide, fun r nr => ?_⟩
    have smr := same_at nr (Same.refl H) (o := .lst [])
    have hr0 : upd H r (.lst []) r = some (.lst (([] : List Str).map V.str)) := upd_same
    generalize upd H r (.lst []) = H0 at smr hr0 ⊢
    refine ⟨_, rfl, _, rfl, ⟨_, sqL_same smr hS⟩, for_list (xs := ws.map V.str) (fun j σ' H' => ∃ (r : Addr) (L : List Str) (y2 y3 : Option V), σ' = [some (.ref a), some (.ref r), y2, y3] ∧ Same H H' ∧ H' r = some (.lst (L.map V.str)) ∧ Ris L ∧ (∀ z ∈ ws.take j, z ∈ L) ∧ (∀ z ∈ L, WordOk z) ∧ L.length ≤ j)
      ⟨r, [], none, none, rfl, smr, hr0, List.Pairwise.nil, (fun z hz => by cases hz), (fun z hz => by cases hz), Nat.le_refl _⟩ (fun j σ' H' _ hP => ?_) (fun j v σ' H' hv hP => ?_) (fun σ' H' hP => ?_)⟩
    · obtain ⟨r, L, y2, y3, rfl, sm, _⟩ := hP
      exact sqL_same sm hS
    · obtain ⟨r, L, y2, y3, rfl, sm, er, hR, hin, hok, hl⟩ := hP
      obtain ⟨z, hz, rfl⟩ : ∃ z, ws[j]? = some z ∧ V.str z = v := by
        rw [List.getElem?_map] at hv
        cases e : ws[j]? with
        | none => rw [e] at hv; cases hv
        | some z => rw [e] at hv; exact ⟨z, rfl, by cases hv; rfl⟩
      have hj : j < ws.length := (List.getElem?_eq_some_iff.mp hz).1
      have wz := hws z (List.mem_of_getElem? hz)
      have sr : SqL K H' r (L.map V.str) := .inl (.inl er)
      refine ⟨fun σ2 H2 => ∃ k : Nat, σ2 = [some (.ref a), some (.ref r), some (.str z), some (.int k)] ∧ H2 = H' ∧ k ≤ L.length ∧ (∀ x ∈ L.take k, ltS x z = true) ∧ ∀ x, L[k]? = some x → ltS x z = false, ?_, ?_⟩
      · refine ⟨fun m σ2 H2 => ∃ k : Nat, m = L.length - k ∧ σ2 = [some (.ref a), some (.ref r), some (.str z), some (.int k)] ∧ H2 = H' ∧ k ≤ L.length ∧ ∀ x ∈ L.take k, ltS x z = true, ⟨_, 0, rfl, rfl, rfl, Nat.zero_le _, fun x hx => by cases hx⟩, ?_⟩
        rintro m σ2 H2 ⟨k, rfl, rfl, rfl, hk, hlt⟩
        refine ⟨_, rfl, _, rfl, r, _, rfl, .inl sr, _, _, rfl, rfl, _, rfl, ?_⟩
        rw [List.length_map]
        cases hb : decide ((k : Int) < (L.length : Int)) with
        | false =>
          have hk2 : L.length ≤ k := by have := of_decide_eq_false hb; omega
          exact ⟨k, rfl, rfl, hk, hlt, fun x hx => by rw [List.getElem?_eq_none hk2] at hx; cases hx⟩
        | true =>
          have hk2 : k < L.length := by have := of_decide_eq_true hb; omega
          have gk : L[k]? = some L[k] := List.getElem?_eq_getElem hk2
          have mk := List.getElem_mem hk2
          generalize L[k] = x at gk mk
          refine ⟨_, rfl, _, rfl, r, _, _, .str x, rfl, rfl, sr, atI_nat (by rw [List.getElem?_map, gk]; rfl), _, rfl, x, z, rfl, hok x mk, wz, _, rfl, ?_⟩
          cases hx : ltS x z with
          | false => exact ⟨k, rfl, rfl, hk, hlt, fun y hy => by rw [gk] at hy; cases hy; exact hx⟩
          | true =>
            refine ⟨fun σ3 H3 => ∃ m', m' < L.length - k ∧ ∃ k2 : Nat, m' = L.length - k2 ∧ σ3 = [some (.ref a), some (.ref r), some (.str z), some (.int k2)] ∧ H3 = H2 ∧ k2 ≤ L.length ∧ ∀ x ∈ L.take k2, ltS x z = true, fun σ3 H3 h => h, ?_⟩
            refine ⟨_, rfl, _, _, rfl, rfl, L.length - (k + 1), by omega, k + 1, rfl, rfl, rfl, hk2, fun y hy => ?_⟩
            rw [take_snoc gk] at hy
            rcases List.mem_append.mp hy with hy | hy
            · exact hlt y hy
            · rw [List.mem_singleton.mp hy]
              exact hx
      · rintro σ2 H2 ⟨k, rfl, rfl, hk, hlt, hnl⟩
        refine ⟨_, rfl, _, rfl, r, _, rfl, .inl sr, rfl, flat_texts L, _, rfl, ?_⟩
        rw [inV_texts]
        have hkm : k ≤ (L.map V.str).length := by rw [List.length_map]; exact hk
        have lS : ∀ {n : Nat}, n ≤ 10 → n ≤ sizeLine := fun h => Nat.le_trans h (by decide)
        by_cases hm : z ∈ L
        · rw [decide_eq_true hm]
          refine ⟨_, rfl, r, L, _, _, rfl, sm, er, hR, fun y hy => ?_, hok, by omega⟩
          rw [take_snoc hz] at hy
          rcases List.mem_append.mp hy with hy | hy
          · exact hin y hy
          · rw [List.mem_singleton.mp hy]
            exact hm
        · rw [decide_eq_false hm]
          refine ⟨_, rfl, _, rfl, _, rfl, r, _, rfl, sr, fun p1 n1 => ?_⟩
          rw [cut_take hkm]
          have s1 := same_at n1 (Same.refl H2) (o := .lst ((L.map V.str).take k))
          have e1 : upd H2 p1 (.lst ((L.map V.str).take k)) p1 = some (.lst ((L.map V.str).take k)) := upd_same
          generalize upd H2 p1 (.lst ((L.map V.str).take k)) = G1 at s1 e1 ⊢
          refine ⟨_, rfl, by show 1 ≤ sizeLine; decide, fun p2 n2 => ?_⟩
          have s2 := same_at n2 (Same.refl G1) (o := .lst [.str z])
          have e2 : upd G1 p2 (.lst [.str z]) p2 = some (.lst [.str z]) := upd_same
          generalize upd G1 p2 (.lst [.str z]) = G2 at s2 e2 ⊢
          refine ⟨p1, p2, _, _, rfl, rfl, s2 _ _ e1, e2, lS ?_, fun p3 n3 => ?_⟩
          · rw [List.length_take, List.length_map]
            show _ + 1 ≤ 10
            omega
          have s3 := same_at n3 (Same.refl G2) (o := .lst ((L.map V.str).take k ++ [.str z]))
          have e3 : upd G2 p3 (.lst ((L.map V.str).take k ++ [.str z])) p3 = some (.lst ((L.map V.str).take k ++ [.str z])) := upd_same
          generalize upd G2 p3 (.lst ((L.map V.str).take k ++ [.str z])) = G3 at s3 e3 ⊢
          have s03 : Same H2 G3 := s1.trans (s2.trans s3)
          refine ⟨_, rfl, _, rfl, _, rfl, r, _, rfl, sqL_same s03 sr, fun p4 n4 => ?_⟩
          rw [cut_drop hkm]
          have s4 := same_at n4 (Same.refl G3) (o := .lst ((L.map V.str).drop k))
          have e4 : upd G3 p4 (.lst ((L.map V.str).drop k)) p4 = some (.lst ((L.map V.str).drop k)) := upd_same
          generalize upd G3 p4 (.lst ((L.map V.str).drop k)) = G4 at s4 e4 ⊢
          refine ⟨p3, p4, _, _, rfl, rfl, s4 _ _ e3, e4, lS ?_, fun p5 n5 => ?_⟩
          · rw [List.length_append, List.length_take, List.length_drop, List.length_map]
            show _ + 1 + _ ≤ 10
            omega
          have e5 : (L.map V.str).take k ++ [.str z] ++ (L.map V.str).drop k = (L.take k ++ [z] ++ L.drop k).map V.str := by
            rw [List.map_append, List.map_append, List.map_take, List.map_drop]; rfl
          rw [e5]
          refine ⟨p5, L.take k ++ [z] ++ L.drop k, _, _, rfl, same_new (sm.trans (s03.trans s4)) n5, upd_same, ris_ins hR hlt hnl hm, fun y hy => ?_, fun y hy => ?_, ?_⟩
          · rw [take_snoc hz] at hy
            rcases List.mem_append.mp hy with hy | hy
            · have hy' := hin y hy
              rw [← List.take_append_drop k L] at hy'
              rcases List.mem_append.mp hy' with h | h
              · exact List.mem_append_left _ (List.mem_append_left _ h)
              · exact List.mem_append_right _ h
            · exact List.mem_append_left _ (List.mem_append_right _ hy)
          · rcases List.mem_append.mp hy with h | h
            · rcases List.mem_append.mp h with h | h
              · exact hok y (List.mem_of_mem_take h)
              · rw [List.mem_singleton.mp h]
                exact wz
            · exact hok y (List.mem_of_mem_drop h)
          · rw [List.length_append, List.length_append, List.length_take, List.length_drop]
            show _ + 1 + _ ≤ _
            omega
    · obtain ⟨r, L, y2, y3, rfl, sm, er, hR, hin, hok, hl⟩ := hP
      rw [List.length_map] at hl hin
      rw [List.take_length] at hin
      have sr : SqL K H' r (L.map V.str) := .inl (.inl er)
      refine ⟨_, rfl, r, _, rfl, sr, fun D hD => ?_⟩
      refine lc_it (walk_enum (xs := L.map V.str)) (fun j H2 => ∃ ps : List Addr, H2 D = some (.lst (ps.map V.ref)) ∧ ps.length = j ∧ Paired (fun p (kv : Key × V) => SqT K H2 p [kV kv.1, kv.2]) ps (plc (L.take j) 0) ∧ Same H' H2) ⟨[], upd_same, rfl, .nil, same_at hD (Same.refl H')⟩ (fun j H2 _ hP => ?_) (fun j x H2 H3 hj hP hY => ?_) (fun H2 hP => ?_)
      · obtain ⟨ps, _, _, _, s2⟩ := hP
        exact sqL_same s2 sr
      · obtain ⟨ps, eD, el, hp, s2⟩ := hP
        obtain ⟨TT, x', y', rfl, nT, rfl, ex, ey⟩ := hY
        cases ex
        rw [List.length_map] at hj
        obtain ⟨z, hz, rfl⟩ : ∃ z, L[j]? = some z ∧ V.str z = y' := by
          have ey : (L.map V.str)[j]? = some y' := ey
          rw [List.getElem?_map, List.getElem?_eq_getElem hj] at ey
          exact ⟨_, List.getElem?_eq_getElem hj, by cases ey; rfl⟩
        have s3 := same_at nT (Same.refl H2) (o := .tup [.int (j : Nat), .str z])
        have e3 : upd H2 TT (.tup [.int (j : Nat), .str z]) TT = some (.tup [.int (j : Nat), .str z]) := upd_same
        generalize upd H2 TT (.tup [.int (j : Nat), .str z]) = H3 at s3 e3 ⊢
        refine ⟨TT, _, rfl, .inl (.inl e3), rfl, _, _, rfl, _, _, rfl, rfl, rfl, ?_⟩
        refine ⟨_, rfl, _, rfl, by show 2 ≤ sizeLine; decide, fun q nq => ?_⟩
        have nqD : q ≠ D := fun e => by rw [e, s3 _ _ eD] at nq; cases nq
        have s4 : Same H2 (upd H3 q (.tup [.str z, .int (j : Nat)])) := same_at (s3.free nq) s3
        refine ⟨ps.map V.ref, s4 _ _ eD, ?_, ps ++ [q], ?_, ?_, ?_, ?_⟩
        · rw [List.length_map]
          exact small_line (by omega)
        · rw [upd_same, List.map_append]
          rfl
        · rw [List.length_append, el]
          rfl
        · rw [take_snoc hz, plc_snoc]
          have el2 : 0 + (L.take j).length = j := by rw [List.length_take]; omega
          rw [el2]
          have sx : SameX D H2 (upd (upd H3 q (.tup [.str z, .int (j : Nat)])) D (.lst (ps.map V.ref ++ [.ref q]))) := (SameX.of s4).atd
          refine (paired_imp (fun p kv h => sqT_samex eD sx h) hp).snoc (.inl (.inl ?_))
          rw [upd_ne nqD, upd_same]
          rfl
        · exact same_at hD (s2.trans s4)
      · obtain ⟨ps, eD, el, hp, s2⟩ := hP
        rw [List.length_map] at hp
        rw [List.take_length] at hp
        refine ⟨D, ps, _, rfl, .inl (.inl eD), hp, fun p np => ?_⟩
        exact q p _ L _ (same_new (sm.trans s2) np) upd_same hR hin fun i z hz => by
          have := plc_at L 0 [] i z (ris_nodup hR) hz
          rw [Nat.zero_add] at this
          exact this
end
end Kl

set_option maxRecDepth 100000
set_option maxHeartbeats 4000000
namespace Kl
open PySem PySem.Spec PyProof.Rows L2 Gx Mx
section
variable {P : Program} {w : World} {K : PySem.W.Frag} {mg : Str → Option Value} {base : Heap}
/-! ### what is_sorted tells, or its error -/
/-- a value that repr shows, as long as nothing of H is changed -/
structure ShowsAs (K : PySem.W.Frag) (H : Hp) (v : V) (d : PyData) : Prop where
  dp : ∀ H', Same H H' → Dp K H' v d
  showable : d.showable = true
  noDict : d.hasDict = false
  depth : d.depth ≤ 60
  size : d.shown.length ≤ 1000
theorem call_reprK {X : Cx} (hk : X.K = K) (g : Gd X.A) (hu : X.A.units + 64 < cLine) : CallR X (.builtin "repr") (rRepr K) := by
  subst hk
  exact call_reprD g hu
def spTold (K : PySem.W.Frag) : Sp := fun vs H Q _ => ∃ (v m : V), vs = [v, m] ∧ IntArg K H m ∧
  (cntV m = false → ∃ d, ShowsAs K H m d ∧ ∀ H', Same H H' → Q (.str (("number " : Str) ++ d.shown)) H') ∧
  (cntV m = true → ∃ (M : Int) (b : Bool), m = .int M ∧ SortArg K H v M b ∧ ∀ H', Same H H' → Q (.bl b) H')
theorem ok_told {C fI f : Addr} {fd fdI : FuncData} (F : Fun K "_law_told" "_law_told" s_law_told f fd) (T : Top K mg) (TX : XT_InvalidNumber K mg C fI) (FX : Fun K "__init__" "InvalidNumber.__init__" s_InvalidNumber_init fI fdI) :
    FnG P w K mg base CX0 5 f fd ["_law_value", "_law_limit"] (spTold K) := by
  have cs : CalK P w K mg base 4 "is_sorted" ["value", "most"] 1 ["most"] (fun vs zs => vs ++ zs) (spSorted K C) := T.d_is_sorted.calK fun f fd F => ok_sorted F T TX FX
  refine okG F sc_law_told (fun vs H Q E h => ?_) (fun cdv A outer s H vs Q E hg hr h => ?_)
  · obtain ⟨v, m, rfl, _⟩ := h
    rfl
  · obtain ⟨v, m, rfl, hm, hE, hQ⟩ := h
    refine ⟨_, pss_one (ps_try_as (c := .ref C) (i := 2) (n := "e") rfl rfl sc_law_told.nd rfl rfl ⟨by rfl, by decide, .inl TX.gC⟩ takes_none5
      (fun W pn xe tk hp => pss_one (ps_ret (pe_calK cs hg hr (by rfl) (fun σ => passAt tk σ) (pa_cons (pv 0) pa_nil) (pk_cons (pv 1) pk_nil))))
      (fun a oe cls d pn hz hf => pss_one (ps_ret (pe_op op_add_str pe_str (pe_callB (call_reprK (K := K) (by exact rfl) (by exact hg) (by exact hr.units)) (by rfl) T.b_repr (by decide +kernel) (pa_cons (pe_byX TX hz hf (pv 2)) pa_nil)))))), ?_⟩
    refine ⟨_, rfl, _, rfl, rfl, rfl, v, m, rfl, hm, fun hc d hd => ?_, fun hc => ?_⟩
    · obtain ⟨dm, sh, q⟩ := hE hc
      refine ⟨true, TX.te, fun _ a na => ?_, fun h => by cases h⟩
      have sm := same_at hd (Same.refl H) (o := .xd [("value", m)])
      refine ⟨_, rfl, rfl, rfl, d, m, rfl, upd_same, m, dm, rfl, sh.dp _ sm, sh.showable, sh.noDict, sh.depth, Nat.le_trans sh.size (by decide), _, _, rfl, rfl, ?_, ?_⟩
      · exact Nat.le_trans (Nat.add_le_add (show ("number " : Str).length ≤ 7 by decide +kernel) sh.size) (by decide)
      · exact q _ sm
    · obtain ⟨M, b, rfl, hs, q⟩ := hQ hc
      exact ⟨M, b, rfl, hs, q⟩
end
end Kl

set_option maxRecDepth 100000
set_option maxHeartbeats 4000000
namespace Kl
open PySem PySem.Spec PyProof.Rows L2 Gx Mx
section
variable {P : Program} {w : World} {K : PySem.W.Frag} {mg : Str → Option Value} {base : Heap}
/-! ### all tuples of up to four words -/
/-- the values are tuples of words of ws, n words each at most -/
def RowsAt (K : PySem.W.Frag) (H : Hp) (ws : List Str) (n : Nat) (l : List V) : Prop := ∀ v ∈ l, ∃ (p : Addr) (zs : List Str), v = .ref p ∧ SqT K H p (zs.map V.str) ∧ (∀ z ∈ zs, z ∈ ws) ∧ zs.length ≤ n
/-- the tuples of H stand in H' -/
def Tst (K : PySem.W.Frag) (H H' : Hp) : Prop := ∀ p xs, SqT K H p xs → SqT K H' p xs
theorem Tst.refl (H : Hp) : Tst K H H := fun _ _ h => h
theorem Tst.trans {H H' H'' : Hp} (a : Tst K H H') (b : Tst K H' H'') : Tst K H H'' := fun p xs h => b p xs (a p xs h)
theorem tst_same {H H' : Hp} (s : Same H H') : Tst K H H' := fun _ _ h => sqT_same s h
theorem tst_lst {H : Hp} {p : Addr} {xs : List V} {o : HO} (e : H p = some (.lst xs)) : Tst K H (upd H p o) := fun _ _ h => sqT_samex e ((SameX.refl p H).atd) h
theorem RowsAt.tst {H H' : Hp} {ws : List Str} {n : Nat} {l : List V} (h : RowsAt K H ws n l) (t : Tst K H H') : RowsAt K H' ws n l := fun v hv => by
  obtain ⟨p, zs, a, b, c⟩ := h v hv
  exact ⟨p, zs, a, t _ _ b, c⟩
theorem RowsAt.mono {H : Hp} {ws : List Str} {n m : Nat} {l : List V} (h : RowsAt K H ws n l) (hm : n ≤ m) : RowsAt K H ws m l := fun v hv => by
  obtain ⟨p, zs, a, b, c, d⟩ := h v hv
  exact ⟨p, zs, a, b, c, Nat.le_trans d hm⟩
theorem RowsAt.app {H : Hp} {ws : List Str} {n : Nat} {l m : List V} (h : RowsAt K H ws n l) (h' : RowsAt K H ws n m) : RowsAt K H ws n (l ++ m) := fun v hv => by
  rcases List.mem_append.mp hv with hv | hv
  · exact h v hv
  · exact h' v hv
theorem RowsAt.one {H : Hp} {ws : List Str} {n : Nat} {p : Addr} {zs : List Str} (h : SqT K H p (zs.map V.str)) (h1 : ∀ z ∈ zs, z ∈ ws) (h2 : zs.length ≤ n) : RowsAt K H ws n [.ref p] := fun v hv => by
  rw [List.mem_singleton.mp hv]
  exact ⟨p, zs, rfl, h, h1, h2⟩
theorem op_catAK {X : Cx} (hk : X.K = K) : OpR X (binaryOp .Add) (rCatA K) := by
  subst hk
  exact op_catA
def spTuples (K : PySem.W.Frag) : Sp := fun vs H Q _ => ∃ (a : Addr) (ws : List Str), vs = [.ref a] ∧ SqL K H a (ws.map V.str) ∧ ws.length ≤ 3 ∧
  ∀ (p : Addr) (H' : Hp) (l : List V), Same H H' → H' p = some (.lst l) → l.length ≤ 1000 → RowsAt K H' ws 4 l → Q (.ref p) H'
theorem ok_tuples {f : Addr} {fd : FuncData} (F : Fun K "_law_tuples" "_law_tuples" s_law_tuples f fd) (T : Top K mg) : FnOk P w K mg base CX0 1 f fd ["_law_words"] (spTuples K) := by
  refine F.ok sc_law_tuples (fun vs H Q E h => ?_) (fun cdv A outer s H vs Q E hr h => ?_)
  · obtain ⟨a, ws, rfl, _⟩ := h
    rfl
  · obtain ⟨a, ws, rfl, hS, hlen, q⟩ := h
    refine ⟨_, pss_cons (ps_par (i := 1) (j := 2) rfl sc_law_tuples.nd rfl rfl (by decide) rfl rfl (pa_cons (pe_lst (pa_cons (pe_tup pa_nil) pa_nil)) (pa_cons (pe_lst (pa_cons (pe_tup pa_nil) pa_nil)) pa_nil)) (by rfl))
      (pss_cons (ps_for PassesOwn.never rfl (pi_range1 (by rfl) T.b_range (pa_cons pe_int pa_nil)) (pg_name (i := 3) sc_law_tuples.nd rfl (.inl rfl))
        (pss_cons (ps_set (i := 4) sc_law_tuples.nd rfl (.inl rfl) (pe_lst pa_nil))
        (pss_cut (ps_for PassesOwn.never rfl (pi_list (pe_callTy call_list_of (by rfl) T.b_list (by decide +kernel) (pa_cons (pv 2) pa_nil))) (pg_name (i := 5) sc_law_tuples.nd rfl (.inr rfl))
            (pss_one (ps_expr (pe_bm PySem.F.plainAttrs_list PySem.F.slot_list_extend PySem.F.type_list_extend mt_extend (pv 4) (pa_cons
              (pe_lc (own := [("_law_word_here", 6)]) (g := gName 6) (tt := tYes) rfl sc_law_tuples.nd (pi_list (pv 0))
                (blkOk_by (N := ["_law_words", "_law_found", "_law_layer", "_law_turn", "_law_longer", "_law_row", "_law_word_here"]) (sc := defScope s_law_tuples) (by decide +kernel))
                (fun _ _ _ _ _ => pg_name (i := 6) sc_law_tuples.nd rfl (.inl rfl)) (fun _ _ _ _ _ => pts_nil) (fun _ _ _ _ _ => pe_op (op_catAK (K := K) (by exact rfl)) (pv 5) (pe_tup (pa_cons (pv 6) pa_nil)))) pa_nil)))))
        (pss_cons (ps_expr (pe_bm PySem.F.plainAttrs_list PySem.F.slot_list_extend PySem.F.type_list_extend mt_extend (pv 1) (pa_cons (pv 4) pa_nil)))
        (pss_one (ps_set (i := 2) sc_law_tuples.nd rfl (.inl rfl) (pe_callTy call_list_of (by rfl) T.b_list (by decide +kernel) (pa_cons (pv 4) pa_nil))))))))
      (pss_one (ps_ret (pv 1)))), ?_⟩
    -- found, layer = [()], [()]
    refine ⟨by show 0 ≤ sizeLine; decide, fun t1 nt1 => ⟨by show 1 ≤ sizeLine; decide, fun pf npf => ⟨by show 0 ≤ sizeLine; decide, fun t2 nt2 => ⟨by show 1 ≤ sizeLine; decide, fun pl npl => ?_⟩⟩⟩⟩
    refine ⟨_, _, rfl, ?_⟩
    obtain ⟨G0, hG0, sm0, ef0, el0, tf0, tl0, hpf, hpl, hne⟩ : ∃ G0 : Hp, G0 = upd (upd (upd (upd H t1 (.tup [])) pf (.lst [.ref t1])) t2 (.tup [])) pl (.lst [.ref t2]) ∧ Same H G0 ∧ G0 pf = some (.lst [.ref t1]) ∧ G0 pl = some (.lst [.ref t2]) ∧
        G0 t1 = some (.tup []) ∧ G0 t2 = some (.tup []) ∧ H pf = none ∧ H pl = none ∧ pf ≠ pl := by
      have s1 := same_at nt1 (Same.refl H) (o := .tup [])
      have s2 := same_at npf (Same.refl _) (o := .lst [.ref t1])
      have s3 := same_at nt2 (Same.refl _) (o := .tup [])
      have s4 := same_at npl (Same.refl _) (o := .lst [.ref t2])
      refine ⟨_, rfl, s1.trans (s2.trans (s3.trans s4)), s4 _ _ (s3 _ _ upd_same), upd_same, s4 _ _ (s3 _ _ (s2 _ _ upd_same)), s4 _ _ upd_same, s1.free npf, s1.free (s2.free (s3.free npl)), ne_of_none (s3 pf _ (upd_same (o := .lst [.ref t1]))) npl⟩
    rw [← hG0]
    clear hG0 nt1 npf nt2 npl
    refine ⟨_, rfl, by decide, by decide, ?_⟩
    refine for_range (lo := 0) (fun i σ' H' => ∃ (pf pl : Addr) (Fl Lr : List V) (y3 y4 y5 y6 : Option V), σ' = [some (.ref a), some (.ref pf), some (.ref pl), y3, y4, y5, y6] ∧ Same H H' ∧ H pf = none ∧ H pl = none ∧ pf ≠ pl ∧ H' pf = some (.lst Fl) ∧ H' pl = some (.lst Lr) ∧
      RowsAt K H' ws i Fl ∧ RowsAt K H' ws i Lr ∧ Lr.length ≤ 3 ^ i ∧ Fl.length ≤ 3 ^ (i + 1)) ⟨pf, pl, _, _, _, _, _, _, rfl, sm0, hpf, hpl, hne, ef0, el0, RowsAt.one (zs := []) (.inl (.inl tf0)) (fun z hz => by cases hz) (Nat.le_refl _), RowsAt.one (zs := []) (.inl (.inl tl0)) (fun z hz => by cases hz) (Nat.le_refl _), Nat.le_refl _, by show 1 ≤ 3; decide⟩ (fun i σ' H' hi hP => ?_) (fun σ' H' hP => ?_)
    · clear sm0 ef0 el0 tf0 tl0 hpf hpl hne
      obtain ⟨pf, pl, Fl, Lr, y3, y4, y5, y6, rfl, sm, hpf, hpl, hne, ef, el, rF, rL, lL, lF⟩ := hP
      have hi4 : i < 4 := by have : (4 : Int).toNat = 4 := rfl; omega
      have h3i : 3 ^ i ≤ 27 := Nat.le_trans (Nat.pow_le_pow_right (by decide) (show i ≤ 3 by omega)) (by decide)
      have h3s : 3 ^ (i + 1) = 3 * 3 ^ i := by rw [Nat.pow_succ, Nat.mul_comm]
      have h3t : 3 ^ (i + 1 + 1) = 3 * 3 ^ (i + 1) := by rw [Nat.pow_succ (n := 3) (m := i + 1), Nat.mul_comm]
      -- longer = []
      refine ⟨by show 0 ≤ sizeLine; decide, fun pn npn => ?_⟩
      have hpn : H pn = none := sm.free npn
      have s1 := same_at npn (Same.refl H') (o := .lst [])
      have en1 : upd H' pn (.lst []) pn = some (.lst []) := upd_same
      have nfn : pf ≠ pn := ne_of_none ef npn
      generalize upd H' pn (.lst []) = H1 at s1 en1 ⊢
      refine ⟨fun σ2 H2 => ∃ (y5 y6 : Option V) (Gl : List V), σ2 = [some (.ref a), some (.ref pf), some (.ref pl), some (.int (0 + (i : Int))), some (.ref pn), y5, y6] ∧ Same H H2 ∧ H2 pf = some (.lst Fl) ∧ H2 pn = some (.lst Gl) ∧ Gl.length ≤ 3 * Lr.length ∧ RowsAt K H2 ws (i + 1) Gl ∧ Tst K H' H2, ?_, ?_⟩
      · refine ⟨_, rfl, pl, _, rfl, .inl (.inl (.inl (s1 _ _ el))), fun pc npc => ?_⟩
        have s2 := same_at npc (Same.refl H1) (o := .lst Lr)
        have ec2 : upd H1 pc (.lst Lr) pc = some (.lst Lr) := upd_same
        have nnc : pn ≠ pc := ne_of_none en1 npc
        generalize upd H1 pc (.lst Lr) = H2 at s2 ec2 ⊢
        refine ⟨_, rfl, ⟨_, .inl (.inl ec2)⟩, for_list (xs := Lr) (fun j σ3 H3 => ∃ (y5 y6 : Option V) (Gl : List V), σ3 = [some (.ref a), some (.ref pf), some (.ref pl), some (.int (0 + (i : Int))), some (.ref pn), y5, y6] ∧ Same H H3 ∧ H3 pf = some (.lst Fl) ∧ H3 pn = some (.lst Gl) ∧ H3 pc = some (.lst Lr) ∧ Gl.length ≤ 3 * j ∧ RowsAt K H3 ws (i + 1) Gl ∧ Tst K H' H3)
          ⟨_, _, [], rfl, sm.trans (s1.trans s2), s2 _ _ (s1 _ _ ef), s2 _ _ en1, ec2, Nat.le_refl _, (fun v hv => by cases hv), tst_same (s1.trans s2)⟩ (fun j σ3 H3 _ hP => ?_) (fun j v σ3 H3 hv hP => ?_) (fun σ3 H3 hP => ?_)⟩
        · obtain ⟨_, _, _, _, _, _, _, ec, _⟩ := hP
          exact .inl (.inl ec)
        · obtain ⟨y5, y6, Gl, rfl, sm3, ef3, en3, ec3, lG, rG, ts3⟩ := hP
          obtain ⟨p, zs, rfl, hp, hz, hl⟩ := rL v (List.mem_of_getElem? hv)
          have hjL := (List.getElem?_eq_some_iff.mp hv).1
          have hp3 := ts3 _ _ hp
          refine ⟨_, rfl, .inl ⟨rfl, _, .inl (.inl en3)⟩, ?_⟩
          refine ⟨_, rfl, _, rfl, ⟨_, sqL_same sm3 hS⟩, fun D hD => ?_⟩
          refine lc_list (xs := ws.map V.str) (fun k H4 => ∃ acc : List V, H4 D = some (.lst acc) ∧ acc.length = k ∧ RowsAt K H4 ws (i + 1) acc ∧ Same H3 H4) ⟨[], upd_same, rfl, (fun v hv => by cases hv), same_at hD (Same.refl H3)⟩ (fun k H4 _ hP => ?_) (fun k v H4 hk hP => ?_) (fun H4 hP => ?_)
          · obtain ⟨_, _, _, _, s4⟩ := hP
            exact sqL_same (sm3.trans s4) hS
          · obtain ⟨acc, eD, lA, rA, s4⟩ := hP
            obtain ⟨z, hzw, rfl⟩ : ∃ z, z ∈ ws ∧ V.str z = v := List.mem_map.mp (List.mem_of_getElem? hk)
            have hkw : k < 3 := by
              have := (List.getElem?_eq_some_iff.mp hk).1
              rw [List.length_map] at this
              omega
            have step : ∀ (q : Addr) (ys : List Str) (H5 : Hp), Same H4 H5 → SqT K H5 q (ys.map V.str) → (∀ z ∈ ys, z ∈ ws) → ys.length ≤ i + 1 → ∃ acc, H5 D = some (.lst acc) ∧ acc.length < sizeLine ∧
                ∃ acc2 : List V, (upd H5 D (.lst (acc ++ [.ref q]))) D = some (.lst acc2) ∧ acc2.length = k + 1 ∧ RowsAt K (upd H5 D (.lst (acc ++ [.ref q]))) ws (i + 1) acc2 ∧ Same H3 (upd H5 D (.lst (acc ++ [.ref q]))) := by
              intro q ys H5 s5 hq hy1 hy2
              have eD5 := s5 _ _ eD
              refine ⟨acc, eD5, small_line (by omega), _, upd_same, by rw [List.length_append, lA]; rfl, ?_, same_at hD (s4.trans s5)⟩
              exact ((rA.tst (tst_same s5)).app (RowsAt.one hq hy1 hy2)).tst (tst_lst eD5)
            refine ⟨rfl, _, rfl, _, rfl, by show 1 ≤ sizeLine; decide, fun q nq => ?_⟩
            have s5 := same_at nq (Same.refl H4) (o := .tup [.str z])
            have eq5 : upd H4 q (.tup [.str z]) q = some (.tup [.str z]) := upd_same
            generalize upd H4 q (.tup [.str z]) = H5 at s5 eq5 ⊢
            have hp5 : SqT K H5 p (zs.map V.str) := sqT_same (s4.trans s5) hp3
            refine ⟨p, q, _, [.str z], rfl, rfl, hp5, .inl (.inl eq5), ?_, fun e0 => ?_, fun _ e1 => absurd e1 (by simp), fun _ _ r nr => ?_⟩
            · rw [List.length_map]
              exact Nat.le_trans (show zs.length + 1 ≤ 100 by omega) (by decide)
            · exact step q [z] H5 s5 (.inl (.inl eq5)) (fun y hy => by rw [List.mem_singleton.mp hy]; exact hzw) (by show 1 ≤ _; omega)
            · refine step r (zs ++ [z]) _ (s5.trans (same_at nr (Same.refl H5))) (.inl (.inl ?_)) (fun y hy => ?_) (by rw [List.length_append]; show _ + 1 ≤ _; omega)
              · rw [upd_same, List.map_append]
                rfl
              · rcases List.mem_append.mp hy with hy | hy
                · exact hz y hy
                · rw [List.mem_singleton.mp hy]; exact hzw
          · obtain ⟨acc, eD, lA, rA, s4⟩ := hP
            rw [List.length_map] at lA
            have en4 := s4 _ _ en3
            refine ⟨pn, D, Gl, acc, rfl, rfl, en4, eD, Nat.le_trans (show Gl.length + acc.length ≤ 1000 by omega) (by decide), ?_⟩
            have tt := tst_lst (K := K) (o := .lst (Gl ++ acc)) en4
            refine ⟨_, y6, Gl ++ acc, rfl, same_at hpn (sm3.trans s4), ?_, upd_same, ?_, ?_, ?_, (ts3.trans (tst_same s4)).trans tt⟩
            · rw [upd_ne nfn]; exact s4 _ _ ef3
            · rw [upd_ne nnc.symm]; exact s4 _ _ ec3
            · rw [List.length_append]; omega
            · exact ((rG.tst (tst_same s4)).app rA).tst tt
        · obtain ⟨y5, y6, Gl, rfl, sm3, ef3, en3, ec3, lG, rG, ts3⟩ := hP
          exact ⟨y5, y6, Gl, rfl, sm3, ef3, en3, lG, rG, ts3⟩
      · rintro σ2 H2 ⟨y5, y6, Gl, rfl, sm2, ef2, en2, lG, rG, ts2⟩
        refine ⟨_, rfl, .inl ⟨rfl, _, .inl (.inl ef2)⟩, _, rfl, pf, pn, Fl, Gl, rfl, rfl, ef2, en2, Nat.le_trans (show Fl.length + Gl.length ≤ 1000 by omega) (by decide), ?_⟩
        have tt := tst_lst (K := K) (o := .lst (Fl ++ Gl)) ef2
        have en3 : upd H2 pf (.lst (Fl ++ Gl)) pn = some (.lst Gl) := by rw [upd_ne nfn.symm]; exact en2
        have ef3 : upd H2 pf (.lst (Fl ++ Gl)) pf = some (.lst (Fl ++ Gl)) := upd_same
        have sm3 : Same H (upd H2 pf (.lst (Fl ++ Gl))) := same_at hpf sm2
        generalize upd H2 pf (.lst (Fl ++ Gl)) = H3 at tt en3 ef3 sm3 ⊢
        refine ⟨_, rfl, pn, _, rfl, .inl (.inl (.inl en3)), fun pl' npl' => ?_⟩
        have s4 := same_at npl' (Same.refl H3) (o := .lst Gl)
        have rG3 := (rG.tst tt).tst (tst_same s4)
        refine ⟨pf, pl', Fl ++ Gl, Gl, _, _, _, _, rfl, sm3.trans s4, hpf, sm3.free npl', ne_of_none ef3 npl', s4 _ _ ef3, upd_same, ?_, rG3, by omega, ?_⟩
        · exact (((rF.tst ts2).mono (Nat.le_succ _)).tst (tt.trans (tst_same s4))).app rG3
        · rw [List.length_append]; omega
    · obtain ⟨pf, pl, Fl, Lr, y3, y4, y5, y6, rfl, sm, hpf, hpl, hne, ef, el, rF, rL, lL, lF⟩ := hP
      exact ⟨_, rfl, q pf H' Fl sm ef (Nat.le_trans lF (by decide)) rF⟩
end
end Kl

set_option maxRecDepth 100000
set_option maxHeartbeats 4000000
namespace Gx
open PySem PySem.Spec PyProof.Rows L2 SeqAt
open AutoSeq1 (wpAny_loadPart')
/-! ### a dict is no tuple -/
theorem tup_eq_dict (l b : Addr) (items : Array Value) (n : Nat) (dd dd2 : Option Addr) (sl sl2 : Array (Option Value)) (d2 : Data) :
    Meets (Builtin.«tuple.__eq__» ⟨[.ref l, .ref b], []⟩) (fun _ R s => s.heap.get? l = some { cls := .type "tuple", dict := dd, data := .seq items n, slots := sl } ∧ s.heap.get? b = some { cls := .type "dict", dict := dd2, data := d2, slots := sl2 } ∧ R (.ok (.ret .notImplemented)) s) :=
  .of_wp fun prog w A R s h => by obtain ⟨hp, g, d, tk, os⟩ := s; obtain ⟨hl, hb, h⟩ := h; have f1 := F.sub_dict_tuple; wp_walk using wpAny_loadPart' hl, wpAny_loadPart' hb; exact ⟨_, rfl, h⟩
theorem dict_eq_tup {prog : Program} {w : World} {A : Around} {E : Value → Shared → Prop} {s : Shared} {Q : Value → Shared → Prop} {a b : Addr} (da : s.TypeIs (.ref a) "dict") (hb : s.TypeIs (.ref b) "tuple") (h : Q .notImplemented s) :
    wpAny (model prog w) A (call (.builtin "dict.__eq__") [.ref a, .ref b]) Q E s := by
  refine wpAny_call_entry PySem.F.slot_dict_eq da PySem.F.entry_dict_eq ?_ (PySem.F.args_dict_eq_2 _ _)
  show wpAny _ _ (Builtin.Dict.dictSlotArgs "__eq__" ⟨[.ref a, .ref b], []⟩ >>= _) _ _ s
  refine wpAny_bind ?_
  unfold Builtin.Dict.dictSlotArgs
  refine wpAny_bind (wpAny_notOrdered_dict da ?_)
  show wpAny _ _ (pure (Value.ref a, Value.ref b)) _ _ s
  refine wpAny_pure ?_
  refine wpAny_bind (wpAny_isInstance (T := "tuple") hb PySem.F.sub_tuple_dict ?_)
  simp only [Bool.not_false, if_true]
  exact wpAny_bind (wpAny_rule (wpAny_bind (wpAny_pure (wpAny_pure ⟨_, rfl, h⟩))))
section
variable {A : Around} {s : Shared}
theorem eqAt_tup_dict {l b : Addr} {items : Array Value} {ob : Obj} (hl : s.heap.IsTuple l items) (hb : s.heap.get? b = some ob) (hcb : ob.cls = .type "dict") (hu : A.units < cLine) : EqAt A s (.ref l) (.ref b) false := by
  obtain ⟨⟨cls, dd, data, sl⟩, ho, hc, n, hd⟩ := id hl
  simp only at hc hd
  subst hc hd
  obtain ⟨cls2, dd2, data2, sl2⟩ := ob
  simp only at hcb
  subst hcb
  have hne : l ≠ b := fun e => by
    subst e
    rw [ho] at hb
    exact absurd (congrArg Obj.cls (Option.some.inj hb)) (by simp)
  refine .of_refs hne fun prog w E Q h => ?_
  exact rc_eq_decline_or (k := false) ⟨_, ho, rfl⟩ ⟨_, hb, rfl⟩ (by decide) F.sub_dict_tuple F.slot_tuple_eq F.slot_dict_eq_refl
    (fun _ hq => call_meets F.slot_tuple_eq ⟨_, ho, rfl⟩ F.entry_tuple_eq (F.args_tuple_eq_2 _ _) (tup_eq_dict l b items n dd dd2 sl sl2 data2) ⟨ho, hb, hq⟩)
    (fun _ hq => dict_eq_tup ⟨_, hb, rfl⟩ ⟨_, ho, rfl⟩ hq)
    (fun _ hq => wpAny_isSame_ref_other' hne ho hb (by simp) hq) (.inr hu) h
end
section
variable {X : Cx}
/-- x in a list, data that are not deep -/
def rInF (K : PySem.W.Frag) : R2 := fun x y H Q => ∃ d ds, Dp K H x d ∧ Dp K H y (.list ds) ∧ d.canLay0 = true ∧ PyData.canLayAll0 ds = true ∧ d.depth ≤ 10 ∧ Q (.bl (ds.any fun z => PyData.eqv z d)) H
theorem op_inF (hu : X.A.units + 64 < cLine) : OpR X (compareOp .In) (rInF X.K) := by
  intro pins s σ H x y v u Q I rx ry h
  obtain ⟨d, ds, hd, he, sd, se, dp, q⟩ := h
  obtain ⟨as, r1⟩ := Dp.reads I d x v hd rx
  obtain ⟨bs, r2⟩ := Dp.reads I (.list ds) y u he ry
  exact SeqAt.in_list_reads r2 r1 se sd (by omega) ⟨.bl _, H, I, rfl, q⟩
/-- a dict in a list of tuples: it is not in it -/
def rInDict (K : PySem.W.Frag) : R2 := fun x y H Q => ∃ (a l : Addr) (kvs : List (Key × V)) (ps : List Addr), x = .ref a ∧ H a = some (.dK kvs) ∧ y = .ref l ∧ SqL K H l (ps.map V.ref) ∧ (∀ p ∈ ps, ∃ xs, SqT K H p xs) ∧ Q (.bl false) H
theorem op_inDict (hu : X.A.units + 64 < cLine) : OpR X (compareOp .In) (rInDict X.K) := by
  intro pins s σ H x y v u Q I rx ry h
  obtain ⟨a, l, kvs, ps, rfl, ea, rfl, hl, hp, q⟩ := h
  cases rx
  cases ry
  obtain ⟨its, rv, pl, hz⟩ := I.list hl
  have ei := refs_at rv
  subst ei
  obtain ⟨_, _, vs, _, hd⟩ := dk_of I.hok ea
  obtain ⟨ob, hb, hD⟩ := Heap.dictOf_iff.mp hd
  have hcb : ob.cls = .type "dict" := by
    obtain ⟨es, ep, ex, _⟩ := hD
    exact ex.1
  refine SeqAt.in_listAt (fun _ => false) pl.isList (fun y hy => ?_) ⟨.bl false, H, I, ?_, q⟩
  · rw [List.mem_toArray] at hy
    obtain ⟨p, hpm, rfl⟩ := List.mem_map.mp hy
    obtain ⟨xs, hx⟩ := hp p hpm
    obtain ⟨its2, _, ht, _⟩ := I.tuple hx
    exact eqAt_tup_dict ht hb hcb (by show X.A.units + 1 < cLine; omega)
  · show Value.bool _ = Value.bool false
    rw [Array.any_eq_false' |>.mpr (fun _ _ => by simp)]
end
end Gx

set_option maxRecDepth 100000
set_option maxHeartbeats 4000000
namespace Kl
open PySem PySem.Spec PyProof.Rows L2 Gx Mx
section
variable {K : PySem.W.Frag}
/-! ### data stay -/
mutual
theorem dp_same {H H' : Hp} (s : Same H H') : ∀ (d : PyData) (v : V), Dp K H v d → Dp K H' v d
  | .none, _, h => by cases h; exact .non
  | .bool _, _, h => by cases h; exact .bl _
  | .int _, _, h => by cases h; exact .int _
  | .str _, _, h => by cases h; exact .str _
  | .list ds, _, h => by
    cases h with
    | lst e r => exact .lst (sqL_same s e) (dpAll_same s ds _ r)
  | .tuple ds, _, h => by
    cases h with
    | tup e r => exact .tup (sqT_same s e) (dpAll_same s ds _ r)
  | .dict _, _, h => by cases h
theorem dpAll_same {H H' : Hp} (s : Same H H') : ∀ (ds : List PyData) (vs : List V), DpAll K H vs ds → DpAll K H' vs ds
  | [], _, h => by cases h; exact .nil
  | d :: ds, _, h => by
    cases h with
    | cons a r => exact .cons (dp_same s d _ a) (dpAll_same s ds _ r)
end
theorem sortArg_same {H H' : Hp} (s : Same H H') {v : V} {M : Int} {b : Bool} (h : SortArg K H v M b) : SortArg K H' v M b := by
  rcases h with ⟨a, e⟩ | ⟨p, xs, e, h1, h2, h3, h4, h5⟩
  · exact .inl ⟨a.same s, e⟩
  · exact .inr ⟨p, xs, e, sqT_same s h1, tyx_same s h2, h3, fun x hx => (h4 x hx).same s, h5⟩
theorem tyx_sqT {H : Hp} {p : Addr} {xs : List V} (h : SqT K H p xs) : TyX K H (.ref p) (.type "tuple") := by
  rcases h with (h | ⟨o, h⟩) | ⟨o, its, n, h, c, _⟩
  · exact .base (.tup h)
  · exact .fTuple h
  · exact .kTuple h c
/-! ### data of whole numbers -/
def iD (ns : List Int) : List PyData := ns.map PyData.int
theorem eqv_ints : ∀ xs ys : List Int, PyData.eqvAll (iD xs) (iD ys) = decide (xs = ys)
  | [], [] => by simp [iD, PyData.eqvAll]
  | [], y :: ys => by simp [iD, PyData.eqvAll]
  | x :: xs, [] => by simp [iD, PyData.eqvAll]
  | x :: xs, y :: ys => by
    have ih := eqv_ints xs ys
    unfold iD at ih ⊢
    rw [List.map_cons, List.map_cons, PyData.eqvAll, ih, PyData.eqv]
    by_cases h : x = y
    · subst h
      by_cases h2 : xs = ys
      · subst h2
        simp
      · rw [decide_eq_false h2, Bool.and_false, decide_eq_false fun q => h2 (List.cons.inj q).2]
    · rw [decide_eq_false fun q => h (List.cons.inj q).1, beq_eq_false_iff_ne.mpr h, Bool.false_and]
theorem dp_ints {H : Hp} : ∀ xs : List Int, DpAll K H (xs.map V.int) (iD xs)
  | [] => .nil
  | x :: xs => .cons (.int x) (dp_ints xs)
theorem canLay_ints : ∀ xs : List Int, PyData.canLayAll0 (iD xs) = true
  | [] => by simp [iD, PyData.canLayAll0]
  | x :: xs => by
    have ih := canLay_ints xs
    unfold iD at ih ⊢
    rw [List.map_cons, PyData.canLayAll0, ih, PyData.canLay0]
    rfl
theorem depth_ints : ∀ xs : List Int, PyData.depthAll (iD xs) ≤ 1
  | [] => by simp [iD, PyData.depthAll]
  | x :: xs => by
    have ih := depth_ints xs
    unfold iD at ih ⊢
    rw [List.map_cons, PyData.depthAll]
    simp only [PyData.depth]
    omega
theorem shaped_ints (xs : List Int) : SeqAt.shaped (.list (iD xs)) = true := by
  unfold SeqAt.shaped
  rw [Bool.and_eq_true]
  refine ⟨by simp only [PyData.canLay0]; exact canLay_ints xs, decide_eq_true ?_⟩
  have := depth_ints xs
  simp only [PyData.depth]
  omega
theorem eq_sorted_ints {l m : List Int} (h : m.Perm l) (hm : m.Pairwise (· ≤ ·)) : decide (l = m) = decide (l.Pairwise (· ≤ ·)) := by
  rw [decide_eq_decide]
  constructor
  · intro e
    rw [e]
    exact hm
  · intro hl
    exact List.Perm.eq_of_pairwise (fun _ _ _ _ h1 h2 => Int.le_antisymm h1 h2) hl hm h.symm
/-! ### the places of a row of words tell whether it is sorted -/
def spotsOf (L zs : List Str) : List Int := zs.map fun z => ((L.idxOf z : Nat) : Int)
theorem idx_at {L : List Str} {z : Str} (h : z ∈ L) : L[L.idxOf z]? = some z := by
  have hl := List.idxOf_lt_length_of_mem h
  rw [List.getElem?_eq_getElem hl, List.getElem_idxOf hl]
theorem spots_sorted {L : List Str} (hR : Ris L) {zs : List Str} (h : ∀ z ∈ zs, z ∈ L) : decide ((spotsOf L zs).Pairwise (· ≤ ·)) = sortedS zs := by
  rw [Bool.eq_iff_iff, decide_eq_true_eq, sortedS_iff]
  unfold spotsOf
  rw [List.pairwise_map]
  constructor
  · intro p
    refine p.imp_of_mem fun {a b} ha hb e => ?_
    have q := ris_place hR (idx_at (h a ha)) (idx_at (h b hb))
    rw [decide_eq_true (by omega : L.idxOf a ≤ L.idxOf b)] at q
    rw [leS_iff]
    show ltS b a = false
    cases e2 : ltS b a with
    | false => rfl
    | true => rw [e2] at q; cases q
  · intro p
    refine p.imp_of_mem fun {a b} ha hb e => ?_
    have q := ris_place hR (idx_at (h a ha)) (idx_at (h b hb))
    have e2 : ltS b a = false := (leS_iff a b).mp e
    rw [e2] at q
    have := of_decide_eq_true q
    omega
theorem all_names (zs : List Str) : (zs.map V.str).all nameV = zs.all nameB := by
  rw [List.all_map]
  rfl
theorem texts_back (zs : List Str) : (zs.map V.str).map textOf = zs := by
  rw [List.map_map]
  exact List.map_id zs
theorem filter_nil (zs : List Str) : decide (zs.filter (fun z => !nameB z) = []) = zs.all nameB := by
  rw [Bool.eq_iff_iff, decide_eq_true_eq, List.filter_eq_nil_iff, List.all_eq_true]
  constructor
  · intro h z hz
    have := h z hz
    simpa using this
  · intro h z hz
    simpa using h z hz
end
end Kl

set_option maxRecDepth 100000
set_option maxHeartbeats 4000000
namespace Kl
open PySem PySem.Spec PyProof.Rows L2 Gx Mx
section
variable {K : PySem.W.Frag}
/-! ### limits and values of the second half -/
theorem showsAs_same {H H' : Hp} (s : Same H H') {v : V} {d : PyData} (h : ShowsAs K H v d) : ShowsAs K H' v d :=
  ⟨fun H2 s2 => h.dp H2 (s.trans s2), h.showable, h.noDict, h.depth, h.size⟩
/-- a limit of the law: let, then three at least; or not let, then shown -/
structure LimOk (K : PySem.W.Frag) (H : Hp) (v : V) : Prop where
  arg : IntArg K H v
  good : cntV v = true → ∃ M, v = .int M ∧ 3 ≤ M
  bad : cntV v = false → ∃ d, ShowsAs K H v d ∧ (PyData.str (("number " : Str) ++ d.shown)).showable = true ∧ (PyData.str (("number " : Str) ++ d.shown)).shown.length ≤ sizeLine
theorem limOk_same {H H' : Hp} (s : Same H H') {v : V} (h : LimOk K H v) : LimOk K H' v :=
  ⟨h.arg.same s, h.good, fun e => by
    obtain ⟨d, a, b⟩ := h.bad e
    exact ⟨d, showsAs_same s a, b⟩⟩
/-- the limits that are data of no heap -/
theorem lim_int {H : Hp} {i : Int} (hc : cntV (.int i) = false) (h1 : (PyData.int i).showable = true) (h2 : (PyData.int i).shown.length ≤ 1000) (h3 : (PyData.str (("number " : Str) ++ (PyData.int i).shown)).showable = true)
    (h4 : (PyData.str (("number " : Str) ++ (PyData.int i).shown)).shown.length ≤ sizeLine) : LimOk K H (.int i) :=
  ⟨.inl ⟨i, rfl⟩, fun e => (by rw [hc] at e; cases e), fun _ => ⟨.int i, ⟨fun _ _ => .int i, h1, rfl, Nat.zero_le _, h2⟩, h3, h4⟩⟩
theorem lim_bl {H : Hp} (b : Bool) : LimOk K H (.bl b) :=
  ⟨.inr (.inl ⟨b, rfl⟩), fun e => (by cases e), fun _ => ⟨.bool b, ⟨fun _ _ => .bl b, rfl, rfl, Nat.zero_le _, by cases b <;> decide +kernel⟩, by cases b <;> decide +kernel, by cases b <;> decide +kernel⟩⟩
theorem lim_non {H : Hp} : LimOk K H .non :=
  ⟨.inr (.inr ⟨fun i e => (by cases e), _, .base .non, kit_ty (by decide +kernel)⟩), fun e => (by cases e), fun _ => ⟨.none, ⟨fun _ _ => .non, rfl, rfl, Nat.zero_le _, by decide +kernel⟩, by decide +kernel, by decide +kernel⟩⟩
theorem lim_str {H : Hp} : LimOk K H (.str "3") :=
  ⟨.inr (.inr ⟨fun i e => (by cases e), _, .base (.str _), kit_ty (by decide +kernel)⟩), fun e => (by cases e), fun _ => ⟨.str "3", ⟨fun _ _ => .str "3", by decide +kernel, rfl, Nat.zero_le _, by decide +kernel⟩, by decide +kernel, by decide +kernel⟩⟩
theorem lim_tup {H : Hp} {p : Addr} (e : H p = some (.tup [.int 3])) : LimOk K H (.ref p) :=
  ⟨.inr (.inr ⟨fun i e => (by cases e), _, .base (.tup e), kit_ty (by decide +kernel)⟩), fun e => (by cases e), fun _ => ⟨.tuple [.int 3], ⟨fun H' s => .tup (.inl (.inl (s _ _ e))) (.cons (.int 3) .nil), by decide +kernel, by decide +kernel, by decide +kernel, by decide +kernel⟩, by decide +kernel, by decide +kernel⟩⟩
theorem lim_let {H : Hp} {r : Int} (h0 : 0 ≤ r) (h1 : r < 10 ^ Int.toNat 59) : LimOk K H (.int (3 + r)) := by
  have e : (10 : Int) ^ Int.toNat 59 = 100000000000000000000000000000000000000000000000000000000000 := by decide +kernel
  rw [e] at h1
  have hc : cntV (.int (3 + r)) = true := by
    show ((decide (-TEN60 < 3 + r) && decide (3 + r < TEN60)) && decide (0 ≤ 3 + r)) = true
    rw [decide_eq_true (show -TEN60 < 3 + r by unfold TEN60; omega), decide_eq_true (show 3 + r < TEN60 by unfold TEN60; omega), decide_eq_true (show 0 ≤ 3 + r by omega)]
    rfl
  exact ⟨.inl ⟨_, rfl⟩, fun _ => ⟨_, rfl, by omega⟩, fun e => by rw [hc] at e; cases e⟩
theorem lim_m1 {H : Hp} : LimOk K H (.int (-1)) := lim_int (by decide +kernel) (by decide +kernel) (by decide +kernel) (by decide +kernel) (by decide +kernel)
theorem lim_60 {H : Hp} : LimOk K H (.int (10 ^ Int.toNat 60)) := lim_int (by decide +kernel) (by decide +kernel) (by decide +kernel) (by decide +kernel) (by decide +kernel)
theorem lim_59 {H : Hp} : LimOk K H (.int (-10 ^ Int.toNat 59)) := lim_int (by decide +kernel) (by decide +kernel) (by decide +kernel) (by decide +kernel) (by decide +kernel)
/-- the two tuples of names that are sorted -/
def GOOD : List PyData := [.tuple [], .tuple [.str "a", .str "b", .str "b"]]
/-- a value of the law: what is_sorted says of it, and whether it is one of the two -/
structure ValOk (K : PySem.W.Frag) (H : Hp) (v : V) (b : Bool) : Prop where
  arg : ∀ M : Int, 3 ≤ M → SortArg K H v M b
  mem : (∃ d, Dp K H v d ∧ d.canLay0 = true ∧ d.depth ≤ 10 ∧ (GOOD.any fun z => PyData.eqv z d) = b) ∨ (∃ a kvs, v = .ref a ∧ H a = some (.dK kvs) ∧ b = false)
theorem valOk_same {H H' : Hp} (s : Same H H') {v : V} {b : Bool} (h : ValOk K H v b) : ValOk K H' v b := by
  refine ⟨fun M hM => sortArg_same s (h.arg M hM), ?_⟩
  rcases h.mem with ⟨d, a, r⟩ | ⟨a, kvs, e, f, g⟩
  · exact .inl ⟨d, dp_same s d v a, r⟩
  · exact .inr ⟨a, kvs, e, s _ _ f, g⟩
theorem val_not {H : Hp} {v : V} {d : PyData} (hn : Not K H v "tuple") (hd : Dp K H v d) (h1 : d.canLay0 = true) (h2 : d.depth ≤ 10) (h3 : (GOOD.any fun z => PyData.eqv z d) = false) : ValOk K H v false :=
  ⟨fun M _ => .inl ⟨hn, rfl⟩, .inl ⟨d, hd, h1, h2, h3⟩⟩
theorem val_tup {H : Hp} {p : Addr} {xs : List V} {ds : List PyData} {b : Bool} (e : H p = some (.tup xs)) (hl : xs.length ≤ 3) (hx : ∀ x ∈ xs, NameArg K H x) (hd : DpAll K H xs ds) (hs : sortB xs = b) (h1 : (PyData.tuple ds).canLay0 = true) (h2 : (PyData.tuple ds).depth ≤ 10)
    (h3 : (GOOD.any fun z => PyData.eqv z (.tuple ds)) = b) : ValOk K H (.ref p) b := by
  refine ⟨fun M hM => .inr ⟨p, xs, rfl, .inl (.inl e), .base (.tup e), by omega, hx, ?_⟩, .inl ⟨.tuple ds, .tup (.inl (.inl e)) hd, h1, h2, h3⟩⟩
  rw [decide_eq_true (by omega : (xs.length : Int) ≤ M), Bool.true_and, hs]
theorem nameArg_str {H : Hp} (z : Str) (h : z.length ≤ sizeLine) : NameArg K H (.str z) := .inl ⟨z, rfl, h⟩
end
end Kl

set_option maxRecDepth 100000
set_option maxHeartbeats 4000000
namespace Kl
open PySem PySem.Spec PyProof.Rows L2 Gx Mx
section
variable {P : Program} {w : World} {K : PySem.W.Frag} {mg : Str → Option Value} {base : Heap}
/-! ### one cell of the law -/
def spRight : Sp := fun vs H Q _ => ∃ d : Addr, vs = [.ref d] ∧ DiceAt H d ∧ ∀ H', SameX d H H' → Q (.bl true) H'
theorem word_ok {z : Str} {n : Nat} (h : WordN n z) : PyData.strOk z = true := by
  show z.cps.all _ = true
  rw [Array.all_eq_true']
  intro c hc
  have h5 := h.2 c (Array.mem_toList_iff.mpr hc)
  have : ∀ c ∈ S5, c < 128 := by decide
  exact decide_eq_true (Nat.lt_trans (this c h5) (by decide))
theorem cnt_small {i : Nat} (h : i < 6) : cntV (.int (0 + (i : Int))) = true := by
  show ((decide (-TEN60 < 0 + (i : Int)) && decide (0 + (i : Int) < TEN60)) && decide (0 ≤ 0 + (i : Int))) = true
  rw [decide_eq_true (show -TEN60 < 0 + (i : Int) by unfold TEN60; omega), decide_eq_true (show 0 + (i : Int) < TEN60 by unfold TEN60; omega), decide_eq_true (show 0 ≤ 0 + (i : Int) by omega)]
  rfl
theorem bool_size (b : Bool) : (PyData.bool b).shown.length ≤ sizeLine := by
  cases b <;> decide +kernel
abbrev NR : List Str := ["_law_dice_here", "_law_words", "_law_places_here", "_law_row", "_law_spots", "_law_is_due", "_law_limit", "_law_is_let", "_law_value", "_law_due", "_law_turn", "_law_word_here"]
theorem ok_right {C fI f : Addr} {fd fdI : FuncData} (F : Fun K "_law_right" "_law_right" s_law_right f fd) (T : Top K mg) (TX : XT_InvalidNumber K mg C fI) (FX : Fun K "__init__" "InvalidNumber.__init__" s_InvalidNumber_init fI fdI) :
    FnG P w K mg base CX0 6 f fd ["_law_dice_here"] spRight := by
  have cr : Cal P w K mg base 5 "_law_roll" ["_law_dice_here", "_law_total"] spRoll := (T.d_law_roll.cal fun f fd F => ok_roll F T).mono (by decide)
  have cw : Cal P w K mg base 5 "_law_word" ["_law_dice_here"] spWord := (T.d_law_word.cal fun f fd F => ok_word F T).mono (by decide)
  have cp : Cal P w K mg base 5 "_law_places" ["_law_words"] (spPlaces K) := (T.d_law_places.cal fun f fd F => ok_places F T).mono (by decide)
  have ct : Cal P w K mg base 5 "_law_tuples" ["_law_words"] (spTuples K) := (T.d_law_tuples.cal fun f fd F => ok_tuples F T).mono (by decide)
  have cn : Cal P w K mg base 5 "_law_is_name" ["_law_word_here"] spLName := (T.d_law_is_name.cal fun f fd F => ok_lname F T).mono (by decide)
  have cl : CalG P w K mg base 5 "_law_told" ["_law_value", "_law_limit"] (spTold K) := T.d_law_told.calG fun f fd F => ok_told F T TX FX
  refine okG F sc_law_right (fun vs H Q E h => ?_) (fun cdv A outer s H vs Q E hg hr h => ?_)
  · obtain ⟨d, rfl, _⟩ := h
    rfl
  · obtain ⟨d, rfl, hd, q⟩ := h
    refine ⟨_, pss_cons (ps_setLc (i := 1) (own := [("_law_turn", 10)]) (g := gName 10) (tt := tYes) (by rfl) sc_law_right.nd rfl rfl (sw_true rfl rfl rfl (by decide +kernel)) (pi_range1 (by rfl) T.b_range (pa_cons pe_int pa_nil))
          (blkOk_by (N := NR) (sc := defScope s_law_right) (by decide +kernel)) (fun _ _ _ _ _ => pg_name (i := 10) sc_law_right.nd rfl (.inl rfl)) (fun _ _ _ _ _ => pts_nil) (fun _ _ _ _ _ => pe_cal cw hr (by rfl) (pa_cons (pv 0) pa_nil)))
      (pss_cons (ps_set (i := 2) sc_law_right.nd rfl (.inr rfl) (pe_cal cp hr (by rfl) (pa_cons (pv 1) pa_nil)))
      (pss_cut (ps_for PassesOwn.never rfl (pi_list (pe_cal ct hr (by rfl) (pa_cons (pv 1) pa_nil))) (pg_name (i := 3) sc_law_right.nd rfl (.inl rfl))
        (pss_cons (ps_setLc (i := 4) (own := [("_law_word_here", 11)]) (g := gName 11) (tt := tYes) (by rfl) sc_law_right.nd rfl rfl (sw_true rfl rfl rfl (by decide +kernel)) (pi_tup (pv 3))
            (blkOk_by (N := NR) (sc := defScope s_law_right) (by decide +kernel)) (fun _ _ _ _ _ => pg_name (i := 11) sc_law_right.nd rfl (.inl rfl)) (fun _ _ _ _ _ => pts_nil) (fun _ _ _ _ _ => pe_dget (Nat.lt_of_le_of_lt (Nat.add_le_add_left (by decide) _) hr.units) (pv 2) (pv 11) (fun _ _ => rfl)))
        (pss_cut (ps_set (i := 5) sc_law_right.nd rfl (.inl rfl) (pe_and (pe_cmpR (op_eqD hr.units) (pv 4) (pe_callB cr_sorted (by rfl) T.b_sorted (by decide +kernel) (pa_cons (pv 4) pa_nil)) (nomark _))
            (pe_one (pe_cmpR (op_eqD hr.units) (pe_lc (own := [("_law_word_here", 11)]) (g := gName 11) (tt := _) rfl sc_law_right.nd (pi_tup (pv 3))
              (blkOk_by (N := NR) (sc := defScope s_law_right) (by decide +kernel)) (fun _ _ _ _ _ => pg_name (i := 11) sc_law_right.nd rfl (.inl rfl)) (fun _ _ _ _ _ => pts_one (pt_not (pt_val (pe_cal cn hr (by rfl) (pa_cons (pv 11) pa_nil))))) (fun _ _ _ _ _ => pv 11)) (pe_lst pa_nil) (nomark _)))))
        (pss_one (ps_for PassesOwn.never rfl (pi_range1 (by rfl) T.b_range (pa_cons pe_int pa_nil)) (pg_name (i := 6) sc_law_right.nd rfl (.inl rfl))
          (pss_one (ps_if (pt_cmpR op_ne (pe_callB (call_reprD hg hr.units) (by rfl) T.b_repr (by decide +kernel) (pa_cons (pe_calG cl hg hr (by rfl) (pa_cons (pv 3) (pa_cons (pv 6) pa_nil))) pa_nil))
              (pe_callB (call_reprD hg hr.units) (by rfl) T.b_repr (by decide +kernel) (pa_cons (pe_and (pv 5) (pe_one (pe_cmpR op_le (pe_callB call_len_seq (by rfl) T.b_len PySem.boot_len (pa_cons (pv 3) pa_nil)) (pv 6) (nomark _)))) pa_nil)) (nomark _))
            (pss_one (ps_ret pe_bl)) pss_nil)))))))
      (pss_cons (ps_for PassesOwn.never rfl (pi_list (pe_lst (pa_cons (pe_un un_neg pe_int) (pa_cons pe_bl (pa_cons pe_bl (pa_cons pe_non (pa_cons pe_str (pa_cons (pe_tup (pa_cons pe_int pa_nil)) (pa_cons (pe_op op_pow pe_int pe_int)
            (pa_cons (pe_un un_neg (pe_op op_pow pe_int pe_int)) (pa_cons (pe_op op_add pe_int (pe_cal cr hr (by rfl) (pa_cons (pv 0) (pa_cons (pe_op op_pow pe_int pe_int) pa_nil)))) pa_nil))))))))))) (pg_name (i := 6) sc_law_right.nd rfl (.inl rfl))
        (pss_cut (ps_set (i := 7) sc_law_right.nd rfl (.inl rfl) (pe_and (pe_callB call_isi (by rfl) T.b_isinstance (by decide +kernel) (pa_cons (pv 6) (pa_cons (pe_bltn (v := .ty "int") (by rfl) T.b_int (by decide +kernel) rfl) pa_nil)))
            (pe_and (pe_not (pe_callB call_isi (by rfl) T.b_isinstance (by decide +kernel) (pa_cons (pv 6) (pa_cons (pe_bltn (v := .ty "bool") (by rfl) T.b_bool (by decide +kernel) rfl) pa_nil))))
              (pe_one (pe_chain op_le op_lt pe_int (pv 6) (pe_op op_pow pe_int pe_int))))))
        (pss_one (ps_for PassesOwn.never rfl (pi_list (pe_lst (pa_cons (pe_tup pa_nil) (pa_cons (pe_tup (pa_cons pe_str (pa_cons pe_str (pa_cons pe_str pa_nil)))) (pa_cons (pe_tup (pa_cons pe_str (pa_cons pe_str pa_nil)))
              (pa_cons pe_non (pa_cons (pe_lst (pa_cons pe_str pa_nil)) (pa_cons pe_str (pa_cons (pe_disp (pps_cons pe_str pe_str pps_nil) (by rfl) (by rfl) (fun z => by cases z) (by decide))
              (pa_cons (pe_tup (pa_cons pe_str (pa_cons pe_int pa_nil))) (pa_cons (pe_tup (pa_cons (pe_tup (pa_cons pe_str pa_nil)) pa_nil)) (pa_cons pe_int pa_nil)))))))))))) (pg_name (i := 8) sc_law_right.nd rfl (.inl rfl))
          (pss_cons (ps_set (i := 9) sc_law_right.nd rfl (.inl rfl) (pe_ifExp (pt_val (pv 7))
              (pe_cmpR ((op_inF hr.units).or (op_inDict hr.units)) (pv 8) (pe_lst (pa_cons (pe_tup pa_nil) (pa_cons (pe_tup (pa_cons pe_str (pa_cons pe_str (pa_cons pe_str pa_nil)))) pa_nil))) (by rfl))
              (pe_op op_add_str pe_str (pe_callB (call_reprD hg hr.units) (by rfl) T.b_repr (by decide +kernel) (pa_cons (pv 6) pa_nil)))))
          (pss_one (ps_if (pt_cmpR op_ne (pe_callB (call_reprD hg hr.units) (by rfl) T.b_repr (by decide +kernel) (pa_cons (pe_calG cl hg hr (by rfl) (pa_cons (pv 8) (pa_cons (pv 6) pa_nil))) pa_nil))
              (pe_callB (call_reprD hg hr.units) (by rfl) T.b_repr (by decide +kernel) (pa_cons (pv 9) pa_nil)) (nomark _))
            (pss_one (ps_ret pe_bl)) pss_nil)))))))
      (pss_one (ps_ret pe_bl))))), ?_⟩
    -- words
    refine ⟨_, rfl, by decide, by decide, fun D hD => ?_⟩
    have nDd := dice_ne hd hD
    refine lc_range (lo := 0) (fun j H2 => ∃ ws : List Str, H2 D = some (.lst (ws.map V.str)) ∧ ws.length = j ∧ (∀ z ∈ ws, WordOk z) ∧ SameX d H H2 ∧ DiceAt H2 d)
      ⟨[], upd_same, rfl, (fun z hz => by cases hz), (SameX.refl d H).new hD, dice_upd hd nDd⟩ (fun j H2 hj hP => ?_) (fun H2 hP => ?_)
    · obtain ⟨ws, eD, lw, ow, sx, hd2⟩ := hP
      refine ⟨rfl, _, rfl, d, rfl, hd2, fun z H3 wz sx3 hd3 => ?_⟩
      have eD3 := sx3 _ _ nDd eD
      refine ⟨ws.map V.str, eD3, ?_, ws ++ [z], ?_, ?_, ?_, ?_, dice_upd hd3 nDd⟩
      · rw [List.length_map, lw]
        have : (3 : Int).toNat = 3 := rfl
        exact small_line (by omega)
      · rw [upd_same, List.map_append]
        rfl
      · rw [List.length_append, lw]
        rfl
      · intro y hy
        rcases List.mem_append.mp hy with hy | hy
        · exact ow y hy
        · rw [List.mem_singleton.mp hy]
          exact wz
      · exact ((sx.trans sx3).at hD)
    obtain ⟨ws, eD, lw, ow, sx, hd2⟩ := hP
    have lw3 : ws.length = 3 := lw
    clear hd hD lw
    -- places
    refine ⟨_, rfl, D, ws, rfl, .inl (.inl eD), by omega, ow, fun pp H3 L kvs sm3 ep hR hin hval => ?_⟩
    have eD3 := sm3 _ _ eD
    -- for row in tuples(words)
    refine ⟨fun σ' H' => ∃ y3 y4 y5 y6 y7 y8 y9 y10 y11, σ' = [some (.ref d), some (.ref D), some (.ref pp), y3, y4, y5, y6, y7, y8, y9, y10, y11] ∧ Same H3 H', ?_, ?_⟩
    · refine ⟨_, rfl, D, ws, rfl, .inl (.inl eD3), by omega, fun pt H4 l sm4 et lt rT => ?_⟩
      refine ⟨_, rfl, ⟨_, .inl (.inl et)⟩, for_list (xs := l) (fun j σ' H' => ∃ y3 y4 y5 y6 y7 y8 y9 y10 y11, σ' = [some (.ref d), some (.ref D), some (.ref pp), y3, y4, y5, y6, y7, y8, y9, y10, y11] ∧ Same H4 H')
        ⟨_, _, _, _, _, _, _, _, _, rfl, Same.refl H4⟩ (fun j σ' H' _ hP => ?_) (fun j v σ' H' hv hP => ?_) (fun σ' H' hP => ?_)⟩
      · obtain ⟨_, _, _, _, _, _, _, _, _, _, s⟩ := hP
        exact .inl (.inl (s _ _ et))
      · obtain ⟨y3, y4, y5, y6, y7, y8, y9, y10, y11, rfl, s0⟩ := hP
        obtain ⟨p, zs, rfl, hp, hz, hl⟩ := rT v (List.mem_of_getElem? hv)
        have hp5 := sqT_same s0 hp
        have ep5 := (sm4.trans s0) _ _ ep
        have zL : ∀ z ∈ zs, z ∈ L := fun z h => hin z (hz z h)
        have zW : ∀ z ∈ zs, WordOk z := fun z h => ow z (hz z h)
        -- spots
        refine ⟨_, rfl, p, rfl, ⟨_, hp5⟩, fun D2 hD2 => ?_⟩
        refine lc_tup (xs := zs.map V.str) (fun k H2 => H2 D2 = some (.lst ((spotsOf L (zs.take k)).map V.int)) ∧ Same H' H2) ⟨upd_same, same_at hD2 (Same.refl H')⟩ (fun k H2 _ hP => sqT_same hP.2 hp5) (fun k x H2 hk hP => ?_) (fun H2 hP => ?_)
        · obtain ⟨eD2, s2⟩ := hP
          obtain ⟨z, hzk, rfl⟩ : ∃ z, zs[k]? = some z ∧ V.str z = x := by
            rw [List.getElem?_map] at hk
            cases e : zs[k]? with
            | none => rw [e] at hk; cases hk
            | some z => rw [e] at hk; exact ⟨z, rfl, by cases hk; rfl⟩
          have zm := List.mem_of_getElem? hzk
          have kl := (List.getElem?_eq_some_iff.mp hzk).1
          have g : DGet H2 pp (.str z) (some (.int (L.idxOf z : Nat))) := by
            have g := DGet.k (k := Sum.inr z) (s2 _ _ ep5)
            rw [hval _ z (idx_at (zL z zm))] at g
            exact g
          refine ⟨rfl, _, rfl, _, rfl, pp, _, rfl, g, _, eD2, ?_, ?_, same_at hD2 s2⟩
          · rw [List.length_map]
            unfold spotsOf
            rw [List.length_map, List.length_take]
            exact small_line (by omega)
          · rw [upd_same, take_snoc hzk]
            unfold spotsOf
            rw [List.map_append, List.map_append]
            rfl
        obtain ⟨eD2, s2⟩ := hP
        rw [List.length_map, List.take_length] at eD2
        have hp2 := sqT_same s2 hp5
        have lsp : (spotsOf L zs).length = zs.length := by unfold spotsOf; rw [List.length_map]
        -- is_due
        refine ⟨fun σ3 H3 => ∃ y6 y7 y8 y9 y10 y11, σ3 = [some (.ref d), some (.ref D), some (.ref pp), some (.ref p), some (.ref D2), some (.bl (sortedS zs && zs.all nameB)), y6, y7, y8, y9, y10, y11] ∧ Same H2 H3, ?_, ?_⟩
        · refine ⟨_, rfl, _, rfl, D2, spotsOf L zs, rfl, .inl (.inl eD2), by omega, fun ns' p2 hperm hsrt np2 => ?_⟩
          have s3 := same_at np2 (Same.refl H2) (o := .lst (ns'.map V.int))
          refine ⟨.list (iD (spotsOf L zs)), .list (iD ns'), .lst (.inl (.inl (s3 _ _ eD2))) (dp_ints _), .lst (.inl (.inl upd_same)) (dp_ints _), shaped_ints _, shaped_ints _, ?_⟩
          rw [PyData.eqv, eqv_ints, eq_sorted_ints hperm hsrt, spots_sorted hR zL]
          refine ⟨_, rfl, ?_⟩
          cases hso : sortedS zs with
          | false => exact ⟨_, _, _, _, _, _, rfl, s3⟩
          | true =>
            generalize upd H2 p2 (.lst (ns'.map V.int)) = G3 at s3 ⊢
            have hp3 := sqT_same s3 hp2
            refine ⟨_, rfl, p, rfl, ⟨_, hp3⟩, fun D3 hD3 => ?_⟩
            refine lc_tup (xs := zs.map V.str) (fun k H5 => H5 D3 = some (.lst (((zs.take k).filter fun z => !nameB z).map V.str)) ∧ Same G3 H5) ⟨upd_same, same_at hD3 (Same.refl G3)⟩ (fun k H5 _ hP => sqT_same hP.2 hp3) (fun k x H5 hk hP => ?_) (fun H5 hP => ?_)
            · obtain ⟨eD3, s5⟩ := hP
              obtain ⟨z, hzk, rfl⟩ : ∃ z, zs[k]? = some z ∧ V.str z = x := by
                rw [List.getElem?_map] at hk
                cases e : zs[k]? with
                | none => rw [e] at hk; cases hk
                | some z => rw [e] at hk; exact ⟨z, rfl, by cases hk; rfl⟩
              have zm := List.mem_of_getElem? hzk
              have kl := (List.getElem?_eq_some_iff.mp hzk).1
              refine ⟨rfl, _, rfl, z, rfl, zW z zm, _, rfl, ?_⟩
              rw [take_snoc hzk, List.filter_append]
              cases hn : nameB z with
              | true =>
                refine ⟨?_, s5⟩
                rw [eD3]
                simp [hn]
              | false =>
                refine ⟨_, rfl, _, eD3, ?_, ?_, same_at hD3 s5⟩
                · rw [List.length_map]
                  exact small_line (Nat.le_trans (List.length_filter_le _ _) (by rw [List.length_take]; omega))
                · rw [upd_same]
                  simp [hn]
            · obtain ⟨eD3, s5⟩ := hP
              rw [List.length_map, List.take_length] at eD3
              refine ⟨by show 0 ≤ sizeLine; decide, fun p4 np4 => ?_⟩
              have s6 := same_at np4 (Same.refl H5) (o := .lst [])
              refine ⟨.list (tD (zs.filter fun z => !nameB z)), .list (tD []), .lst (.inl (.inl (s6 _ _ eD3))) (dp_texts _), .lst (.inl (.inl upd_same)) (dp_texts []), shaped_texts fun z h => word_ok (zW z (List.mem_filter.mp h).1), shaped_texts (fun z h => (by cases h)), ?_⟩
              rw [PyData.eqv, eqv_texts, filter_nil]
              exact ⟨_, _, _, _, _, _, rfl, s3.trans (s5.trans s6)⟩
        · rintro σ3 H3 ⟨y6, y7, y8, y9, y10, y11, rfl, s3⟩
          refine ⟨_, rfl, by decide, by decide, ?_⟩
          refine for_range (lo := 0) (fun i σ4 H4 => ∃ y6 y7 y8 y9 y10 y11, σ4 = [some (.ref d), some (.ref D), some (.ref pp), some (.ref p), some (.ref D2), some (.bl (sortedS zs && zs.all nameB)), y6, y7, y8, y9, y10, y11] ∧ Same H2 H4) ⟨_, _, _, _, _, _, rfl, s3⟩ (fun i σ4 H5 hi hP => ?_) (fun σ4 H5 hP => ?_)
          · obtain ⟨y6, y7, y8, y9, y10, y11, rfl, s5⟩ := hP
            have hi6 : i < 6 := hi
            have hp5 := sqT_same s5 hp2
            have hc := cnt_small hi6
            have hsb : sortB (zs.map V.str) = (sortedS zs && zs.all nameB) := by
              unfold sortB
              rw [all_names, texts_back, Bool.and_comm]
            have harg : SortArg K H5 (.ref p) (0 + (i : Int)) (decide ((zs.length : Int) ≤ 0 + (i : Int)) && (sortedS zs && zs.all nameB)) := by
              refine .inr ⟨p, zs.map V.str, rfl, hp5, tyx_sqT hp5, by rw [List.length_map]; omega, fun x hx => ?_, by rw [hsb, List.length_map]⟩
              obtain ⟨z, hzm, rfl⟩ := List.mem_map.mp hx
              exact .inl ⟨z, rfl, Nat.le_trans (zW z hzm).1 (by decide)⟩
            generalize hdue : (sortedS zs && zs.all nameB) = due at harg ⊢
            refine ⟨_, rfl, _, rfl, .ref p, .int (0 + (i : Int)), rfl, .inl ⟨_, rfl⟩, fun h => absurd hc (by rw [h]; decide), fun _ => ⟨_, _, rfl, harg, fun H6 s6 => ?_⟩⟩
            have hp6 := sqT_same s6 hp5
            refine ⟨_, .bool _, rfl, .bl _, rfl, rfl, by show 0 ≤ 60; decide, bool_size _, ?_⟩
            refine ⟨_, rfl, _, rfl, ?_⟩
            cases due with
            | false =>
              refine ⟨_, .bool false, rfl, .bl _, rfl, rfl, by show 0 ≤ 60; decide, bool_size _, rfl, _, rfl, ?_⟩
              rw [Bool.and_false, decide_eq_true rfl]
              exact ⟨_, _, _, _, _, _, rfl, s5.trans s6⟩
            | true =>
              refine ⟨_, rfl, p, _, rfl, .inr hp6, _, rfl, _, _, rfl, rfl, ?_⟩
              refine ⟨_, .bool _, rfl, .bl _, rfl, rfl, by show 0 ≤ 60; decide, bool_size _, rfl, _, rfl, ?_⟩
              rw [Bool.and_true, List.length_map, decide_eq_true rfl]
              exact ⟨_, _, _, _, _, _, rfl, s5.trans s6⟩
          · obtain ⟨y6, y7, y8, y9, y10, y11, rfl, s5⟩ := hP
            exact ⟨_, _, _, _, _, _, _, _, _, rfl, s0.trans (s2.trans s5)⟩
      · obtain ⟨y3, y4, y5, y6, y7, y8, y9, y10, y11, rfl, s5⟩ := hP
        exact ⟨_, _, _, _, _, _, _, _, _, rfl, sm4.trans s5⟩
    · rintro σ' H' ⟨y3, y4, y5, y6, y7, y8, y9, y10, y11, rfl, s5⟩
      have sx5 : SameX d H H' := (sx.trans (SameX.of sm3)).trans (SameX.of s5)
      have hd5 : DiceAt H' d := by
        obtain ⟨x, b, c, e⟩ := hd2
        exact ⟨x, b, c, s5 _ _ (sm3 _ _ e)⟩
      clear hR hin hval ep eD3 eD sm3 s5 ow lw3 hd2 sx
      generalize H' = H7 at sx5 hd5 ⊢
      -- the limits
      refine ⟨_, rfl, by show 1 ≤ sizeLine; decide, fun p1 np1 => ?_⟩
      have np1d := dice_ne hd5 np1
      refine ⟨_, _, rfl, rfl, ⟨by decide, by decide, by decide⟩, ?_⟩
      refine ⟨_, _, rfl, rfl, ⟨by decide, by decide, by decide⟩, _, rfl, ?_⟩
      refine ⟨_, rfl, _, _, rfl, rfl, ⟨by decide, by decide, by decide⟩, d, _, rfl, dice_upd hd5 np1d, by decide +kernel, by decide +kernel, fun r x b c h0 h1 => ?_⟩
      refine ⟨_, _, rfl, rfl, ?_⟩
      have e1 : upd (upd H7 p1 (.tup [.int 3])) d (.lst [.int x, .int b, .int c]) p1 = some (.tup [.int 3]) := by rw [upd_ne np1d, upd_same]
      have sx1 : SameX d H (upd (upd H7 p1 (.tup [.int 3])) d (.lst [.int x, .int b, .int c])) := (sx5.new np1).atd
      generalize upd (upd H7 p1 (.tup [.int 3])) d (.lst [.int x, .int b, .int c]) = H8 at e1 sx1 ⊢
      refine ⟨by show 9 ≤ sizeLine; decide, fun pl npl => ?_⟩
      have hlims : ∀ v ∈ [V.int (-1), .bl true, .bl false, .non, .str "3", .ref p1, .int (10 ^ Int.toNat 60), .int (-10 ^ Int.toNat 59), .int (3 + r)], LimOk K H8 v := by
        intro v hv
        simp only [List.mem_cons, List.not_mem_nil, or_false] at hv
        rcases hv with rfl | rfl | rfl | rfl | rfl | rfl | rfl | rfl | rfl
        · exact lim_m1
        · exact lim_bl _
        · exact lim_bl _
        · exact lim_non
        · exact lim_str
        · exact lim_tup e1
        · exact lim_60
        · exact lim_59
        · exact lim_let h0 h1
      have sl := same_at npl (Same.refl H8) (o := .lst [V.int (-1), .bl true, .bl false, .non, .str "3", .ref p1, .int (10 ^ Int.toNat 60), .int (-10 ^ Int.toNat 59), .int (3 + r)])
      have el : upd H8 pl (.lst [V.int (-1), .bl true, .bl false, .non, .str "3", .ref p1, .int (10 ^ Int.toNat 60), .int (-10 ^ Int.toNat 59), .int (3 + r)]) pl = some (.lst [V.int (-1), .bl true, .bl false, .non, .str "3", .ref p1, .int (10 ^ Int.toNat 60), .int (-10 ^ Int.toNat 59), .int (3 + r)]) := upd_same
      have sx2 : SameX d H (upd H8 pl (.lst [V.int (-1), .bl true, .bl false, .non, .str "3", .ref p1, .int (10 ^ Int.toNat 60), .int (-10 ^ Int.toNat 59), .int (3 + r)])) := sx1.trans (SameX.of sl)
      refine ⟨_, rfl, ⟨_, .inl (.inl el)⟩, for_list (xs := [V.int (-1), .bl true, .bl false, .non, .str "3", .ref p1, .int (10 ^ Int.toNat 60), .int (-10 ^ Int.toNat 59), .int (3 + r)])
        (fun j σ' H' => ∃ y3 y4 y5 y6 y7 y8 y9 y10 y11, σ' = [some (.ref d), some (.ref D), some (.ref pp), y3, y4, y5, y6, y7, y8, y9, y10, y11] ∧ Same (upd H8 pl (.lst [V.int (-1), .bl true, .bl false, .non, .str "3", .ref p1, .int (10 ^ Int.toNat 60), .int (-10 ^ Int.toNat 59), .int (3 + r)])) H')
        ⟨_, _, _, _, _, _, _, _, _, rfl, Same.refl _⟩ (fun j σ' H' _ hP => ?_) (fun j v σ' H' hv hP => ?_) (fun σ' H' hP => ?_)⟩
      · obtain ⟨_, _, _, _, _, _, _, _, _, _, s⟩ := hP
        exact .inl (.inl (s _ _ el))
      · obtain ⟨y3, y4, y5, y6, y7, y8, y9, y10, y11, rfl, s9⟩ := hP
        have hv1 := limOk_same (sl.trans s9) (hlims v (List.mem_of_getElem? hv))
        have s9' := s9
        clear hlims hv e1 sx1 sl el
        generalize upd H8 pl (.lst [V.int (-1), .bl true, .bl false, .non, .str "3", .ref p1, .int (10 ^ Int.toNat 60), .int (-10 ^ Int.toNat 59), .int (3 + r)]) = H9 at s9 s9' sx2 ⊢
        -- is_let
        refine ⟨fun σ2 H2 => ∃ y8 y9 y10 y11, σ2 = [some (.ref d), some (.ref D), some (.ref pp), y3, y4, y5, some v, some (.bl (cntV v)), y8, y9, y10, y11] ∧ H2 = H', ?_, ?_⟩
        · rcases hv1.arg with ⟨i, rfl⟩ | ⟨b, rfl⟩ | ⟨hno, t, ht, hk⟩
          · refine ⟨_, rfl, _, .ty "int", .type "int", .type "int", true, rfl, .ty _, .base (.int i), kit_ty (by decide +kernel), true, rfl, ?_⟩
            refine ⟨_, rfl, _, .ty "bool", .type "int", .type "bool", false, rfl, .ty _, .base (.int i), kit_ty (by decide +kernel), false, rfl, ?_⟩
            refine ⟨true, rfl, ?_⟩
            have e60 : (10 : Int) ^ Int.toNat 60 = TEN60 := by decide +kernel
            refine ⟨_, rfl, _, _, rfl, rfl, _, rfl, ite2 (fun e => ?_) (fun e => ?_)⟩
            · have h0 := of_decide_eq_true e
              refine ⟨_, _, rfl, rfl, ⟨by decide, by decide, by decide⟩, _, _, rfl, rfl, ?_⟩
              have hc : cntV (.int i) = decide (i < 10 ^ Int.toNat 60) := by
                show ((decide (-TEN60 < i) && decide (i < TEN60)) && decide (0 ≤ i)) = _
                rw [e60, decide_eq_true h0, decide_eq_true (show -TEN60 < i by unfold TEN60; omega), Bool.true_and, Bool.and_true]
              rw [hc]
              exact ⟨_, _, _, _, rfl, rfl⟩
            · have hc : cntV (.int i) = false := by
                show ((decide (-TEN60 < i) && decide (i < TEN60)) && decide (0 ≤ i)) = _
                rw [decide_eq_false (fun q => e (decide_eq_true q)), Bool.and_false]
              rw [hc]
              exact ⟨_, _, _, _, rfl, rfl⟩
          · refine ⟨_, rfl, _, .ty "int", .type "bool", .type "int", true, rfl, .ty _, .base (.bl b), kit_ty (by decide +kernel), true, rfl, ?_⟩
            refine ⟨_, rfl, _, .ty "bool", .type "bool", .type "bool", true, rfl, .ty _, .base (.bl b), kit_ty (by decide +kernel), true, rfl, ?_⟩
            exact ⟨false, rfl, _, _, _, _, rfl, rfl⟩
          · refine ⟨_, rfl, _, .ty "int", t, .type "int", false, rfl, .ty _, ht, hk, false, rfl, ?_⟩
            have hc : cntV v = false := by
              cases v with
              | int i => exact absurd rfl (hno i)
              | _ => rfl
            rw [hc]
            exact ⟨_, _, _, _, rfl, rfl⟩
        · rintro σ2 H2 ⟨y8, y9, y10, y11, rfl, rfl⟩
          -- the values
          have s0 : Same H2 H2 := Same.refl H2
          refine ⟨by show 0 ≤ sizeLine; decide, fun t0 n0 => ?_⟩
          have f0 : upd H2 t0 (.tup []) t0 = some (.tup []) := upd_same
          have m0 := same_at n0 s0 (o := .tup [])
          generalize upd H2 t0 (.tup []) = G0 at f0 m0 ⊢
          refine ⟨by show 3 ≤ sizeLine; decide, fun t1 n1 => ?_⟩
          have f1 : upd G0 t1 (.tup [.str "a", .str "b", .str "b"]) t1 = some (.tup [.str "a", .str "b", .str "b"]) := upd_same
          have m1 := same_at n1 (Same.refl G0) (o := .tup [.str "a", .str "b", .str "b"])
          generalize upd G0 t1 (.tup [.str "a", .str "b", .str "b"]) = G1 at f1 m1 ⊢
          refine ⟨by show 2 ≤ sizeLine; decide, fun t2 n2 => ?_⟩
          have f2 : upd G1 t2 (.tup [.str "b", .str "a"]) t2 = some (.tup [.str "b", .str "a"]) := upd_same
          have m2 := same_at n2 (Same.refl G1) (o := .tup [.str "b", .str "a"])
          generalize upd G1 t2 (.tup [.str "b", .str "a"]) = G2 at f2 m2 ⊢
          refine ⟨by show 1 ≤ sizeLine; decide, fun t3 n3 => ?_⟩
          have f3 : upd G2 t3 (.lst [.str "a"]) t3 = some (.lst [.str "a"]) := upd_same
          have m3 := same_at n3 (Same.refl G2) (o := .lst [.str "a"])
          generalize upd G2 t3 (.lst [.str "a"]) = G3 at f3 m3 ⊢
          refine fun t4 n4 => ⟨upd_same, [(Sum.inr "a", .str "b")], rfl, Nat.le_of_ble_eq_true rfl, ?_⟩
          have f4 : upd (upd G3 t4 (.dK [])) t4 (.dK (mergeK [] [(Sum.inr ("a" : Str), .str "b")])) t4 = some (.dK (mergeK [] [(Sum.inr ("a" : Str), .str "b")])) := upd_same
          have m4 := same_at n4 (same_at n4 (o := .dK []) (Same.refl G3)) (o := .dK (mergeK [] [(Sum.inr ("a" : Str), .str "b")]))
          generalize upd (upd G3 t4 (.dK [])) t4 (.dK (mergeK [] [(Sum.inr ("a" : Str), .str "b")])) = G4 at f4 m4 ⊢
          refine ⟨by show 2 ≤ sizeLine; decide, fun t5 n5 => ?_⟩
          have f5 : upd G4 t5 (.tup [.str "a", .int 7]) t5 = some (.tup [.str "a", .int 7]) := upd_same
          have m5 := same_at n5 (Same.refl G4) (o := .tup [.str "a", .int 7])
          generalize upd G4 t5 (.tup [.str "a", .int 7]) = G5 at f5 m5 ⊢
          refine ⟨by show 1 ≤ sizeLine; decide, fun t6 n6 => ?_⟩
          have f6 : upd G5 t6 (.tup [.str "a"]) t6 = some (.tup [.str "a"]) := upd_same
          have m6 := same_at n6 (Same.refl G5) (o := .tup [.str "a"])
          generalize upd G5 t6 (.tup [.str "a"]) = G6 at f6 m6 ⊢
          refine ⟨by show 1 ≤ sizeLine; decide, fun t7 n7 => ?_⟩
          have f7 : upd G6 t7 (.tup [.ref t6]) t7 = some (.tup [.ref t6]) := upd_same
          have m7 := same_at n7 (Same.refl G6) (o := .tup [.ref t6])
          generalize upd G6 t7 (.tup [.ref t6]) = G7 at f7 m7 ⊢
          refine ⟨by show 10 ≤ sizeLine; decide, fun t8 n8 => ?_⟩
          have f8 : upd G7 t8 (.lst [.ref t0, .ref t1, .ref t2, .non, .ref t3, .str "ab", .ref t4, .ref t5, .ref t7, .int 7]) t8 = some (.lst [.ref t0, .ref t1, .ref t2, .non, .ref t3, .str "ab", .ref t4, .ref t5, .ref t7, .int 7]) := upd_same
          have m8 := same_at n8 (Same.refl G7) (o := .lst [.ref t0, .ref t1, .ref t2, .non, .ref t3, .str "ab", .ref t4, .ref t5, .ref t7, .int 7])
          generalize upd G7 t8 (.lst [.ref t0, .ref t1, .ref t2, .non, .ref t3, .str "ab", .ref t4, .ref t5, .ref t7, .int 7]) = G8 at f8 m8 ⊢
          have f7 := m8 _ _ f7
          have m7 := m7.trans m8
          have f6 := m7 _ _ f6
          have m6 := m6.trans m7
          have f5 := m6 _ _ f5
          have m5 := m5.trans m6
          have f4 := m5 _ _ f4
          have m4 := m4.trans m5
          have f3 := m4 _ _ f3
          have m3 := m3.trans m4
          have f2 := m3 _ _ f2
          have m2 := m2.trans m3
          have f1 := m2 _ _ f1
          have m1 := m1.trans m2
          have f0 := m1 _ _ f0
          have sm8 := m0.trans m1
          clear m0 m1 m2 m3 m4 m5 m6 m7 m8 n0 n1 n2 n3 n4 n5 n6 n7 n8 s0
          have one : ∀ z : Str, z.length ≤ 2 → z.length ≤ sizeLine := fun z h => Nat.le_trans h (by decide)
          have hvals : ∀ x ∈ [V.ref t0, .ref t1, .ref t2, .non, .ref t3, .str "ab", .ref t4, .ref t5, .ref t7, .int 7], ∃ b, ValOk K G8 x b := by
            intro x hx
            simp only [List.mem_cons, List.not_mem_nil, or_false] at hx
            have na : NameArg K G8 (.str "a") := nameArg_str "a" (one _ (by decide +kernel))
            have nb : NameArg K G8 (.str "b") := nameArg_str "b" (one _ (by decide +kernel))
            rcases hx with rfl | rfl | rfl | rfl | rfl | rfl | rfl | rfl | rfl | rfl
            · exact ⟨true, val_tup f0 (by decide) (fun x hx => by cases hx) .nil (by decide +kernel) (by decide +kernel) (by decide +kernel) (by decide +kernel)⟩
            · refine ⟨true, val_tup f1 (by decide) (fun x hx => ?_) (.cons (.str "a") (.cons (.str "b") (.cons (.str "b") .nil))) (by decide +kernel) (by decide +kernel) (by decide +kernel) (by decide +kernel)⟩
              simp only [List.mem_cons, List.not_mem_nil, or_false] at hx
              rcases hx with rfl | rfl | rfl
              · exact na
              · exact nb
              · exact nb
            · refine ⟨false, val_tup f2 (by decide) (fun x hx => ?_) (.cons (.str "b") (.cons (.str "a") .nil)) (by decide +kernel) (by decide +kernel) (by decide +kernel) (by decide +kernel)⟩
              simp only [List.mem_cons, List.not_mem_nil, or_false] at hx
              rcases hx with rfl | rfl
              · exact nb
              · exact na
            · exact ⟨false, val_not (d := .none) ⟨_, .base .non, kit_ty (by decide +kernel)⟩ .non (by decide +kernel) (by decide +kernel) (by decide +kernel)⟩
            · exact ⟨false, val_not (d := .list [.str "a"]) ⟨_, .base (.lst f3), kit_ty (by decide +kernel)⟩ (.lst (.inl (.inl f3)) (.cons (.str "a") .nil)) (by decide +kernel) (by decide +kernel) (by decide +kernel)⟩
            · exact ⟨false, val_not (d := .str "ab") ⟨_, .base (.str _), kit_ty (by decide +kernel)⟩ (.str "ab") (by decide +kernel) (by decide +kernel) (by decide +kernel)⟩
            · exact ⟨false, fun M _ => .inl ⟨⟨_, .base (.dK f4), kit_ty (by decide +kernel)⟩, rfl⟩, .inr ⟨t4, _, rfl, f4, rfl⟩⟩
            · refine ⟨false, val_tup f5 (by decide) (fun x hx => ?_) (.cons (.str "a") (.cons (.int 7) .nil)) (by decide +kernel) (by decide +kernel) (by decide +kernel) (by decide +kernel)⟩
              simp only [List.mem_cons, List.not_mem_nil, or_false] at hx
              rcases hx with rfl | rfl
              · exact na
              · exact .inr ⟨fun z e => (by cases e), _, .base (.int _), kit_ty (by decide +kernel)⟩
            · refine ⟨false, val_tup f7 (by show 1 ≤ 3; decide) (fun x hx => ?_) (.cons (.tup (.inl (.inl f6)) (.cons (.str "a") .nil)) .nil) rfl (by decide +kernel) (by decide +kernel) (by decide +kernel)⟩
              simp only [List.mem_cons, List.not_mem_nil, or_false] at hx
              subst hx
              exact .inr ⟨fun z e => (by cases e), _, .base (.tup f6), kit_ty (by decide +kernel)⟩
            · exact ⟨false, val_not (d := .int 7) ⟨_, .base (.int _), kit_ty (by decide +kernel)⟩ (.int 7) (by decide +kernel) (by decide +kernel) (by decide +kernel)⟩
          clear f0 f1 f2 f3 f4 f5 f6 f7
          have hv8 := limOk_same sm8 hv1
          refine ⟨_, rfl, ⟨_, .inl (.inl f8)⟩, for_list (xs := [V.ref t0, .ref t1, .ref t2, .non, .ref t3, .str "ab", .ref t4, .ref t5, .ref t7, .int 7])
            (fun j σ' H' => ∃ y8 y9 y10 y11, σ' = [some (.ref d), some (.ref D), some (.ref pp), y3, y4, y5, some v, some (.bl (cntV v)), y8, y9, y10, y11] ∧ Same G8 H')
            ⟨_, _, _, _, rfl, Same.refl _⟩ (fun j σ' H' _ hP => ?_) (fun j x σ' H' hx hP => ?_) (fun σ' H' hP => ?_)⟩
          · obtain ⟨_, _, _, _, _, s⟩ := hP
            exact .inl (.inl (s _ _ f8))
          · obtain ⟨y8, y9, y10, y11, rfl, sa⟩ := hP
            obtain ⟨b, hb⟩ := hvals x (List.mem_of_getElem? hx)
            have hb := valOk_same sa hb
            have hl := limOk_same sa hv8
            refine ⟨_, rfl, cntV v, rfl, ?_⟩
            cases hc : cntV v with
            | true =>
              obtain ⟨M, rfl, hM⟩ := hl.good hc
              refine ⟨_, rfl, by show 0 ≤ sizeLine; decide, fun u0 k0 => ?_⟩
              have g0 : upd H' u0 (.tup []) u0 = some (.tup []) := upd_same
              have r0 := same_at k0 (Same.refl H') (o := .tup [])
              generalize upd H' u0 (.tup []) = J0 at g0 r0 ⊢
              refine ⟨by show 3 ≤ sizeLine; decide, fun u1 k1 => ?_⟩
              have g1 : upd J0 u1 (.tup [.str "a", .str "b", .str "b"]) u1 = some (.tup [.str "a", .str "b", .str "b"]) := upd_same
              have r1 := same_at k1 (Same.refl J0) (o := .tup [.str "a", .str "b", .str "b"])
              generalize upd J0 u1 (.tup [.str "a", .str "b", .str "b"]) = J1 at g1 r1 ⊢
              refine ⟨by show 2 ≤ sizeLine; decide, fun u2 k2 => ?_⟩
              have g2 : upd J1 u2 (.lst [.ref u0, .ref u1]) u2 = some (.lst [.ref u0, .ref u1]) := upd_same
              have r2 := same_at k2 (Same.refl J1) (o := .lst [.ref u0, .ref u1])
              generalize upd J1 u2 (.lst [.ref u0, .ref u1]) = J2 at g2 r2 ⊢
              have g0 := r2 _ _ (r1 _ _ g0)
              have g1 := r2 _ _ g1
              have r := r0.trans (r1.trans r2)
              have hb := valOk_same r hb
              have hl := limOk_same r hl
              have key : ∀ QQ : VK, QQ (.bl b) J2 → (rInF K x (.ref u2) J2 QQ ∨ rInDict K x (.ref u2) J2 QQ) := by
                intro QQ hQ
                rcases hb.mem with ⟨d', hd', c1, c2, c3⟩ | ⟨a, kvs, rfl, ea, hbf⟩
                · refine .inl ⟨d', GOOD, hd', .lst (.inl (.inl g2)) (.cons (.tup (.inl (.inl g0)) .nil) (.cons (.tup (.inl (.inl g1)) (.cons (.str _) (.cons (.str _) (.cons (.str _) .nil)))) .nil)), c1, by decide +kernel, c2, ?_⟩
                  rw [c3]
                  exact hQ
                · subst hbf
                  refine .inr ⟨a, u2, kvs, [u0, u1], rfl, ea, rfl, .inl (.inl g2), fun p hp => ?_, hQ⟩
                  simp only [List.mem_cons, List.not_mem_nil, or_false] at hp
                  rcases hp with rfl | rfl
                  · exact ⟨_, .inl (.inl g0)⟩
                  · exact ⟨_, .inl (.inl g1)⟩
              refine key _ ?_
              refine ⟨_, rfl, _, rfl, x, .int M, rfl, hl.arg, fun h => absurd hc (by rw [h]; decide), fun _ => ⟨M, b, rfl, hb.arg M hM, fun H6 s6 => ?_⟩⟩
              refine ⟨_, .bool _, rfl, .bl _, rfl, rfl, by show 0 ≤ 60; decide, bool_size _, ?_⟩
              refine ⟨_, rfl, _, .bool _, rfl, .bl _, rfl, rfl, by show 0 ≤ 60; decide, bool_size _, rfl, _, rfl, ?_⟩
              rw [decide_eq_true rfl]
              exact ⟨_, _, _, _, rfl, sa.trans (r.trans s6)⟩
            | false =>
              obtain ⟨dm, sh, h1, h2⟩ := hl.bad hc
              refine ⟨_, rfl, v, dm, rfl, sh.dp _ (Same.refl _), sh.showable, sh.noDict, sh.depth, Nat.le_trans sh.size (by decide), _, _, rfl, rfl, ?_, ?_⟩
              · exact Nat.le_trans (Nat.add_le_add (show ("number " : Str).length ≤ 7 by decide +kernel) sh.size) (by decide)
              refine ⟨_, rfl, _, rfl, x, v, rfl, hl.arg, fun _ => ⟨dm, sh, fun H6 s6 => ?_⟩, fun h => absurd hc (by rw [h]; decide)⟩
              refine ⟨_, .str _, rfl, .str _, h1, rfl, Nat.zero_le _, h2, ?_⟩
              refine ⟨_, rfl, _, .str _, rfl, .str _, h1, rfl, Nat.zero_le _, h2, rfl, _, rfl, ?_⟩
              rw [decide_eq_true rfl]
              exact ⟨_, _, _, _, rfl, sa.trans s6⟩
          · obtain ⟨y8, y9, y10, y11, rfl, sa⟩ := hP
            exact ⟨_, _, _, _, _, _, _, _, _, rfl, s9.trans (sm8.trans sa)⟩
      · obtain ⟨y3, y4, y5, y6, y7, y8, y9, y10, y11, rfl, s9⟩ := hP
        exact q _ (sx2.trans (SameX.of s9))
end
end Kl

set_option maxRecDepth 100000
set_option maxHeartbeats 4000000
namespace Kl
open PySem PySem.Spec PyProof.Rows L2 Gx Mx
section
variable {P : Program} {w : World} {K : PySem.W.Frag} {mg : Str → Option Value} {base : Heap}
/-! ### the law -/
theorem sqL_samex {d a : Addr} {H H' : Hp} {xs : List V} (n : H d = none) (s : SameX d H H') (h : SqL K H a xs) : SqL K H' a xs := by
  rcases h with (h | ⟨o, h⟩) | h
  · exact .inl (.inl (s _ _ (ne_of_none h n) h))
  · exact .inl (.inr ⟨o, s _ _ (ne_of_none h n) h⟩)
  · exact .inr h
def spLaw (K : PySem.W.Frag) : Sp := fun vs H Q _ => ∃ (a : Addr) (ns : List Int), vs = [.ref a] ∧ SqL K H a (ns.map V.int) ∧ ns.length ≤ 63 ∧ ∀ H', Q (.bl true) H'
theorem ok_law {f : Addr} {fd : FuncData} (F : Fun K "law" "law" s_law f fd) (T : Top K mg) : FnG P w K mg base CX0 7 f fd ["_law_script"] (spLaw K) := by
  obtain ⟨C, fI, fdI, TX, FX⟩ := T.x_InvalidNumber
  have cd : Cal P w K mg base 6 "_law_dice" ["_law_script", "_law_spot"] (spDice K) := (T.d_law_dice.cal fun f fd F => ok_dice F T).mono (by decide)
  have cr : CalG P w K mg base 6 "_law_right" ["_law_dice_here"] spRight := T.d_law_right.calG fun f fd F => ok_right F T TX FX
  refine okG F sc_law (fun vs H Q E h => ?_) (fun cdv A outer s H vs Q E hg hr h => ?_)
  · obtain ⟨a, ns, rfl, _⟩ := h
    rfl
  · obtain ⟨a, ns, rfl, hS, hlen, q⟩ := h
    refine ⟨_, pss_cons (ps_for PassesOwn.never rfl (pi_range1 (by rfl) T.b_range (pa_cons (pe_callB (call_max2 rfl) (by rfl) T.b_max (by decide +kernel) (pa_cons pe_int (pa_cons
          (pe_callB (call_min2 rfl) (by rfl) T.b_min (by decide +kernel) (pa_cons pe_int (pa_cons (pe_callB call_len_seq (by rfl) T.b_len PySem.boot_len (pa_cons (pv 0) pa_nil)) pa_nil))) pa_nil))) pa_nil))
          (pg_name (i := 1) sc_law.nd rfl (.inl rfl))
        (pss_one (ps_if (pt_not (pt_val (pe_calG cr hg hr (by rfl) (pa_cons (pe_cal cd hr (by rfl) (pa_cons (pv 0) (pa_cons (pv 1) pa_nil))) pa_nil)))) (pss_one (ps_ret pe_bl)) pss_nil)))
      (pss_one (ps_ret pe_bl)), ?_⟩
    refine ⟨_, rfl, a, _, rfl, .inl hS, _, _, rfl, _, _, rfl, _, rfl, ?_, ?_, ?_⟩
    · split <;> split <;> omega
    · split <;> split <;> omega
    refine for_range (lo := 0) (fun i σ' H' => ∃ y1, σ' = [some (.ref a), y1] ∧ SqL K H' a (ns.map V.int)) ⟨_, rfl, hS⟩ (fun i σ' H' hi hP => ?_) (fun σ' H' hP => q _)
    obtain ⟨y1, rfl, hS⟩ := hP
    refine ⟨_, rfl, _, rfl, a, ns, i, ?_, hS, hlen, ?_, fun d x0 b0 nd => ?_⟩
    · show [V.ref a, V.int (0 + (i : Int))] = _
      rw [Int.zero_add]
    · have : i < 3 := by
        revert hi
        split <;> split <;> omega
      omega
    refine ⟨d, rfl, ⟨x0, b0, 0, upd_same⟩, fun H2 sx => ⟨_, rfl, ?_⟩⟩
    refine ⟨_, rfl, ?_⟩
    refine sqL_samex (d := d) nd (fun b o n e => ?_) hS
    exact sx b o n (by rw [upd_ne n]; exact e)
end
end Kl

set_option maxRecDepth 100000
set_option maxHeartbeats 4000000
namespace Kl
open PySem PySem.Spec PyProof.Rows L2 Gx
/-! ### the end -/
/-- an own class of errors is caught by its own name -/
theorem exm_own {K : PySem.W.Frag} {S : Addr} (b : PySem.W.subIn K (.ref S) (.type "BaseException") = some true) (i : PySem.W.isClsIn K S = true) (t : PySem.W.typeIn K (.ref S) = some (.type "type")) (s : PySem.W.subIn K (.ref S) (.ref S) = some true) : PySem.W.exmOne K (.ref S) (.ref S) = some true := by
  have i' : (PySem.W.clsIn K S).isSome = true := i
  unfold PySem.W.exmOne PySem.W.kitCls
  simp [b, i', t, s]
theorem all_mk {l : PySem.W.OpenLaw} {w : World} {K : PySem.W.Frag} {h : Heap} {mg : Str → Option Value} {fa : Addr} (X : K.In h) (G : h.Ns mainGlobals mg) (hfa : mg "law" = some (.ref fa))
    {Ce0 fe0 : Addr} {ode0 ane0 : Option Addr} {sle0 : Array (Option Value)} {oce0 kVe0 dce0 pme0 cde0 cte0 : Value}
    {nme0 qne0 : Str} {Ne0 : Addr} {bse0 bme0 : List Value} {sne0 : List Str} {sube0 : List Value} {abe0 : Bool} {cole0 : Option Bool} {dde0 : Option Addr} {k0e0 k1e0 k2e0 k3e0 k5e0 : Option Value}
    {f0 : Addr} {od0 an0 : Option Addr} {sl0 : Array (Option Value)} {oc0 kV0 dc0 pm0 cd0 ct0 : Value}
    {f1 : Addr} {od1 an1 : Option Addr} {sl1 : Array (Option Value)} {oc1 kV1 dc1 pm1 cd1 ct1 : Value}
    {f2 : Addr} {od2 an2 : Option Addr} {sl2 : Array (Option Value)} {oc2 kV2 dc2 pm2 cd2 ct2 : Value}
    {f3 : Addr} {od3 an3 : Option Addr} {sl3 : Array (Option Value)} {oc3 kV3 dc3 pm3 cd3 ct3 : Value}
    {f4 : Addr} {od4 an4 : Option Addr} {sl4 : Array (Option Value)} {oc4 kV4 dc4 pm4 cd4 ct4 : Value}
    {f5 : Addr} {od5 an5 : Option Addr} {sl5 : Array (Option Value)} {oc5 kV5 dc5 pm5 cd5 ct5 : Value}
    {f6 : Addr} {od6 an6 : Option Addr} {sl6 : Array (Option Value)} {oc6 kV6 dc6 pm6 cd6 ct6 : Value}
    {f7 : Addr} {od7 an7 : Option Addr} {sl7 : Array (Option Value)} {oc7 kV7 dc7 pm7 cd7 ct7 : Value}
    {f8 : Addr} {od8 an8 : Option Addr} {sl8 : Array (Option Value)} {oc8 kV8 dc8 pm8 cd8 ct8 : Value}
    {f9 : Addr} {od9 an9 : Option Addr} {sl9 : Array (Option Value)} {oc9 kV9 dc9 pm9 cd9 ct9 : Value}
    {f10 : Addr} {od10 an10 : Option Addr} {sl10 : Array (Option Value)} {oc10 kV10 dc10 pm10 cd10 ct10 : Value}
    {f11 : Addr} {od11 an11 : Option Addr} {sl11 : Array (Option Value)} {oc11 kV11 dc11 pm11 cd11 ct11 : Value}
    {f12 : Addr} {od12 an12 : Option Addr} {sl12 : Array (Option Value)} {oc12 kV12 dc12 pm12 cd12 ct12 : Value}
    {f13 : Addr} {od13 an13 : Option Addr} {sl13 : Array (Option Value)} {oc13 kV13 dc13 pm13 cd13 ct13 : Value}
    {f14 : Addr} {od14 an14 : Option Addr} {sl14 : Array (Option Value)} {oc14 kV14 dc14 pm14 cd14 ct14 : Value}
    {t0 : Tok}
    {t1 : Tok}
    (ge0 : PySem.W.nsIn K mainGlobals "InvalidNumber" = some (some (.ref Ce0))) (he0 : K.lookup Ce0 = some (excClassObj nme0 qne0 Ce0 Ne0 bse0 bme0 true sne0 sube0 abe0 cole0 dde0 k0e0 k1e0 k2e0 k3e0 k5e0 "IndexError.__new__")) (te0 : PySem.W.excTail [.type "IndexError", .type "LookupError", .type "Exception", .type "BaseException", .type "object"] bme0 = true) (oe0 : PySem.W.excOver K Ce0 [.type "IndexError", .type "LookupError", .type "Exception", .type "BaseException", .type "object"] = true) (qe0 : PySem.W.takerIn K Ce0 "value" = some none) (de0 : PySem.W.hasDictIn K Ce0 = true) (se0 : PySem.W.findIn K (.ref Ce0) "__setattr__" = some (some (.builtin "object.__setattr__"))) (ue0 : PySem.W.findIn K (.ref Ce0) "__getattribute__" = some (some (.builtin "BaseException.__getattribute__"))) (ve0 : PySem.W.findIn K (.ref Ce0) "__getattr__" = some none) (ne0 : PySem.W.findIn K (.ref Ce0) "value" = some none) (ie0 : PySem.W.findIn K (.ref Ce0) "__init__" = some (some (.ref fe0))) (ye0 : PySem.W.typeIn K (.ref fe0) = some (.type "function")) (ke0 : PySem.W.keepIn K (.ref Ce0) = true) (be0 : PySem.W.subIn K (.ref Ce0) (.type "BaseException") = some true) (we0 : PySem.W.typeIn K (.ref Ce0) = some (.type "type")) (xe0 : PySem.W.isClsIn K Ce0 = true) (re0 : PySem.W.subIn K (.ref Ce0) (.ref Ce0) = some true) (le0 : K.lookup fe0 = some ⟨oce0, ode0, .func (PySem.W.fnOf "__init__" "InvalidNumber.__init__" (defArgs s_InvalidNumber_init) (defBody s_InvalidNumber_init) (defScope s_InvalidNumber_init) .none kVe0 dce0 pme0 ane0 cde0 cte0), sle0⟩) (ce0 : PySem.W.codeIn K cde0 "InvalidNumber.__init__" = true) (pe0 : PySem.W.keepIn K (.ref fe0) = true)
    (a0 : PySem.W.nsIn K mainGlobals "is_integer" = some (some (.ref f0))) (l0 : K.lookup f0 = some ⟨oc0, od0, .func (PySem.W.fnOf "is_integer" "is_integer" (defArgs s_is_integer) (defBody s_is_integer) (defScope s_is_integer) .none kV0 dc0 pm0 an0 cd0 ct0), sl0⟩) (c0 : PySem.W.codeIn K cd0 "is_integer" = true) (k0 : PySem.W.keepIn K (.ref f0) = true)
    (a1 : PySem.W.nsIn K mainGlobals "is_count" = some (some (.ref f1))) (l1 : K.lookup f1 = some ⟨oc1, od1, .func (PySem.W.fnOf "is_count" "is_count" (defArgs s_is_count) (defBody s_is_count) (defScope s_is_count) .none kV1 dc1 pm1 an1 cd1 ct1), sl1⟩) (c1 : PySem.W.codeIn K cd1 "is_count" = true) (k1 : PySem.W.keepIn K (.ref f1) = true)
    (a2 : PySem.W.nsIn K mainGlobals "is_name" = some (some (.ref f2))) (l2 : K.lookup f2 = some ⟨oc2, od2, .func (PySem.W.fnOf "is_name" "is_name" (defArgs s_is_name) (defBody s_is_name) (defScope s_is_name) .none kV2 dc2 pm2 an2 cd2 ct2), sl2⟩) (c2 : PySem.W.codeIn K cd2 "is_name" = true) (k2 : PySem.W.keepIn K (.ref f2) = true)
    (a3 : PySem.W.nsIn K mainGlobals "is_sorted" = some (some (.ref f3))) (l3 : K.lookup f3 = some ⟨oc3, od3, .func (PySem.W.fnOf "is_sorted" "is_sorted" (defArgs s_is_sorted) (defBody s_is_sorted) (defScope s_is_sorted) .none kV3 dc3 pm3 an3 cd3 ct3), sl3⟩) (c3 : PySem.W.codeIn K cd3 "is_sorted" = true) (k3 : PySem.W.keepIn K (.ref f3) = true)
    (a4 : PySem.W.nsIn K mainGlobals "_law_dice" = some (some (.ref f4))) (l4 : K.lookup f4 = some ⟨oc4, od4, .func (PySem.W.fnOf "_law_dice" "_law_dice" (defArgs s_law_dice) (defBody s_law_dice) (defScope s_law_dice) .none kV4 dc4 pm4 an4 cd4 ct4), sl4⟩) (c4 : PySem.W.codeIn K cd4 "_law_dice" = true) (k4 : PySem.W.keepIn K (.ref f4) = true)
    (a5 : PySem.W.nsIn K mainGlobals "_law_roll" = some (some (.ref f5))) (l5 : K.lookup f5 = some ⟨oc5, od5, .func (PySem.W.fnOf "_law_roll" "_law_roll" (defArgs s_law_roll) (defBody s_law_roll) (defScope s_law_roll) .none kV5 dc5 pm5 an5 cd5 ct5), sl5⟩) (c5 : PySem.W.codeIn K cd5 "_law_roll" = true) (k5 : PySem.W.keepIn K (.ref f5) = true)
    (a6 : PySem.W.nsIn K mainGlobals "_law_pick" = some (some (.ref f6))) (l6 : K.lookup f6 = some ⟨oc6, od6, .func (PySem.W.fnOf "_law_pick" "_law_pick" (defArgs s_law_pick) (defBody s_law_pick) (defScope s_law_pick) .none kV6 dc6 pm6 an6 cd6 ct6), sl6⟩) (c6 : PySem.W.codeIn K cd6 "_law_pick" = true) (k6 : PySem.W.keepIn K (.ref f6) = true)
    (a7 : PySem.W.nsIn K mainGlobals "_law_word" = some (some (.ref f7))) (l7 : K.lookup f7 = some ⟨oc7, od7, .func (PySem.W.fnOf "_law_word" "_law_word" (defArgs s_law_word) (defBody s_law_word) (defScope s_law_word) .none kV7 dc7 pm7 an7 cd7 ct7), sl7⟩) (c7 : PySem.W.codeIn K cd7 "_law_word" = true) (k7 : PySem.W.keepIn K (.ref f7) = true)
    (a8 : PySem.W.nsIn K mainGlobals "_law_is_name" = some (some (.ref f8))) (l8 : K.lookup f8 = some ⟨oc8, od8, .func (PySem.W.fnOf "_law_is_name" "_law_is_name" (defArgs s_law_is_name) (defBody s_law_is_name) (defScope s_law_is_name) .none kV8 dc8 pm8 an8 cd8 ct8), sl8⟩) (c8 : PySem.W.codeIn K cd8 "_law_is_name" = true) (k8 : PySem.W.keepIn K (.ref f8) = true)
    (a9 : PySem.W.nsIn K mainGlobals "_law_places" = some (some (.ref f9))) (l9 : K.lookup f9 = some ⟨oc9, od9, .func (PySem.W.fnOf "_law_places" "_law_places" (defArgs s_law_places) (defBody s_law_places) (defScope s_law_places) .none kV9 dc9 pm9 an9 cd9 ct9), sl9⟩) (c9 : PySem.W.codeIn K cd9 "_law_places" = true) (k9 : PySem.W.keepIn K (.ref f9) = true)
    (a10 : PySem.W.nsIn K mainGlobals "_law_is_less" = some (some (.ref f10))) (l10 : K.lookup f10 = some ⟨oc10, od10, .func (PySem.W.fnOf "_law_is_less" "_law_is_less" (defArgs s_law_is_less) (defBody s_law_is_less) (defScope s_law_is_less) .none kV10 dc10 pm10 an10 cd10 ct10), sl10⟩) (c10 : PySem.W.codeIn K cd10 "_law_is_less" = true) (k10 : PySem.W.keepIn K (.ref f10) = true)
    (a11 : PySem.W.nsIn K mainGlobals "_law_told" = some (some (.ref f11))) (l11 : K.lookup f11 = some ⟨oc11, od11, .func (PySem.W.fnOf "_law_told" "_law_told" (defArgs s_law_told) (defBody s_law_told) (defScope s_law_told) .none kV11 dc11 pm11 an11 cd11 ct11), sl11⟩) (c11 : PySem.W.codeIn K cd11 "_law_told" = true) (k11 : PySem.W.keepIn K (.ref f11) = true)
    (a12 : PySem.W.nsIn K mainGlobals "_law_tuples" = some (some (.ref f12))) (l12 : K.lookup f12 = some ⟨oc12, od12, .func (PySem.W.fnOf "_law_tuples" "_law_tuples" (defArgs s_law_tuples) (defBody s_law_tuples) (defScope s_law_tuples) .none kV12 dc12 pm12 an12 cd12 ct12), sl12⟩) (c12 : PySem.W.codeIn K cd12 "_law_tuples" = true) (k12 : PySem.W.keepIn K (.ref f12) = true)
    (a13 : PySem.W.nsIn K mainGlobals "_law_right" = some (some (.ref f13))) (l13 : K.lookup f13 = some ⟨oc13, od13, .func (PySem.W.fnOf "_law_right" "_law_right" (defArgs s_law_right) (defBody s_law_right) (defScope s_law_right) .none kV13 dc13 pm13 an13 cd13 ct13), sl13⟩) (c13 : PySem.W.codeIn K cd13 "_law_right" = true) (k13 : PySem.W.keepIn K (.ref f13) = true)
    (a14 : PySem.W.nsIn K mainGlobals "law" = some (some (.ref f14))) (l14 : K.lookup f14 = some ⟨oc14, od14, .func (PySem.W.fnOf "law" "law" (defArgs s_law) (defBody s_law) (defScope s_law) .none kV14 dc14 pm14 an14 cd14 ct14), sl14⟩) (c14 : PySem.W.codeIn K cd14 "law" = true) (k14 : PySem.W.keepIn K (.ref f14) = true)
    (m0 : PySem.W.nsIn K mainGlobals "MAX_LETTERS" = some (some (.int 8 t0)))
    (m1 : PySem.W.nsIn K mainGlobals "_TOO_LONG" = some (some (.int 1000000000000000000000000000000000000000000000000000000000000 t1)))
    (z0 : PySem.W.nsIn K mainGlobals "IndexError" = some none)
    (z1 : PySem.W.nsIn K mainGlobals "abs" = some none)
    (z2 : PySem.W.nsIn K mainGlobals "all" = some none)
    (z3 : PySem.W.nsIn K mainGlobals "bool" = some none)
    (z4 : PySem.W.nsIn K mainGlobals "dict" = some none)
    (z5 : PySem.W.nsIn K mainGlobals "enumerate" = some none)
    (z6 : PySem.W.nsIn K mainGlobals "int" = some none)
    (z7 : PySem.W.nsIn K mainGlobals "isinstance" = some none)
    (z8 : PySem.W.nsIn K mainGlobals "len" = some none)
    (z9 : PySem.W.nsIn K mainGlobals "list" = some none)
    (z10 : PySem.W.nsIn K mainGlobals "max" = some none)
    (z11 : PySem.W.nsIn K mainGlobals "min" = some none)
    (z12 : PySem.W.nsIn K mainGlobals "range" = some none)
    (z13 : PySem.W.nsIn K mainGlobals "repr" = some none)
    (z14 : PySem.W.nsIn K mainGlobals "sorted" = some none)
    (z15 : PySem.W.nsIn K mainGlobals "str" = some none)
    (z16 : PySem.W.nsIn K mainGlobals "tuple" = some none) :
    ∃ fd : FuncData, (∀ (s : Shared) (v : Value), BindsTo s fd ⟨[v], []⟩ [("_law_script", v)]) ∧ ∀ base : Heap, K.In base → base.Ns mainGlobals mg → FnG l.prog w K mg base CX0 7 fa fd ["_law_script"] (spLaw K) := by
  have e := hfa.symm.trans (PySem.W.mg_of X G a14)
  cases e
  have T : Top K mg := {
    x_InvalidNumber := ⟨Ce0, fe0, _, ⟨PySem.W.mg_of X G ge0, ⟨_, _, _, _, _, _, _, _, _, _, _, _, _, _, _, he0, te0⟩, oe0, qe0, de0, se0, ue0, ve0, ne0, ie0, ye0, ke0, be0, we0, exm_own be0 xe0 we0 re0⟩, fun_mk le0 ce0 pe0⟩
    d_is_integer := ⟨_, _, fun_mk l0 c0 k0, (fun_mk (st := s_is_integer) l0 c0 k0).binds (ps := ["value"]) fun _ _ _ _ _ _ us hl => match us, hl with | [_], _ => rfl, PySem.W.mg_of X G a0⟩
    d_is_count := ⟨_, _, fun_mk l1 c1 k1, (fun_mk (st := s_is_count) l1 c1 k1).binds (ps := ["value"]) fun _ _ _ _ _ _ us hl => match us, hl with | [_], _ => rfl, PySem.W.mg_of X G a1⟩
    d_is_name := ⟨_, _, fun_mk l2 c2 k2, (fun_mk (st := s_is_name) l2 c2 k2).binds (ps := ["value"]) fun _ _ _ _ _ _ us hl => match us, hl with | [_], _ => rfl, PySem.W.mg_of X G a2⟩
    d_is_sorted := ⟨_, _, fun_mk l3 c3 k3, kbn_of fun us ws h1 h2 => match us, ws, h1, h2 with | [_], [_], _, _ => by first | rfl | with_unfolding_all rfl, PySem.W.mg_of X G a3⟩
    d_law_dice := ⟨_, _, fun_mk l4 c4 k4, (fun_mk (st := s_law_dice) l4 c4 k4).binds (ps := ["_law_script", "_law_spot"]) fun _ _ _ _ _ _ us hl => match us, hl with | [_, _], _ => rfl, PySem.W.mg_of X G a4⟩
    d_law_roll := ⟨_, _, fun_mk l5 c5 k5, (fun_mk (st := s_law_roll) l5 c5 k5).binds (ps := ["_law_dice_here", "_law_total"]) fun _ _ _ _ _ _ us hl => match us, hl with | [_, _], _ => rfl, PySem.W.mg_of X G a5⟩
    d_law_pick := ⟨_, _, fun_mk l6 c6 k6, (fun_mk (st := s_law_pick) l6 c6 k6).binds (ps := ["_law_dice_here", "_law_items"]) fun _ _ _ _ _ _ us hl => match us, hl with | [_, _], _ => rfl, PySem.W.mg_of X G a6⟩
    d_law_word := ⟨_, _, fun_mk l7 c7 k7, (fun_mk (st := s_law_word) l7 c7 k7).binds (ps := ["_law_dice_here"]) fun _ _ _ _ _ _ us hl => match us, hl with | [_], _ => rfl, PySem.W.mg_of X G a7⟩
    d_law_is_name := ⟨_, _, fun_mk l8 c8 k8, (fun_mk (st := s_law_is_name) l8 c8 k8).binds (ps := ["_law_word_here"]) fun _ _ _ _ _ _ us hl => match us, hl with | [_], _ => rfl, PySem.W.mg_of X G a8⟩
    d_law_places := ⟨_, _, fun_mk l9 c9 k9, (fun_mk (st := s_law_places) l9 c9 k9).binds (ps := ["_law_words"]) fun _ _ _ _ _ _ us hl => match us, hl with | [_], _ => rfl, PySem.W.mg_of X G a9⟩
    d_law_is_less := ⟨_, _, fun_mk l10 c10 k10, (fun_mk (st := s_law_is_less) l10 c10 k10).binds (ps := ["_law_one", "_law_other"]) fun _ _ _ _ _ _ us hl => match us, hl with | [_, _], _ => rfl, PySem.W.mg_of X G a10⟩
    d_law_told := ⟨_, _, fun_mk l11 c11 k11, (fun_mk (st := s_law_told) l11 c11 k11).binds (ps := ["_law_value", "_law_limit"]) fun _ _ _ _ _ _ us hl => match us, hl with | [_, _], _ => rfl, PySem.W.mg_of X G a11⟩
    d_law_tuples := ⟨_, _, fun_mk l12 c12 k12, (fun_mk (st := s_law_tuples) l12 c12 k12).binds (ps := ["_law_words"]) fun _ _ _ _ _ _ us hl => match us, hl with | [_], _ => rfl, PySem.W.mg_of X G a12⟩
    d_law_right := ⟨_, _, fun_mk l13 c13 k13, (fun_mk (st := s_law_right) l13 c13 k13).binds (ps := ["_law_dice_here"]) fun _ _ _ _ _ _ us hl => match us, hl with | [_], _ => rfl, PySem.W.mg_of X G a13⟩
    g_MAX_LETTERS := ⟨_, PySem.W.mg_of X G m0⟩
    g__TOO_LONG := ⟨_, PySem.W.mg_of X G m1⟩
    b_IndexError := PySem.W.mg_none_of X G z0
    b_abs := PySem.W.mg_none_of X G z1
    b_all := PySem.W.mg_none_of X G z2
    b_bool := PySem.W.mg_none_of X G z3
    b_dict := PySem.W.mg_none_of X G z4
    b_enumerate := PySem.W.mg_none_of X G z5
    b_int := PySem.W.mg_none_of X G z6
    b_isinstance := PySem.W.mg_none_of X G z7
    b_len := PySem.W.mg_none_of X G z8
    b_list := PySem.W.mg_none_of X G z9
    b_max := PySem.W.mg_none_of X G z10
    b_min := PySem.W.mg_none_of X G z11
    b_range := PySem.W.mg_none_of X G z12
    b_repr := PySem.W.mg_none_of X G z13
    b_sorted := PySem.W.mg_none_of X G z14
    b_str := PySem.W.mg_none_of X G z15
    b_tuple := PySem.W.mg_none_of X G z16 }
  exact ⟨PySem.W.fnOf "law" "law" (defArgs s_law) (defBody s_law) (defScope s_law) .none kV14 dc14 pm14 an14 cd14 ct14, fun s v => .of_eq rfl, fun base _ _ => ok_law (fun_mk (st := s_law) l14 c14 k14) T⟩
end Kl
open PySem PySem.W PyProof.Rows
set_option maxHeartbeats 0 in
theorem PySem.Challenge.cw_linkbooks_k01_whole_sorted_tuples_holds : PySem.Challenge.rw_linkbooks_k01_whole_sorted_tuples.Holds := by
  w_on; o_law; k_head; (case hw => w_witness2)
  k_fill
  refine Gx.walkG (l := PySem.Challenge.rw_linkbooks_k01_whole_sorted_tuples) (n := 63) (k := 7) (x := "_law_script") (CX := fun _ => L2.CX0) (sp := fun w => Kl.spLaw _) rfl (by decide) rfl ⟨rfl, by decide, by decide⟩ (fun w h Y => PySem.W.kIn_of Y) ?F (fun _ _ a ns hl _ hS => ⟨a, ns, rfl, hS, hl, fun _ => rfl⟩) (fun _ _ _ _ _ h => h)
  case F =>
    intro w mg fa h KX G hmg
    refine' Kl.all_mk KX G hmg ?ge0 ?he0 ?te0 ?oe0 ?qe0 ?de0 ?se0 ?ue0 ?ve0 ?ne0 ?ie0 ?ye0 ?ke0 ?be0 ?we0 ?xe0 ?re0 ?le0 ?ce0 ?pe0 ?a0 ?l0 ?c0 ?k0 ?a1 ?l1 ?c1 ?k1 ?a2 ?l2 ?c2 ?k2 ?a3 ?l3 ?c3 ?k3 ?a4 ?l4 ?c4 ?k4 ?a5 ?l5 ?c5 ?k5 ?a6 ?l6 ?c6 ?k6 ?a7 ?l7 ?c7 ?k7 ?a8 ?l8 ?c8 ?k8 ?a9 ?l9 ?c9 ?k9 ?a10 ?l10 ?c10 ?k10 ?a11 ?l11 ?c11 ?k11 ?a12 ?l12 ?c12 ?k12 ?a13 ?l13 ?c13 ?k13 ?a14 ?l14 ?c14 ?k14 ?m0 ?m1 ?z0 ?z1 ?z2 ?z3 ?z4 ?z5 ?z6 ?z7 ?z8 ?z9 ?z10 ?z11 ?z12 ?z13 ?z14 ?z15 ?z16
    (case ge0 => k_is); (case he0 => k_is); (case te0 => decide +kernel); (case oe0 => kx_is); (case qe0 => k_is); (case de0 => k_is); (case se0 => k_is); (case ue0 => k_is); (case ve0 => k_is); (case ne0 => k_is); (case ie0 => k_is); (case ye0 => k_is); (case ke0 => k_is); (case be0 => k_is); (case we0 => k_is); (case xe0 => k_is); (case re0 => first | rfl | k_is); (case le0 => k_is); (case ce0 => k_is); (case pe0 => k_is); (case a0 => k_is); (case l0 => k_is); (case c0 => k_is); (case k0 => k_is); (case a1 => k_is); (case l1 => k_is); (case c1 => k_is); (case k1 => k_is); (case a2 => k_is); (case l2 => k_is); (case c2 => k_is); (case k2 => k_is); (case a3 => k_is); (case l3 => k_is); (case c3 => k_is); (case k3 => k_is); (case a4 => k_is); (case l4 => k_is); (case c4 => k_is); (case k4 => k_is); (case a5 => k_is); (case l5 => k_is); (case c5 => k_is); (case k5 => k_is); (case a6 => k_is); (case l6 => k_is); (case c6 => k_is); (case k6 => k_is); (case a7 => k_is); (case l7 => k_is); (case c7 => k_is); (case k7 => k_is); (case a8 => k_is); (case l8 => k_is); (case c8 => k_is); (case k8 => k_is); (case a9 => k_is); (case l9 => k_is); (case c9 => k_is); (case k9 => k_is); (case a10 => k_is); (case l10 => k_is); (case c10 => k_is); (case k10 => k_is); (case a11 => k_is); (case l11 => k_is); (case c11 => k_is); (case k11 => k_is); (case a12 => k_is); (case l12 => k_is); (case c12 => k_is); (case k12 => k_is); (case a13 => k_is); (case l13 => k_is); (case c13 => k_is); (case k13 => k_is); (case a14 => k_is); (case l14 => k_is); (case c14 => k_is); (case k14 => k_is); (case m0 => k_is); (case m1 => k_is); (case z0 => k_is); (case z1 => k_is); (case z2 => k_is); (case z3 => k_is); (case z4 => k_is); (case z5 => k_is); (case z6 => k_is); (case z7 => k_is); (case z8 => k_is); (case z9 => k_is); (case z10 => k_is); (case z11 => k_is); (case z12 => k_is); (case z13 => k_is); (case z14 => k_is); (case z15 => k_is); (case z16 => k_is)
